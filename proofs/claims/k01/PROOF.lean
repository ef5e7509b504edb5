import PyProof.Rows.All
import Wide.All
import OpenK.AllK
import Wide.FinOn
import HandS.ForMost
import HandS.SortKw
import HandS.SortInts
import HandS.TupAny
import PyProof.TupleOfSeq
import KE.DataMinMax
import KE.SortData
import HandS.Zip
import KE.GoesMore
import HandS.IsInst
import HandS.Property
import HandS.MakeKwOnly
import HandS.Head0
import HandS.Head1
import HandS.Head2
import HandS.HeadEnd
import HandS.HeadHook1
import HandS.HeadHook2
import HandS.HeadNt
import HandS.Exc
import KE.KIsAll
import HandS.Flt
import HandS.SlotsOwn
import HandS.ExcCtx
import HandS.HotCalls
import HandS.ExcInit
import HandS.ExcField
import HandS.ExcIs
import HandS.WordsExc
import HandS.Star
import HandS.TupLe
import KE.KRevSl
import HandS.Codes
import HandS.Defaults
import HandS.Deep
import HandS.RevRange
import HandS.IterVal
import HandS.Zip0
import HandS.OwnIter
import KE.GoesEnum
import HandS.Conv
import KE.KDictList
import HandS.ListItems
import HandS.Strs
import PySem.Challenge.RW_unmovedways_k01_house_numbers
set_option Elab.async false
set_option linter.all false
set_option maxRecDepth 100000
namespace TP
open PySem PySem.Spec PyProof.Rows L2
def Ex (H H' : Hp) : Prop := ∀ a o, H a = some o → H' a = some o
theorem Ex.refl (H : Hp) : Ex H H := fun _ _ h => h
theorem Ex.trans {H H1 H2 : Hp} (a : Ex H H1) (b : Ex H1 H2) : Ex H H2 := fun x o h => b x o (a x o h)
theorem Ex.non {H H' : Hp} (e : Ex H H') {a : Addr} (h : H' a = none) : H a = none := by
  cases q : H a with
  | none => rfl
  | some o => rw [e a o q] at h; cases h
theorem Ex.new {H : Hp} {p : Addr} {o : HO} (h : H p = none) : Ex H (upd H p o) := fun a u e => by
  rw [upd_ne (ne_of_none e h)]; exact e
theorem Ex.both {G H : Hp} {p : Addr} {o : HO} (e : Ex G H) : Ex (upd G p o) (upd H p o) := fun a u h => by
  by_cases q : a = p
  · subst q; rw [upd_same] at h ⊢; exact h
  · rw [upd_ne q] at h ⊢; exact e a u h
theorem Ex.right {G H : Hp} {p : Addr} {o : HO} (e : Ex G H) (h : G p = none) : Ex G (upd H p o) := fun a u q => by
  rw [upd_ne (ne_of_none q h)]; exact e a u q
theorem ne_none_of {H : Hp} {a : Addr} {o : HO} (h : H a = some o) : H a ≠ none := by rw [h]; intro q; cases q
structure Stp (G H G' H' : Hp) : Prop where
  g : Ex G G'
  h : Ex H H'
  m : Ex G' H'
  p : ∀ a, H a ≠ none → G a = none → G' a = none
theorem Stp.refl {G H : Hp} (e : Ex G H) : Stp G H G H := ⟨Ex.refl _, Ex.refl _, e, fun _ _ h => h⟩
theorem Stp.trans {G H G1 H1 G2 H2 : Hp} (a : Stp G H G1 H1) (b : Stp G1 H1 G2 H2) : Stp G H G2 H2 :=
  ⟨a.g.trans b.g, a.h.trans b.h, b.m, fun x hx hg => b.p x (fun q => hx (a.h.non q)) (a.p x hx hg)⟩
theorem Stp.new {G H : Hp} {p : Addr} {o : HO} (e : Ex G H) (h : H p = none) : Stp G H (upd G p o) (upd H p o) :=
  ⟨Ex.new (e.non h), Ex.new h, e.both, fun a ha hg => by
    have : a ≠ p := fun q => ha (by rw [q]; exact h)
    rw [upd_ne this]; exact hg⟩
theorem Stp.priv {G H : Hp} {p : Addr} {o : HO} (e : Ex G H) (h : H p = none) : Stp G H G (upd H p o) :=
  ⟨Ex.refl _, Ex.new h, e.right (e.non h), fun _ _ q => q⟩
theorem Stp.turn {G0 H0 G H : Hp} {p : Addr} {o : HO} (s : Stp G0 H0 G H) (h0 : H0 p = none) (hg : G p = none) : Stp G0 H0 G (upd H p o) :=
  ⟨s.g, s.h.right h0, s.m.right hg, s.p⟩
theorem Stp.freeze {G0 H0 G H : Hp} {p : Addr} {o : HO} (s : Stp G0 H0 G H) (h0 : H0 p = none) (hg : G p = none) (hp : H p = some o) : Stp G0 H0 (upd G p o) H :=
  ⟨fun a u e => by rw [upd_ne (ne_of_none (s.g a u e) hg)]; exact s.g a u e, s.h, fun a u e => by
    by_cases q : a = p
    · subst q; rw [upd_same] at e; rw [hp]; exact e
    · rw [upd_ne q] at e; exact s.m a u e, fun a ha e => by
    have : a ≠ p := fun q => ha (by rw [q]; exact h0)
    rw [upd_ne this]; exact s.p a ha e⟩
def All2 {α β : Type} (R : β → α → Prop) : List β → List α → Prop
  | [], [] => True
  | v :: vs, x :: xs => R v x ∧ All2 R vs xs
  | _, _ => False
section
variable {α β : Type} {R S : β → α → Prop}
theorem All2.mono (h : ∀ v x, R v x → S v x) : ∀ {vs : List β} {xs : List α}, All2 R vs xs → All2 S vs xs
  | [], [], _ => trivial
  | _ :: _, _ :: _, q => ⟨h _ _ q.1, All2.mono h q.2⟩
  | [], _ :: _, q => q.elim
  | _ :: _, [], q => q.elim
theorem All2.len : ∀ {vs : List β} {xs : List α}, All2 R vs xs → vs.length = xs.length
  | [], [], _ => rfl
  | _ :: _, _ :: _, q => by rw [List.length_cons, List.length_cons, All2.len q.2]
  | [], _ :: _, q => q.elim
  | _ :: _, [], q => q.elim
theorem All2.get : ∀ {vs : List β} {xs : List α} {i : Nat} {x : α}, All2 R vs xs → xs[i]? = some x → ∃ v, vs[i]? = some v ∧ R v x
  | [], [], _, _, _, h => by simp at h
  | v :: _, y :: _, 0, x, q, h => by
    have e : y = x := by simpa using h
    subst e; exact ⟨v, rfl, q.1⟩
  | _ :: vs, _ :: xs, i + 1, x, q, h => by
    obtain ⟨v, hv, r⟩ := All2.get (i := i) q.2 (by simpa using h)
    exact ⟨v, by simpa using hv, r⟩
  | [], _ :: _, _, _, q, _ => q.elim
  | _ :: _, [], _, _, q, _ => q.elim
theorem All2.app : ∀ {vs ws : List β} {xs ys : List α}, All2 R vs xs → All2 R ws ys → All2 R (vs ++ ws) (xs ++ ys)
  | [], _, [], _, _, q => q
  | _ :: _, _, _ :: _, _, p, q => ⟨p.1, All2.app p.2 q⟩
  | [], _, _ :: _, _, p, _ => p.elim
  | _ :: _, _, [], _, p, _ => p.elim
theorem All2.one {v : β} {x : α} (h : R v x) : All2 R [v] [x] := ⟨h, trivial⟩
theorem All2.drop : ∀ {vs : List β} {xs : List α} (n : Nat), All2 R vs xs → All2 R (vs.drop n) (xs.drop n)
  | vs, xs, 0, q => q
  | [], [], _ + 1, q => q
  | _ :: _, _ :: _, n + 1, q => All2.drop n q.2
  | [], _ :: _, _ + 1, q => q.elim
  | _ :: _, [], _ + 1, q => q.elim
theorem All2.take : ∀ {vs : List β} {xs : List α} (n : Nat), All2 R vs xs → All2 R (vs.take n) (xs.take n)
  | _, _, 0, _ => by simp [All2]
  | [], [], _ + 1, q => by simp [All2]
  | _ :: _, _ :: _, n + 1, q => ⟨q.1, All2.take n q.2⟩
  | [], _ :: _, _ + 1, q => q.elim
  | _ :: _, [], _ + 1, q => q.elim
theorem All2.set : ∀ {vs : List β} {xs : List α} {v : β} {x : α} (i : Nat), All2 R vs xs → R v x → All2 R (vs.set i v) (xs.set i x)
  | [], [], _, _, _, q, _ => q
  | _ :: _, _ :: _, _, _, 0, q, r => ⟨r, q.2⟩
  | _ :: _, _ :: _, _, _, i + 1, q, r => ⟨q.1, All2.set i q.2 r⟩
  | [], _ :: _, _, _, _, q, _ => q.elim
  | _ :: _, [], _, _, _, q, _ => q.elim
theorem All2.rev {vs : List β} {xs : List α} (h : All2 R vs xs) : All2 R vs.reverse xs.reverse := by
  induction vs generalizing xs with
  | nil => cases xs with
    | nil => exact h
    | cons => exact h.elim
  | cons v vs ih => cases xs with
    | nil => exact h.elim
    | cons x xs =>
      rw [List.reverse_cons, List.reverse_cons]
      exact (ih h.2).app (.one h.1)
theorem All2.rep {v : β} {x : α} (h : R v x) : ∀ n : Nat, All2 R (List.replicate n v) (List.replicate n x)
  | 0 => trivial
  | n + 1 => by rw [List.replicate_succ, List.replicate_succ]; exact ⟨h, All2.rep h n⟩
end
structure Ty (α : Type) where
  rp : Hp → V → α → Prop
  mono : ∀ {H H' : Hp} {v : V} {x : α}, Ex H H' → rp H v x → rp H' v x
def tyI : Ty Int := ⟨fun _ v x => v = .int x, fun _ h => h⟩
def tyB : Ty Bool := ⟨fun _ v x => v = .bl x, fun _ h => h⟩
def tyN : Ty Unit := ⟨fun _ v _ => v = .non, fun _ h => h⟩
def tyS : Ty Str := ⟨fun _ v x => v = .str x, fun _ h => h⟩
theorem Rd.mono {H H' : Hp} {a : Addr} {u : HO} (e : Ex H H') (h : Rd H a u) : Rd H' a u := by
  rcases h with h | ⟨o, h⟩
  · exact Or.inl (e a _ h)
  · exact Or.inr ⟨o, e a _ h⟩
theorem SqL.mono {K : PySem.W.Frag} {H H' : Hp} {a : Addr} {xs : List V} (e : Ex H H') (h : SqL K H a xs) : SqL K H' a xs := by
  rcases h with h | h
  · exact Or.inl (Rd.mono e h)
  · exact Or.inr h
theorem SqT.mono {K : PySem.W.Frag} {H H' : Hp} {a : Addr} {xs : List V} (e : Ex H H') (h : SqT K H a xs) : SqT K H' a xs := by
  rcases h with h | h
  · exact Or.inl (Rd.mono e h)
  · exact Or.inr h
def tyL {α : Type} (T : Ty α) : Ty (List α) :=
  ⟨fun H v xs => ∃ a vs, v = .ref a ∧ H a = some (.lst vs) ∧ All2 (T.rp H) vs xs, fun e ⟨a, vs, h1, h2, h3⟩ => ⟨a, vs, h1, e a _ h2, h3.mono fun _ _ q => T.mono e q⟩⟩
def tyLs (K : PySem.W.Frag) {α : Type} (T : Ty α) : Ty (List α) :=
  ⟨fun H v xs => ∃ a vs, v = .ref a ∧ SqL K H a vs ∧ All2 (T.rp H) vs xs, fun e ⟨a, vs, h1, h2, h3⟩ => ⟨a, vs, h1, SqL.mono e h2, h3.mono fun _ _ q => T.mono e q⟩⟩
def tyU (K : PySem.W.Frag) {α : Type} (T : Ty α) : Ty (List α) :=
  ⟨fun H v xs => ∃ a vs, v = .ref a ∧ SqT K H a vs ∧ All2 (T.rp H) vs xs, fun e ⟨a, vs, h1, h2, h3⟩ => ⟨a, vs, h1, SqT.mono e h2, h3.mono fun _ _ q => T.mono e q⟩⟩
structure ATy (β : Type) where
  n : Nat
  rp : Hp → List V → β → Prop
  mono : ∀ {H H' : Hp} {vs : List V} {x : β}, Ex H H' → rp H vs x → rp H' vs x
  len : ∀ {H : Hp} {vs : List V} {x : β}, rp H vs x → vs.length = n
def aN : ATy Unit := ⟨0, fun _ vs _ => vs = [], fun _ h => h, fun h => by rw [h]; rfl⟩
def aC {α β : Type} (T : Ty α) (A : ATy β) : ATy (α × β) :=
  ⟨A.n + 1, fun H vs x => ∃ v r, vs = v :: r ∧ T.rp H v x.1 ∧ A.rp H r x.2, fun e ⟨v, r, h1, h2, h3⟩ => ⟨v, r, h1, T.mono e h2, A.mono e h3⟩, fun ⟨v, r, h1, _, h3⟩ => by rw [h1, List.length_cons, A.len h3]⟩
def tyH (K : PySem.W.Frag) {β : Type} (A : ATy β) : Ty β :=
  ⟨fun H v x => ∃ a vs, v = .ref a ∧ SqT K H a vs ∧ A.rp H vs x, fun e ⟨a, vs, h1, h2, h3⟩ => ⟨a, vs, h1, SqT.mono e h2, A.mono e h3⟩⟩
def tyHL {β : Type} (A : ATy β) : Ty β :=
  ⟨fun H v x => ∃ a vs, v = .ref a ∧ H a = some (.lst vs) ∧ A.rp H vs x, fun e ⟨a, vs, h1, h2, h3⟩ => ⟨a, vs, h1, e a _ h2, A.mono e h3⟩⟩
def Flat {α : Type} (T : Ty α) : Prop := ∀ H H' v x, T.rp H v x → T.rp H' v x
theorem flatI : Flat tyI := fun _ _ _ _ h => h
theorem flatB : Flat tyB := fun _ _ _ _ h => h
theorem flatN : Flat tyN := fun _ _ _ _ h => h
theorem flatS : Flat tyS := fun _ _ _ _ h => h
structure FV : Type 1 where
  {α : Type}
  n : Str
  T : Ty α
  x : α
def FVs (G : Hp) : List (Str × V) → List FV → Prop
  | [], [] => True
  | v :: vs, f :: fs => (v.1 = f.n ∧ f.T.rp G v.2 f.x) ∧ FVs G vs fs
  | _, _ => False
theorem FVs.mono {G G' : Hp} (e : Ex G G') : ∀ {vs : List (Str × V)} {fs : List FV}, FVs G vs fs → FVs G' vs fs
  | [], [], _ => trivial
  | _ :: _, f :: _, q => ⟨⟨q.1.1, f.T.mono e q.1.2⟩, FVs.mono e q.2⟩
  | [], _ :: _, q => q.elim
  | _ :: _, [], q => q.elim
theorem FVs.len {G : Hp} : ∀ {vs : List (Str × V)} {fs : List FV}, FVs G vs fs → vs.length = fs.length
  | [], [], _ => rfl
  | _ :: _, _ :: _, q => by rw [List.length_cons, List.length_cons, FVs.len q.2]
  | [], _ :: _, q => q.elim
  | _ :: _, [], q => q.elim
inductive Slot : Type 1 where
  | no : Slot
  | pu {α : Type} (T : Ty α) (x : α) : Slot
  | ow {α : Type} (T : Ty α) (xs : List α) : Slot
  | ob (a C : Addr) (fs : List FV) : Slot
def Slot.at (H0 G H : Hp) (o : Option V) : Slot → Prop
  | .no => True
  | .pu T x => ∃ v, o = some v ∧ T.rp G v x
  | .ow T xs => ∃ a vs, o = some (.ref a) ∧ H a = some (.lst vs) ∧ G a = none ∧ H0 a = none ∧ All2 (T.rp G) vs xs
  | .ob a C fs => ∃ dx vs, o = some (.ref a) ∧ H a = some (.ins C dx vs) ∧ G a = none ∧ H0 a = none ∧ FVs G vs fs
def Slot.isOw : Slot → Bool
  | .ow _ _ => true
  | .ob _ _ _ => true
  | _ => false
theorem Slot.own {H0 G H : Hp} {o : Option V} {t : Slot} (h : t.at H0 G H o) (w : t.isOw = true) : ∃ a, o = some (.ref a) ∧ H a ≠ none ∧ G a = none := by
  cases t with
  | no => cases w
  | pu => cases w
  | ow T xs => obtain ⟨a, vs, e, ha, hg, _⟩ := h; exact ⟨a, e, ne_none_of ha, hg⟩
  | ob a C fs => obtain ⟨dx, vs, e, ha, hg, _⟩ := h; exact ⟨a, e, ne_none_of ha, hg⟩
abbrev Env := List Slot
structure Slots (H0 G H : Hp) (σ : L2.St) (Γ : TP.Env) : Prop where
  m : Ex G H
  len : σ.length = Γ.length
  at_ : ∀ (i : Nat) (t : Slot), Γ[i]? = some t → ∃ o, σ[i]? = some o ∧ t.at H0 G H o
  dis : ∀ (i j : Nat) (a : Addr) (t u : Slot), i ≠ j → Γ[i]? = some t → Γ[j]? = some u → t.isOw = true → u.isOw = true → σ[i]? = some (some (.ref a)) → σ[j]? = some (some (.ref a)) → False
theorem Slot.at.step {H0 G H G' H' : Hp} {o : Option V} {t : Slot} (s : Stp G H G' H') (h : t.at H0 G H o) : t.at H0 G' H' o := by
  cases t with
  | no => trivial
  | pu T x => obtain ⟨v, e, r⟩ := h; exact ⟨v, e, T.mono s.g r⟩
  | ow T xs =>
    obtain ⟨a, vs, e, ha, hg, h0, r⟩ := h
    exact ⟨a, vs, e, s.h a _ ha, s.p a (ne_none_of ha) hg, h0, r.mono fun _ _ q => T.mono s.g q⟩
  | ob a C fs =>
    obtain ⟨dx, vs, e, ha, hg, h0, r⟩ := h
    exact ⟨dx, vs, e, s.h a _ ha, s.p a (ne_none_of ha) hg, h0, r.mono s.g⟩
theorem Slots.step {H0 G H G' H' : Hp} {σ : L2.St} {Γ : TP.Env} (S : Slots H0 G H σ Γ) (s : Stp G H G' H') : Slots H0 G' H' σ Γ :=
  ⟨s.m, S.len, fun i t h => by obtain ⟨o, e, q⟩ := S.at_ i t h; exact ⟨o, e, q.step s⟩, S.dis⟩
theorem set_get.{u} {α : Type u} {l : List α} {i j : Nat} {x y : α} (h : (l.set i x)[j]? = some y) : (i = j ∧ x = y ∧ j < l.length) ∨ (i ≠ j ∧ l[j]? = some y) := by
  rw [List.getElem?_set] at h
  by_cases e : i = j
  · subst e
    rw [if_pos rfl] at h
    by_cases q : i < l.length
    · rw [if_pos q] at h; exact Or.inl ⟨rfl, Option.some.inj h, q⟩
    · rw [if_neg q] at h; cases h
  · rw [if_neg e] at h; exact Or.inr ⟨e, h⟩
theorem Slots.set {α : Type} {H0 G H : Hp} {σ : L2.St} {Γ : TP.Env} {i : Nat} {v : V} {T : Ty α} {x : α} (S : Slots H0 G H σ Γ) (h : T.rp G v x) : Slots H0 G H (σ.set i (some v)) (Γ.set i (.pu T x)) := by
  refine ⟨S.m, by rw [List.length_set, List.length_set, S.len], fun j t hj => ?_, fun j k a t u ne hj hk ht hu ej ek => ?_⟩
  · rcases set_get hj with ⟨rfl, rfl, hl⟩ | ⟨ne, hj⟩
    · exact ⟨some v, List.getElem?_set_self (by rw [S.len]; exact hl), v, rfl, h⟩
    · obtain ⟨o, e, q⟩ := S.at_ j t hj
      exact ⟨o, by rw [List.getElem?_set_ne ne]; exact e, q⟩
  · rcases set_get hj with ⟨rfl, rfl, _⟩ | ⟨nj, hj⟩
    · cases ht
    · rcases set_get hk with ⟨rfl, rfl, _⟩ | ⟨nk, hk⟩
      · cases hu
      · rw [List.getElem?_set_ne nj] at ej
        rw [List.getElem?_set_ne nk] at ek
        exact S.dis j k a t u ne hj hk ht hu ej ek
theorem Slots.setOw {α : Type} {H0 G H : Hp} {σ : L2.St} {Γ : TP.Env} {i : Nat} {p : Addr} {vs : List V} {T : Ty α} {xs : List α} (S : Slots H0 G H σ Γ) (hp : H p = none) (h0 : H0 p = none) (r : All2 (T.rp G) vs xs) :
    Slots H0 G (upd H p (.lst vs)) (σ.set i (some (.ref p))) (Γ.set i (.ow T xs)) := by
  have S1 := S.step (Stp.priv (o := .lst vs) S.m hp)
  refine ⟨S1.m, by rw [List.length_set, List.length_set, S.len], fun j t hj => ?_, fun j k a t u ne hj hk ht hu ej ek => ?_⟩
  · rcases set_get hj with ⟨rfl, rfl, hl⟩ | ⟨ne, hj⟩
    · exact ⟨some (.ref p), List.getElem?_set_self (by rw [S.len]; exact hl), p, vs, rfl, upd_same, S.m.non hp, h0, r⟩
    · obtain ⟨o, e, q⟩ := S1.at_ j t hj
      exact ⟨o, by rw [List.getElem?_set_ne ne]; exact e, q⟩
  · have key : ∀ (m : Nat) (t : Slot), Γ[m]? = some t → t.isOw = true → σ[m]? = some (some (.ref p)) → False := fun m t hm ht em => by
      obtain ⟨o, eo, q⟩ := S.at_ m t hm
      obtain ⟨a, e, ha, _⟩ := Slot.own q ht
      rw [em] at eo
      have := Option.some.inj eo
      rw [e] at this
      have e2 : p = a := by cases this; rfl
      exact ha (by rw [← e2, hp])
    rcases set_get hj with ⟨rfl, rfl, hl⟩ | ⟨nj, hj⟩
    · rcases set_get hk with ⟨rfl, _, _⟩ | ⟨nk, hk⟩
      · exact ne rfl
      · rw [List.getElem?_set_self (by rw [S.len]; exact hl)] at ej
        have e2 : p = a := by cases ej; rfl
        rw [List.getElem?_set_ne nk] at ek
        exact key k u hk hu (by rw [e2]; exact ek)
    · rcases set_get hk with ⟨rfl, rfl, hl⟩ | ⟨nk, hk⟩
      · rw [List.getElem?_set_self (by rw [S.len]; exact hl)] at ek
        have e2 : p = a := by cases ek; rfl
        rw [List.getElem?_set_ne nj] at ej
        exact key j t hj ht (by rw [e2]; exact ej)
      · rw [List.getElem?_set_ne nj] at ej
        rw [List.getElem?_set_ne nk] at ek
        exact S.dis j k a t u ne hj hk ht hu ej ek
theorem Slots.turn {α : Type} {H0 G H : Hp} {σ : L2.St} {Γ : TP.Env} {i : Nat} {p : Addr} {vs : List V} {T : Ty α} {xs ys : List α} (S : Slots H0 G H σ Γ) (hi : Γ[i]? = some (.ow T xs)) (hp : σ[i]? = some (some (.ref p))) (hg : G p = none) (h0 : H0 p = none) (r : All2 (T.rp G) vs ys) :
    Slots H0 G (upd H p (.lst vs)) σ (Γ.set i (.ow T ys)) := by
  refine ⟨S.m.right hg, by rw [List.length_set, S.len], fun j t hj => ?_, fun j k a t u ne hj hk ht hu ej ek => ?_⟩
  · rcases set_get hj with ⟨rfl, rfl, hl⟩ | ⟨ne, hj⟩
    · exact ⟨some (.ref p), hp, p, vs, rfl, upd_same, hg, h0, r⟩
    · obtain ⟨o, e, q⟩ := S.at_ j t hj
      refine ⟨o, e, ?_⟩
      cases t with
      | no => trivial
      | pu => exact q
      | ow U zs =>
        obtain ⟨b, ws, eo, hb, gb, b0, rb⟩ := q
        have nb : b ≠ p := fun z => S.dis i j p _ _ ne hi hj rfl rfl hp (by rw [e, eo, z])
        exact ⟨b, ws, eo, by rw [upd_ne nb]; exact hb, gb, b0, rb⟩
      | ob b C zs =>
        obtain ⟨dx, ws, eo, hb, gb, b0, rb⟩ := q
        have nb : b ≠ p := fun z => S.dis i j p _ _ ne hi hj rfl rfl hp (by rw [e, eo, z])
        exact ⟨dx, ws, eo, by rw [upd_ne nb]; exact hb, gb, b0, rb⟩
  · have hj' : ∃ t', Γ[j]? = some t' ∧ t'.isOw = true := by
      rcases set_get hj with ⟨rfl, _, _⟩ | ⟨_, hj⟩
      · exact ⟨_, hi, rfl⟩
      · exact ⟨t, hj, ht⟩
    have hk' : ∃ t', Γ[k]? = some t' ∧ t'.isOw = true := by
      rcases set_get hk with ⟨rfl, _, _⟩ | ⟨_, hk⟩
      · exact ⟨_, hi, rfl⟩
      · exact ⟨u, hk, hu⟩
    obtain ⟨t', h1, h2⟩ := hj'
    obtain ⟨u', h3, h4⟩ := hk'
    exact S.dis j k a t' u' ne h1 h3 h2 h4 ej ek
theorem Slots.lend {α : Type} {H0 G H : Hp} {σ : L2.St} {Γ : TP.Env} {i : Nat} {T : Ty α} {xs : List α} (S : Slots H0 G H σ Γ) (hi : Γ[i]? = some (.ow T xs)) :
    ∃ p vs, σ[i]? = some (some (.ref p)) ∧ H p = some (.lst vs) ∧ G p = none ∧ H0 p = none ∧ All2 (T.rp G) vs xs ∧ Slots H0 (upd G p (.lst vs)) H σ (Γ.set i (.pu (tyL T) xs)) := by
  obtain ⟨o, eo, p, vs, e, hp, hg, h0, r⟩ := S.at_ i _ hi
  subst e
  have eG : Ex G (upd G p (.lst vs)) := Ex.new hg
  refine ⟨p, vs, eo, hp, hg, h0, r, fun a u e => ?_, by rw [List.length_set, S.len], fun j t hj => ?_, fun j k a t u ne hj hk ht hu ej ek => ?_⟩
  · by_cases q : a = p
    · subst q; rw [upd_same] at e; rw [hp]; exact e
    · rw [upd_ne q] at e; exact S.m a u e
  · rcases set_get hj with ⟨rfl, rfl, hl⟩ | ⟨ne, hj⟩
    · exact ⟨_, eo, _, rfl, p, vs, rfl, upd_same, r.mono fun _ _ q => T.mono eG q⟩
    · obtain ⟨o', e', q⟩ := S.at_ j t hj
      refine ⟨o', e', ?_⟩
      cases t with
      | no => trivial
      | pu U y => obtain ⟨v, e1, r1⟩ := q; exact ⟨v, e1, U.mono eG r1⟩
      | ow U zs =>
        obtain ⟨b, ws, eb, hb, gb, b0, rb⟩ := q
        have nb : b ≠ p := fun z => S.dis i j p _ _ ne hi hj rfl rfl eo (by rw [e', eb, z])
        exact ⟨b, ws, eb, hb, by rw [upd_ne nb]; exact gb, b0, rb.mono fun _ _ q => U.mono eG q⟩
      | ob b C zs =>
        obtain ⟨dx, ws, eb, hb, gb, b0, rb⟩ := q
        have nb : b ≠ p := fun z => S.dis i j p _ _ ne hi hj rfl rfl eo (by rw [e', eb, z])
        exact ⟨dx, ws, eb, hb, by rw [upd_ne nb]; exact gb, b0, rb.mono eG⟩
  · rcases set_get hj with ⟨rfl, rfl, _⟩ | ⟨nj, hj⟩
    · cases ht
    · rcases set_get hk with ⟨rfl, rfl, _⟩ | ⟨nk, hk⟩
      · cases hu
      · exact S.dis j k a t u ne hj hk ht hu ej ek
inductive Wk : TP.Env → TP.Env → Prop
  | nil : Wk [] []
  | same {t : Slot} {Γ Δ : TP.Env} : Wk Γ Δ → Wk (t :: Γ) (t :: Δ)
  | drop {t : Slot} {Γ Δ : TP.Env} : Wk Γ Δ → Wk (t :: Γ) (.no :: Δ)
theorem Wk.get : ∀ {Γ Δ : TP.Env}, Wk Γ Δ → Γ.length = Δ.length ∧ ∀ (i : Nat) (t : Slot), Δ[i]? = some t → t = .no ∧ (∃ u, Γ[i]? = some u) ∨ Γ[i]? = some t
  | _, _, .nil => ⟨rfl, fun i t h => by simp at h⟩
  | _, _, .same (t := s) (Γ := Γ) (Δ := Δ) w => ⟨by rw [List.length_cons, List.length_cons, w.get.1], fun i t h => by
    cases i with
    | zero => exact Or.inr h
    | succ i => exact w.get.2 i t (by simpa using h)⟩
  | _, _, .drop (t := s) (Γ := Γ) (Δ := Δ) w => ⟨by rw [List.length_cons, List.length_cons, w.get.1], fun i t h => by
    cases i with
    | zero => exact Or.inl ⟨(by simpa using h.symm), s, rfl⟩
    | succ i => exact w.get.2 i t (by simpa using h)⟩
theorem Slots.wk {H0 G H : Hp} {σ : L2.St} {Γ Δ : TP.Env} (S : Slots H0 G H σ Γ) (w : Wk Γ Δ) : Slots H0 G H σ Δ := by
  obtain ⟨hl, hw⟩ := w.get
  refine ⟨S.m, by rw [← hl, S.len], fun i t h => ?_, fun j k a t u ne hj hk ht hu ej ek => ?_⟩
  · rcases hw i t h with ⟨rfl, u, hu⟩ | h
    · obtain ⟨o, e, _⟩ := S.at_ i u hu
      exact ⟨o, e, trivial⟩
    · exact S.at_ i t h
  · rcases hw j t hj with ⟨rfl, _⟩ | hj
    · cases ht
    · rcases hw k u hk with ⟨rfl, _⟩ | hk
      · cases hu
      · exact S.dis j k a t u ne hj hk ht hu ej ek
end TP
namespace TP
open PySem PySem.Spec PyProof.Rows L2
def Ev {α : Type} (te : TE) (Γ : TP.Env) (T : Ty α) (m : Option α) : Prop :=
  ∀ x, m = some x → ∀ H0 G H σ, Slots H0 G H σ Γ → ∀ Q : VK, (∀ v G' H', Stp G H G' H' → T.rp G' v x → Q v H') → te σ H Q
def EvT (tt : L2.TT) (Γ : TP.Env) (m : Option Bool) : Prop :=
  ∀ x, m = some x → ∀ H0 G H σ, Slots H0 G H σ Γ → ∀ Q : Bool → Hp → Prop, (∀ G' H', Stp G H G' H' → Q x H') → tt σ H Q
def EvA {β : Type} (ta : TA) (Γ : TP.Env) (A : ATy β) (m : Option β) : Prop :=
  ∀ x, m = some x → ∀ H0 G H σ, Slots H0 G H σ Γ → ∀ Q : List V → Hp → Prop, (∀ vs G' H', Stp G H G' H' → A.rp G' vs x → Q vs H') → ta σ H Q
def EvN {α : Type} (te : TE) (Γ : TP.Env) (T : Ty α) (m : Option (List α)) : Prop :=
  ∀ x, m = some x → ∀ H0 G H σ, Slots H0 G H σ Γ → ∀ Q : VK, (∀ p vs G' H', Stp G H G' H' → H p = none → G' p = none → H' p = some (.lst vs) → All2 (T.rp G') vs x → Q (.ref p) H') → te σ H Q
section
variable {α β γ δ ι : Type} {te ta tb tc : TE} {Γ : TP.Env} {T : Ty α} {U : Ty β} {W : Ty γ} {m : Option α} {mb : Option β}
theorem EvN.ev {m : Option (List α)} (h : EvN te Γ T m) : Ev te Γ (tyL T) m := fun x e H0 G H σ S Q q =>
  h x e H0 G H σ S Q fun p vs G' H' s hn hg hp r =>
    q _ (upd G' p (.lst vs)) H' (s.freeze hn hg hp) ⟨p, vs, rfl, upd_same, r.mono fun _ _ z => T.mono (Ex.new hg) z⟩
theorem Ev.eq {m' : Option α} (h : Ev te Γ T m) (e : m' = m) : Ev te Γ T m' := e ▸ h
theorem ev_var {i : Nat} {x : α} (h : Γ[i]? = some (.pu T x)) : Ev (tVar i) Γ T (some x) := fun y e H0 G H σ S Q q => by
  cases e
  obtain ⟨o, eo, v, e, r⟩ := S.at_ i _ h
  subst e
  exact ⟨v, eo, q v G H (Stp.refl S.m) r⟩
theorem ev_c {v : V} {x : α} (h : ∀ G, T.rp G v x) : Ev (tC v) Γ T (some x) := fun y e H0 G H σ S Q q => by
  cases e
  exact q v G H (Stp.refl S.m) (h G)
theorem ev_int {i : Int} : Ev (tC (.int i)) Γ tyI (some i) := ev_c fun _ => rfl
theorem ev_bl {b : Bool} : Ev (tC (.bl b)) Γ tyB (some b) := ev_c fun _ => rfl
theorem ev_str {z : Str} : Ev (tC (.str z)) Γ tyS (some z) := ev_c fun _ => rfl
theorem ev_non : Ev (tC .non) Γ tyN (some ()) := ev_c fun _ => rfl
def OpV (r : R2) (T : Ty α) (U : Ty β) (W : Ty γ) (f : α → β → Option γ) : Prop :=
  ∀ x y z, f x y = some z → ∀ G H v u, Ex G H → T.rp G v x → U.rp G u y → ∀ Q : VK, (∀ w G' H', Stp G H G' H' → W.rp G' w z → Q w H') → r v u H Q
def OpN (r : R2) (T : Ty α) (U : Ty β) (W : Ty γ) (f : α → β → Option (List γ)) : Prop :=
  ∀ x y z, f x y = some z → ∀ G H v u, Ex G H → T.rp G v x → U.rp G u y → ∀ Q : VK, (∀ p vs G' H', Stp G H G' H' → H p = none → G' p = none → H' p = some (.lst vs) → All2 (W.rp G') vs z → Q (.ref p) H') → r v u H Q
def c2 (f : α → β → Option γ) (ma : Option α) (mb : Option β) : Option γ := ma.bind fun x => mb.bind fun y => f x y
@[simp] theorem c2_some (f : α → β → Option γ) (x : α) (y : β) : c2 f (some x) (some y) = f x y := rfl
theorem c2_inv {f : α → β → Option γ} {ma : Option α} {mb : Option β} {z : γ} (h : c2 f ma mb = some z) : ∃ x y, ma = some x ∧ mb = some y ∧ f x y = some z := by
  cases ma with
  | none => cases h
  | some x => cases mb with
    | none => cases h
    | some y => exact ⟨x, y, rfl, rfl, h⟩
theorem bind_inv {ma : Option α} {f : α → Option γ} {z : γ} (h : ma.bind f = some z) : ∃ x, ma = some x ∧ f x = some z := by
  cases ma with
  | none => cases h
  | some x => exact ⟨x, rfl, h⟩
theorem ev_op {r : R2} {f : α → β → Option γ} {ma : Option α} {mb : Option β} (hr : OpV r T U W f) (ha : Ev ta Γ T ma) (hb : Ev tb Γ U mb) : Ev (tOp r ta tb) Γ W (c2 f ma mb) := fun z e H0 G H σ S Q q => by
  obtain ⟨x, y, ea, eb, ef⟩ := c2_inv e
  refine ha x ea H0 G H σ S _ fun v G1 H1 s1 r1 => ?_
  refine hb y eb H0 G1 H1 σ (S.step s1) _ fun u G2 H2 s2 r2 => ?_
  exact hr x y z ef G2 H2 v u s2.m (T.mono s2.g r1) r2 Q fun w G3 H3 s3 r3 => q w G3 H3 ((s1.trans s2).trans s3) r3
theorem evn_op {r : R2} {f : α → β → Option (List γ)} {ma : Option α} {mb : Option β} (hr : OpN r T U W f) (ha : Ev ta Γ T ma) (hb : Ev tb Γ U mb) : EvN (tOp r ta tb) Γ W (c2 f ma mb) := fun z e H0 G H σ S Q q => by
  obtain ⟨x, y, ea, eb, ef⟩ := c2_inv e
  refine ha x ea H0 G H σ S _ fun v G1 H1 s1 r1 => ?_
  refine hb y eb H0 G1 H1 σ (S.step s1) _ fun u G2 H2 s2 r2 => ?_
  exact hr x y z ef G2 H2 v u s2.m (T.mono s2.g r1) r2 Q fun p vs G3 H3 s3 hn hg hp r3 => q p vs G3 H3 ((s1.trans s2).trans s3) ((s1.trans s2).h.non hn) hg hp r3
def UnV (r : V → Hp → VK → Prop) (T : Ty α) (W : Ty γ) (f : α → Option γ) : Prop :=
  ∀ x z, f x = some z → ∀ G H v, Ex G H → T.rp G v x → ∀ Q : VK, (∀ w G' H', Stp G H G' H' → W.rp G' w z → Q w H') → r v H Q
theorem ev_un {r : V → Hp → VK → Prop} {f : α → Option γ} {ma : Option α} (hr : UnV r T W f) (ha : Ev ta Γ T ma) : Ev (tUn r ta) Γ W (ma.bind f) := fun z e H0 G H σ S Q q => by
  obtain ⟨x, ea, ef⟩ := bind_inv e
  refine ha x ea H0 G H σ S _ fun v G1 H1 s1 r1 => ?_
  exact hr x z ef G1 H1 v s1.m r1 Q fun w G3 H3 s3 r3 => q w G3 H3 (s1.trans s3) r3
theorem unv_neg : UnV (rU fun i => .int (-i)) tyI tyI (fun x => some (-x)) := fun x z e G H v eG r Q q => by
  cases e; cases r
  exact ⟨x, rfl, q _ G H (Stp.refl eG) rfl⟩
theorem opv_I0 {g : Int → Int → Int} : OpV (rI0 fun i j => .int (g i j)) tyI tyI tyI (fun x y => some (g x y)) := fun x y z e G H v u eG rv ru Q q => by
  cases e; cases rv; cases ru
  exact ⟨x, y, rfl, rfl, q _ G H (Stp.refl eG) rfl⟩
theorem opv_B0 {g : Int → Int → Bool} : OpV (rI0 fun i j => .bl (g i j)) tyI tyI tyB (fun x y => some (g x y)) := fun x y z e G H v u eG rv ru Q q => by
  cases e; cases rv; cases ru
  exact ⟨x, y, rfl, rfl, q _ G H (Stp.refl eG) rfl⟩
def gd (c : Bool) (x : α) : Option α := if c then some x else none
@[simp] theorem gd_true (x : α) : gd true x = some x := rfl
theorem gd_inv {c : Bool} {x z : α} (h : gd c x = some z) : c = true ∧ x = z := by
  unfold gd at h
  cases c with
  | true => exact ⟨rfl, Option.some.inj h⟩
  | false => cases h
theorem opv_I {C : Int → Int → Prop} {g : Int → Int → Int} {c : Int → Int → Bool} (hc : ∀ i j, c i j = true → C i j) : OpV (rI C fun i j => .int (g i j)) tyI tyI tyI (fun x y => gd (c x y) (g x y)) := fun x y z e G H v u eG rv ru Q q => by
  obtain ⟨h1, rfl⟩ := gd_inv e
  cases rv; cases ru
  exact ⟨x, y, rfl, rfl, hc _ _ h1, q _ G H (Stp.refl eG) rfl⟩
def gS (n : Nat) (i : Int) : Bool := match i with
  | .ofNat k => Nat.ble k n
  | .negSucc k => Nat.ble (k + 1) n
theorem gS_ok {n : Nat} {i : Int} (h : gS n i = true) : -(n : Int) ≤ i ∧ i ≤ n := by
  cases i with
  | ofNat k => have := Nat.le_of_ble_eq_true h; rw [Int.ofNat_eq_natCast]; omega
  | negSucc k => have := Nat.le_of_ble_eq_true h; rw [Int.negSucc_eq]; omega
theorem gS_of {n : Nat} {i : Int} (h : -(n : Int) ≤ i) (k : i ≤ n) : gS n i = true := by
  cases i with
  | ofNat m => exact Nat.ble_eq_true_of_le (by have : (m : Int) ≤ n := k; omega)
  | negSucc m => rw [Int.negSucc_eq] at h; exact Nat.ble_eq_true_of_le (by omega)
def gP (i : Int) : Bool := match i with
  | .ofNat (_ + 1) => true
  | _ => false
theorem gP_ok {i : Int} (h : gP i = true) : 0 < i := by
  cases i with
  | ofNat k => cases k with
    | zero => cases h
    | succ k => exact Int.natCast_pos.mpr (Nat.succ_pos k)
  | negSucc k => cases h
theorem gP_of {i : Int} (h : 0 < i) : gP i = true := by
  cases i with
  | ofNat k => cases k with
    | zero => exact absurd h (by decide)
    | succ k => rfl
  | negSucc k => exact absurd h (by rw [Int.negSucc_eq]; omega)
def gMul (i j : Int) : Bool := gS 18446744073709551615 i || gS 18446744073709551615 j
theorem gMul_ok {i j : Int} (h : gMul i j = true) : (-(2 ^ 64) < i ∧ i < 2 ^ 64) ∨ (-(2 ^ 64) < j ∧ j < 2 ^ 64) := by
  rcases Bool.or_eq_true_iff.mp h with h | h
  · exact .inl ⟨by have := (gS_ok h).1; omega, by have := (gS_ok h).2; omega⟩
  · exact .inr ⟨by have := (gS_ok h).1; omega, by have := (gS_ok h).2; omega⟩
def gDiv (_ j : Int) : Bool := gP j && gS 1073741823 j
theorem gDiv_ok {i j : Int} (h : gDiv i j = true) : 0 < j ∧ j < 1073741824 := by
  obtain ⟨h1, h2⟩ := Bool.and_eq_true_iff.mp h
  exact ⟨gP_ok h1, by have := (gS_ok h2).2; omega⟩
def gMod (_ j : Int) : Bool := gP j
def gN (j : Int) : Bool := match j with
  | .ofNat k => Nat.ble k 1000000
  | _ => false
theorem gN_ok {j : Int} (h : gN j = true) : 0 ≤ j ∧ j ≤ 1000000 := by
  cases j with
  | ofNat k => have := Nat.le_of_ble_eq_true h; rw [Int.ofNat_eq_natCast]; omega
  | negSucc k => cases h
theorem gN_of {j : Int} (h : 0 ≤ j) (k : j ≤ 1000000) : gN j = true := by
  cases j with
  | ofNat m => exact Nat.ble_eq_true_of_le (by have : (m : Int) ≤ 1000000 := k; omega)
  | negSucc m => exact absurd h (by rw [Int.negSucc_eq]; omega)
def gPow (i j : Int) : Bool := gN j && Nat.ble i.natAbs 18446744073709551615
theorem gPow_ok {i j : Int} (h : gPow i j = true) : 0 ≤ j ∧ j ≤ 1000000 ∧ i.natAbs < 2 ^ 64 := by
  obtain ⟨h1, h2⟩ := Bool.and_eq_true_iff.mp h
  exact ⟨(gN_ok h1).1, (gN_ok h1).2, by have := Nat.le_of_ble_eq_true h2; omega⟩
def mAdd (x y : Int) : Option Int := some (x + y)
def mSub (x y : Int) : Option Int := some (x - y)
def mMul (x y : Int) : Option Int := gd (gMul x y) (x * y)
def mDiv (x y : Int) : Option Int := gd (gDiv x y) (x / y)
def mMod (x y : Int) : Option Int := gd (gMod x y) (x % y)
def mPow (x y : Int) : Option Int := gd (gPow x y) (x ^ y.toNat)
def mShl (x y : Int) : Option Int := gd (gPow x y) (x * 2 ^ y.toNat)
def mLt (x y : Int) : Option Bool := some (decide (x < y))
def mLe (x y : Int) : Option Bool := some (decide (x ≤ y))
def mGt (x y : Int) : Option Bool := some (decide (y < x))
def mGe (x y : Int) : Option Bool := some (decide (y ≤ x))
def mEq [DecidableEq α] (x y : α) : Option Bool := some (decide (x = y))
def mNe [DecidableEq α] (x y : α) : Option Bool := some (!decide (x = y))
theorem opv_add : OpV (rI0 fun i j => .int (i + j)) tyI tyI tyI mAdd := opv_I0
theorem opv_sub : OpV (rI0 fun i j => .int (i - j)) tyI tyI tyI mSub := opv_I0
theorem opv_mul : OpV (rI CMul fun i j => .int (i * j)) tyI tyI tyI mMul := opv_I fun i j h => gMul_ok h
theorem opv_div : OpV (rI CDiv fun i j => .int (i / j)) tyI tyI tyI mDiv := opv_I fun i j h => gDiv_ok h
theorem opv_mod : OpV (rI (fun _ j => 0 < j) fun i j => .int (i % j)) tyI tyI tyI mMod := opv_I fun i j h => gP_ok h
theorem opv_pow : OpV (rI CPow fun i j => .int (i ^ j.toNat)) tyI tyI tyI mPow := opv_I fun i j h => gPow_ok h
theorem opv_shl : OpV (rI CPow fun i j => .int (i * 2 ^ j.toNat)) tyI tyI tyI mShl := opv_I fun i j h => gPow_ok h
theorem opv_lt : OpV (rI0 fun i j => .bl (decide (i < j))) tyI tyI tyB mLt := opv_B0
theorem opv_le : OpV (rI0 fun i j => .bl (decide (i ≤ j))) tyI tyI tyB mLe := opv_B0
theorem opv_gt : OpV (rI0 fun i j => .bl (decide (j < i))) tyI tyI tyB mGt := opv_B0
theorem opv_ge : OpV (rI0 fun i j => .bl (decide (j ≤ i))) tyI tyI tyB mGe := opv_B0
theorem opv_eqI : OpV rEq tyI tyI tyB mEq := fun x y z e G H v u eG rv ru Q q => by
  cases e; cases rv; cases ru
  refine ⟨rfl, q _ G H (Stp.refl eG) ?_⟩
  show V.bl _ = V.bl _
  rw [dec_int]; congr 1
theorem opv_neI : OpV rNe tyI tyI tyB mNe := fun x y z e G H v u eG rv ru Q q => by
  cases e; cases rv; cases ru
  refine ⟨rfl, q _ G H (Stp.refl eG) ?_⟩
  show V.bl _ = V.bl _
  rw [dec_int]; congr 1
theorem opv_eqB : OpV rEq tyB tyB tyB mEq := fun x y z e G H v u eG rv ru Q q => by
  cases e; cases rv; cases ru
  refine ⟨rfl, q _ G H (Stp.refl eG) ?_⟩
  show V.bl _ = V.bl _
  rw [dec_bl]; congr 1
theorem opv_neB : OpV rNe tyB tyB tyB mNe := fun x y z e G H v u eG rv ru Q q => by
  cases e; cases rv; cases ru
  refine ⟨rfl, q _ G H (Stp.refl eG) ?_⟩
  show V.bl _ = V.bl _
  rw [dec_bl]; congr 1
theorem opv_eqS : OpV rEq tyS tyS tyB mEq := fun x y z e G H v u eG rv ru Q q => by
  cases e; cases rv; cases ru
  refine ⟨rfl, q _ G H (Stp.refl eG) ?_⟩
  show V.bl _ = V.bl _
  congr 1
  rw [Bool.eq_iff_iff]; simp
theorem opv_neS : OpV rNe tyS tyS tyB mNe := fun x y z e G H v u eG rv ru Q q => by
  cases e; cases rv; cases ru
  refine ⟨rfl, q _ G H (Stp.refl eG) ?_⟩
  show V.bl _ = V.bl _
  congr 2
  rw [Bool.eq_iff_iff]; simp
variable {K : PySem.W.Frag}
theorem ixN_lt {n : Nat} {i : Int} {j : Nat} (h : ixN n i = some j) : j < n := by
  unfold ixN at h
  split at h
  · split at h
    · cases h; omega
    · cases h
  · split at h
    · cases h; omega
    · cases h
theorem atI_all2 {R : V → α → Prop} {vs : List V} {xs : List α} {i : Int} {x : α} (h : All2 R vs xs) (e : atI xs i = some x) : ∃ v, atI vs i = some v ∧ R v x := by
  unfold atI at e ⊢
  rw [h.len]
  obtain ⟨j, ej, ex⟩ := bind_inv e
  rw [ej]
  exact h.get ex
theorem opv_ixL : OpV (rIxL K) (tyL T) tyI T (fun xs i => atI xs i) := fun x y z e G H v u eG rv ru Q q => by
  obtain ⟨a, vs, rfl, ha, r⟩ := rv
  cases ru
  obtain ⟨w, ew, rw'⟩ := atI_all2 r e
  exact ⟨a, vs, y, w, rfl, rfl, SqL.of (eG a _ ha), ew, q w G H (Stp.refl eG) rw'⟩
theorem opv_ixLs : OpV (rIxL K) (tyLs K T) tyI T (fun xs i => atI xs i) := fun x y z e G H v u eG rv ru Q q => by
  obtain ⟨a, vs, rfl, ha, r⟩ := rv
  cases ru
  obtain ⟨w, ew, rw'⟩ := atI_all2 r e
  exact ⟨a, vs, y, w, rfl, rfl, SqL.mono eG ha, ew, q w G H (Stp.refl eG) rw'⟩
theorem opv_ixU : OpV (rIxT K) (tyU K T) tyI T (fun xs i => atI xs i) := fun x y z e G H v u eG rv ru Q q => by
  obtain ⟨a, vs, rfl, ha, r⟩ := rv
  cases ru
  obtain ⟨w, ew, rw'⟩ := atI_all2 r e
  exact ⟨a, vs, y, w, rfl, rfl, SqT.mono eG ha, ew, q w G H (Stp.refl eG) rw'⟩
def Nth (A : ATy β) (k : Nat) (T : Ty α) (f : β → α) : Prop := ∀ H vs x, A.rp H vs x → ∃ v, vs[k]? = some v ∧ T.rp H v (f x)
theorem nth0 {A : ATy β} : Nth (aC T A) 0 T (fun x => x.1) := fun H vs x ⟨v, r, e, h1, _⟩ => ⟨v, by rw [e]; rfl, h1⟩
theorem nthS {A : ATy β} {k : Nat} {f : β → γ} (h : Nth A k W f) : Nth (aC T A) (k + 1) W (fun x => f x.2) := fun H vs x ⟨v, r, e, _, h2⟩ => by
  obtain ⟨w, ew, hw⟩ := h H r x.2 h2
  exact ⟨w, by rw [e]; simpa using ew, hw⟩
theorem ev_nthH {A : ATy β} {k : Nat} {f : β → α} {ma : Option β} (hn : Nth A k T f) (ha : Ev ta Γ (tyH K A) ma) : Ev (tOp (rIxT K) ta (tC (.int (k : Nat)))) Γ T (ma.bind fun x => some (f x)) := fun z e H0 G H σ S Q q => by
  obtain ⟨x, ea, ef⟩ := bind_inv e
  cases ef
  refine ha x ea H0 G H σ S _ fun v G1 H1 s1 r1 => ?_
  obtain ⟨a, vs, rfl, ha', r⟩ := r1
  obtain ⟨w, ew, hw⟩ := hn _ _ _ r
  refine ⟨a, vs, (k : Int), w, rfl, rfl, SqT.mono s1.m ha', ?_, q w G1 H1 s1 hw⟩
  exact atI_nat (j := k) ew
theorem ev_nthL {A : ATy β} {k : Nat} {f : β → α} {ma : Option β} (hn : Nth A k T f) (ha : Ev ta Γ (tyHL A) ma) : Ev (tOp (rIxL K) ta (tC (.int (k : Nat)))) Γ T (ma.bind fun x => some (f x)) := fun z e H0 G H σ S Q q => by
  obtain ⟨x, ea, ef⟩ := bind_inv e
  cases ef
  refine ha x ea H0 G H σ S _ fun v G1 H1 s1 r1 => ?_
  obtain ⟨a, vs, rfl, ha', r⟩ := r1
  obtain ⟨w, ew, hw⟩ := hn _ _ _ r
  refine ⟨a, vs, (k : Int), w, rfl, rfl, SqL.of (s1.m _ _ ha'), ?_, q w G1 H1 s1 hw⟩
  exact atI_nat (j := k) ew
theorem evt_test {m : Option Bool} (h : Ev te Γ tyB m) : EvT (tTest te) Γ m := fun x e H0 G H σ S Q q =>
  h x e H0 G H σ S _ fun v G' H' s r => ⟨x, r, q G' H' s⟩
theorem evt_B {m : Option Bool} (h : Ev te Γ tyB m) : EvT (tB te) Γ m := fun x e H0 G H σ S Q q =>
  h x e H0 G H σ S _ fun v G' H' s r => ⟨x, r, q G' H' s⟩
def mAnd (a b : Option Bool) : Option Bool := a.bind fun x => if x then b else some false
def mOr (a b : Option Bool) : Option Bool := a.bind fun x => if x then some true else b
def mNot (a : Option Bool) : Option Bool := a.bind fun x => some (!x)
@[simp] theorem mAnd_some (x y : Bool) : mAnd (some x) (some y) = some (x && y) := by cases x <;> rfl
@[simp] theorem mOr_some (x y : Bool) : mOr (some x) (some y) = some (x || y) := by cases x <;> rfl
@[simp] theorem mNot_some (x : Bool) : mNot (some x) = some (!x) := rfl
@[simp] theorem mAnd_false (y : Option Bool) : mAnd (some false) y = some false := rfl
@[simp] theorem mAnd_true (y : Option Bool) : mAnd (some true) y = y := rfl
@[simp] theorem mOr_false (y : Option Bool) : mOr (some false) y = y := rfl
@[simp] theorem mOr_true (y : Option Bool) : mOr (some true) y = some true := rfl
theorem evt_and {t u : L2.TT} {a b : Option Bool} (h1 : EvT t Γ a) (h2 : EvT u Γ b) : EvT (tAnd t u) Γ (mAnd a b) := fun x e H0 G H σ S Q q => by
  obtain ⟨y, ea, ef⟩ := bind_inv e
  refine h1 y ea H0 G H σ S _ fun G1 H1 s1 => ?_
  cases y with
  | true =>
    show u σ H1 Q
    exact h2 x ef H0 G1 H1 σ (S.step s1) Q fun G2 H2 s2 => q G2 H2 (s1.trans s2)
  | false =>
    cases ef
    show Q false H1
    exact q G1 H1 s1
theorem evt_or {t u : L2.TT} {a b : Option Bool} (h1 : EvT t Γ a) (h2 : EvT u Γ b) : EvT (tOr t u) Γ (mOr a b) := fun x e H0 G H σ S Q q => by
  obtain ⟨y, ea, ef⟩ := bind_inv e
  refine h1 y ea H0 G H σ S _ fun G1 H1 s1 => ?_
  cases y with
  | true =>
    cases ef
    show Q true H1
    exact q G1 H1 s1
  | false =>
    show u σ H1 Q
    exact h2 x ef H0 G1 H1 σ (S.step s1) Q fun G2 H2 s2 => q G2 H2 (s1.trans s2)
theorem evt_not {t : L2.TT} {a : Option Bool} (h1 : EvT t Γ a) : EvT (tNot t) Γ (mNot a) := fun x e H0 G H σ S Q q => by
  obtain ⟨y, ea, ef⟩ := bind_inv e
  cases ef
  exact h1 y ea H0 G H σ S _ fun G1 H1 s1 => q G1 H1 s1
theorem ev_andV {a b : Option Bool} (h1 : Ev ta Γ tyB a) (h2 : Ev tb Γ tyB b) : Ev (tAndV ta tb) Γ tyB (mAnd a b) := fun x e H0 G H σ S Q q => by
  obtain ⟨y, ea, ef⟩ := bind_inv e
  refine h1 y ea H0 G H σ S _ fun v G1 H1 s1 r1 => ⟨y, r1, ?_⟩
  cases y with
  | true =>
    show tb σ H1 Q
    exact h2 x ef H0 G1 H1 σ (S.step s1) Q fun w G2 H2 s2 r2 => q w G2 H2 (s1.trans s2) r2
  | false =>
    cases ef
    show Q (.bl false) H1
    exact q _ G1 H1 s1 rfl
theorem ev_orV {a b : Option Bool} (h1 : Ev ta Γ tyB a) (h2 : Ev tb Γ tyB b) : Ev (tOrV ta tb) Γ tyB (mOr a b) := fun x e H0 G H σ S Q q => by
  obtain ⟨y, ea, ef⟩ := bind_inv e
  refine h1 y ea H0 G H σ S _ fun v G1 H1 s1 r1 => ⟨y, r1, ?_⟩
  cases y with
  | true =>
    cases ef
    show Q (.bl true) H1
    exact q _ G1 H1 s1 rfl
  | false =>
    show tb σ H1 Q
    exact h2 x ef H0 G1 H1 σ (S.step s1) Q fun w G2 H2 s2 r2 => q w G2 H2 (s1.trans s2) r2
theorem ev_notV {a : Option Bool} (h1 : Ev ta Γ tyB a) : Ev (tNotV ta) Γ tyB (mNot a) := fun x e H0 G H σ S Q q => by
  obtain ⟨y, ea, ef⟩ := bind_inv e
  cases ef
  exact h1 y ea H0 G H σ S _ fun v G1 H1 s1 r1 => ⟨y, r1, q _ G1 H1 s1 rfl⟩
def mIf (c : Option Bool) (a b : Option α) : Option α := c.bind fun x => if x then a else b
@[simp] theorem mIf_some (c : Bool) (a b : Option α) : mIf (some c) a b = if c then a else b := rfl
theorem ev_if {t : L2.TT} {c : Option Bool} {ma mb : Option α} (h : EvT t Γ c) (h1 : Ev ta Γ T ma) (h2 : Ev tb Γ T mb) : Ev (tIf t ta tb) Γ T (mIf c ma mb) := fun x e H0 G H σ S Q q => by
  obtain ⟨y, ea, ef⟩ := bind_inv e
  refine h y ea H0 G H σ S _ fun G1 H1 s1 => ?_
  cases y with
  | true =>
    show ta σ H1 Q
    exact h1 x ef H0 G1 H1 σ (S.step s1) Q fun w G2 H2 s2 r2 => q w G2 H2 (s1.trans s2) r2
  | false =>
    show tb σ H1 Q
    exact h2 x ef H0 G1 H1 σ (S.step s1) Q fun w G2 H2 s2 r2 => q w G2 H2 (s1.trans s2) r2
theorem ev_chain {r r' : R2} {f : α → β → Option Bool} {g : β → γ → Option Bool} {ma : Option α} {mb : Option β} {mc : Option γ} (hr : OpV r T U tyB f) (hr' : OpV r' U W tyB g) (ha : Ev ta Γ T ma) (hb : Ev tb Γ U mb) (hc : Ev tc Γ W mc) :
    Ev (tChain r r' ta tb tc) Γ tyB (ma.bind fun x => mb.bind fun y => mAnd (f x y) (mc.bind fun z => g y z)) := fun z e H0 G H σ S Q q => by
  obtain ⟨x, ea, e⟩ := bind_inv e
  obtain ⟨y, eb, e⟩ := bind_inv e
  obtain ⟨b, ef, e⟩ := bind_inv e
  refine ha x ea H0 G H σ S _ fun v G1 H1 s1 r1 => ?_
  refine hb y eb H0 G1 H1 σ (S.step s1) _ fun u G2 H2 s2 r2 => ?_
  refine hr x y b ef G2 H2 v u s2.m (T.mono s2.g r1) r2 _ fun w G3 H3 s3 r3 => ⟨b, r3, ?_⟩
  have s13 := (s1.trans s2).trans s3
  cases b with
  | true =>
    show tc σ H3 _
    obtain ⟨zz, ec, eg⟩ := bind_inv (show mc.bind (fun z => g y z) = some z from e)
    refine hc zz ec H0 G3 H3 σ (S.step s13) _ fun w' G4 H4 s4 r4 => ?_
    exact hr' y zz z eg G4 H4 u w' s4.m (U.mono (s3.trans s4).g r2) r4 Q fun w5 G5 H5 s5 r5 => q w5 G5 H5 ((s13.trans s4).trans s5) r5
  | false =>
    cases e
    show Q (.bl false) H3
    exact q _ G3 H3 s13 rfl
def aPair (m : Option α) (r : Option β) : Option (α × β) := m.bind fun x => r.bind fun y => some (x, y)
@[simp] theorem aPair_some (x : α) (y : β) : aPair (some x) (some y) = some (x, y) := rfl
theorem eva_nil : EvA tNil Γ aN (some ()) := fun _ _ H0 G H σ S Q q => q [] G H (Stp.refl S.m) rfl
theorem eva_cons {tr : TA} {A : ATy β} {mr : Option β} (h : Ev te Γ T m) (hr : EvA tr Γ A mr) : EvA (tCons te tr) Γ (aC T A) (aPair m mr) := fun z e H0 G H σ S Q q => by
  obtain ⟨x, ea, e⟩ := bind_inv e
  obtain ⟨y, eb, e⟩ := bind_inv e
  cases e
  refine h x ea H0 G H σ S _ fun v G1 H1 s1 r1 => ?_
  refine hr y eb H0 G1 H1 σ (S.step s1) _ fun vs G2 H2 s2 r2 => ?_
  exact q (v :: vs) G2 H2 (s1.trans s2) ⟨v, vs, rfl, T.mono s2.g r1, r2⟩
def EvAs (ta : TA) (Γ : TP.Env) (T : Ty α) (m : Option (List α)) : Prop :=
  ∀ x, m = some x → ∀ H0 G H σ, Slots H0 G H σ Γ → ∀ Q : List V → Hp → Prop, (∀ vs G' H', Stp G H G' H' → All2 (T.rp G') vs x → Q vs H') → ta σ H Q
def lCons (m : Option α) (r : Option (List α)) : Option (List α) := m.bind fun x => r.bind fun y => some (x :: y)
@[simp] theorem lCons_some (x : α) (y : List α) : lCons (some x) (some y) = some (x :: y) := rfl
theorem evas_nil : EvAs tNil Γ T (some []) := fun _ e H0 G H σ S Q q => by cases e; exact q [] G H (Stp.refl S.m) trivial
theorem evas_cons {tr : TA} {mr : Option (List α)} (h : Ev te Γ T m) (hr : EvAs tr Γ T mr) : EvAs (tCons te tr) Γ T (lCons m mr) := fun z e H0 G H σ S Q q => by
  obtain ⟨x, ea, e⟩ := bind_inv e
  obtain ⟨y, eb, e⟩ := bind_inv e
  cases e
  refine h x ea H0 G H σ S _ fun v G1 H1 s1 r1 => ?_
  refine hr y eb H0 G1 H1 σ (S.step s1) _ fun vs G2 H2 s2 r2 => ?_
  exact q (v :: vs) G2 H2 (s1.trans s2) ⟨T.mono s2.g r1, r2⟩
def lim : Nat := 1000000
theorem lim_sz {n : Nat} (h : n ≤ lim) : n ≤ sizeLine := Nat.le_trans h (by decide)
theorem lim_lt {n : Nat} (h : n ≤ lim) : n < sizeLine := Nat.lt_of_le_of_lt h (by decide)
def lmt (m : Option (List α)) : Option (List α) := m.bind fun x => gd (decide (x.length ≤ lim)) x
@[simp] theorem lmt_nil : lmt (some ([] : List α)) = some [] := rfl
theorem lmt_inv {m : Option (List α)} {x : List α} (h : lmt m = some x) : m = some x ∧ x.length ≤ lim := by
  obtain ⟨y, e1, e2⟩ := bind_inv h
  obtain ⟨c, rfl⟩ := gd_inv e2
  exact ⟨e1, of_decide_eq_true c⟩
theorem evn_lst {ta : TA} {m : Option (List α)} (h : EvAs ta Γ T m) : EvN (tLst ta) Γ T (lmt m) := fun x e H0 G H σ S Q q => by
  obtain ⟨e, hl⟩ := lmt_inv e
  refine h x e H0 G H σ S _ fun vs G1 H1 s1 r1 => ⟨by rw [r1.len]; exact lim_sz hl, fun p hp => ?_⟩
  have s2 := s1.trans (Stp.priv (o := .lst vs) s1.m hp)
  exact q p vs G1 _ s2 (s1.h.non hp) (s1.m.non hp) upd_same r1
theorem ev_tup1 {ta : TA} {m : Option (List α)} (h : EvAs ta Γ T m) : Ev (tTup ta) Γ (tyU K T) (lmt m) := fun x e H0 G H σ S Q q => by
  obtain ⟨e, hl⟩ := lmt_inv e
  refine h x e H0 G H σ S _ fun vs G1 H1 s1 r1 => ⟨by rw [r1.len]; exact lim_sz hl, fun p hp => ?_⟩
  have sn := Stp.new (o := .tup vs) s1.m hp
  exact q _ _ _ (s1.trans sn) ⟨p, vs, rfl, SqT.of upd_same, r1.mono fun _ _ z => T.mono sn.g z⟩
theorem ev_tupH {ta : TA} {A : ATy β} {m : Option β} (hA : A.n ≤ 1000) (h : EvA ta Γ A m) : Ev (tTup ta) Γ (tyH K A) m := fun x e H0 G H σ S Q q => by
  refine h x e H0 G H σ S _ fun vs G1 H1 s1 r1 => ⟨by rw [A.len r1]; exact Nat.le_trans hA (by decide), fun p hp => ?_⟩
  have sn := Stp.new (o := .tup vs) s1.m hp
  exact q _ _ _ (s1.trans sn) ⟨p, vs, rfl, SqT.of upd_same, A.mono sn.g r1⟩
theorem ev_lstH {ta : TA} {A : ATy β} {m : Option β} (hA : A.n ≤ 1000) (h : EvA ta Γ A m) : Ev (tLst ta) Γ (tyHL A) m := fun x e H0 G H σ S Q q => by
  refine h x e H0 G H σ S _ fun vs G1 H1 s1 r1 => ⟨by rw [A.len r1]; exact Nat.le_trans hA (by decide), fun p hp => ?_⟩
  have sn := Stp.new (o := .lst vs) s1.m hp
  exact q _ _ _ (s1.trans sn) ⟨p, vs, rfl, upd_same, A.mono sn.g r1⟩
def CallV (r : List V → Hp → VK → Prop) (A : ATy β) (T : Ty α) (f : β → Option α) : Prop :=
  ∀ p z, f p = some z → ∀ G H vs, Ex G H → A.rp G vs p → ∀ Q : VK, (∀ w G' H', Stp G H G' H' → T.rp G' w z → Q w H') → r vs H Q
def CallN (r : List V → Hp → VK → Prop) (A : ATy β) (T : Ty α) (f : β → Option (List α)) : Prop :=
  ∀ p z, f p = some z → ∀ G H vs, Ex G H → A.rp G vs p → ∀ Q : VK, (∀ a ws G' H', Stp G H G' H' → H a = none → G' a = none → H' a = some (.lst ws) → All2 (T.rp G') ws z → Q (.ref a) H') → r vs H Q
theorem ev_cb {r : List V → Hp → VK → Prop} {ta : TA} {A : ATy β} {f : β → Option α} {mp : Option β} (hr : CallV r A T f) (h : EvA ta Γ A mp) : Ev (tCB r ta) Γ T (mp.bind f) := fun z e H0 G H σ S Q q => by
  obtain ⟨x, ea, ef⟩ := bind_inv e
  exact h x ea H0 G H σ S _ fun vs G1 H1 s1 r1 => hr x z ef G1 H1 vs s1.m r1 Q fun w G2 H2 s2 r2 => q w G2 H2 (s1.trans s2) r2
theorem evn_cb {r : List V → Hp → VK → Prop} {ta : TA} {A : ATy β} {f : β → Option (List α)} {mp : Option β} (hr : CallN r A T f) (h : EvA ta Γ A mp) : EvN (tCB r ta) Γ T (mp.bind f) := fun z e H0 G H σ S Q q => by
  obtain ⟨x, ea, ef⟩ := bind_inv e
  exact h x ea H0 G H σ S _ fun vs G1 H1 s1 r1 => hr x z ef G1 H1 vs s1.m r1 Q fun a ws G2 H2 s2 hn hg hp r2 => q a ws G2 H2 (s1.trans s2) (s1.h.non hn) hg hp r2
def spOf (A : ATy β) (T : Ty α) (f : β → Option α) : Sp := fun vs H Q _ => ∃ p r G, f p = some r ∧ Ex G H ∧ A.rp G vs p ∧ ∀ v G' H', Stp G H G' H' → T.rp G' v r → Q v H'
theorem ev_call {ta : TA} {A : ATy β} {f : β → Option α} {mp : Option β} {E : XK} (h : EvA ta Γ A mp) : Ev (tCall (spOf A T f) [] E ta) Γ T (mp.bind f) := fun z e H0 G H σ S Q q => by
  obtain ⟨x, ea, ef⟩ := bind_inv e
  refine h x ea H0 G H σ S _ fun vs G1 H1 s1 r1 => ⟨x, z, G1, ef, s1.m, by rw [List.append_nil]; exact r1, fun v G2 H2 s2 r2 => q v G2 H2 (s1.trans s2) r2⟩
theorem ev_lend {i : Nat} {xs : List β} (hi : Γ[i]? = some (.ow U xs)) (hf : Flat T) (h : Ev te (Γ.set i (.pu (tyL U) xs)) T m) : Ev te Γ T m := fun z e H0 G H σ S Q q => by
  obtain ⟨p, vs, ep, hp, hg, h0, r, S'⟩ := S.lend hi
  refine h z e H0 _ H σ S' Q fun v G' H' s rv => q v G H' ⟨Ex.refl _, s.h, (Ex.new hg).trans (s.g.trans s.m), fun _ _ q => q⟩ (hf _ _ _ _ rv)
theorem evt_lend {i : Nat} {xs : List β} {t : L2.TT} {m : Option Bool} (hi : Γ[i]? = some (.ow U xs)) (h : EvT t (Γ.set i (.pu (tyL U) xs)) m) : EvT t Γ m := fun z e H0 G H σ S Q q => by
  obtain ⟨p, vs, ep, hp, hg, h0, r, S'⟩ := S.lend hi
  refine h z e H0 _ H σ S' Q fun G' H' s => q G H' ⟨Ex.refl _, s.h, (Ex.new hg).trans (s.g.trans s.m), fun _ _ q => q⟩
end
end TP
namespace TP
open PySem PySem.Spec PyProof.Rows L2
section
variable {α β γ δ ι κ : Type} {te ta tb tc : TE} {Γ : TP.Env} {T : Ty α} {U : Ty β} {W : Ty γ} {K : PySem.W.Frag}
def Yld (G : Hp) (J : It) (T : Ty ι) (xs : List ι) : Prop :=
  ∀ (i : Nat) (G1 H1 : Hp), Ex G G1 → Ex G1 H1 → (∀ x, xs[i]? = some x → J.go i H1 ∧ ∀ v H2, J.yld i H1 v H2 → ∃ G2, Stp G1 H1 G2 H2 ∧ T.rp G2 v x) ∧ (xs.length ≤ i → J.stop i H1)
def EvI (wi : L2.TI) (Γ : TP.Env) (T : Ty ι) (m : Option (List ι)) : Prop :=
  ∀ xs, m = some xs → ∀ H0 G H σ, Slots H0 G H σ Γ → ∀ R : It → Hp → Prop, (∀ J G' H', Stp G H G' H' → Yld G' J T xs → R J H') → wi σ H R
theorem evi_list {m : Option (List α)} (h : Ev te Γ (tyL T) m) : EvI (iList K te) Γ T m := fun xs e H0 G H σ S R q => by
  refine h xs e H0 G H σ S _ fun v G1 H1 s1 r1 => ?_
  obtain ⟨a, vs, rfl, ha, r⟩ := r1
  refine ⟨a, rfl, ⟨vs, SqL.of (s1.m _ _ ha)⟩, q _ G1 H1 s1 fun i G2 H2 e1 e2 => ⟨fun x ex => ?_, fun hi => ?_⟩⟩
  · obtain ⟨v, ev, rv⟩ := r.get ex
    have hs : SqL K H2 a vs := SqL.of (e2 _ _ (e1 _ _ ha))
    exact ⟨⟨vs, v, hs, ev⟩, fun w H3 y => by
      obtain ⟨rfl, y⟩ := y
      have : v = w := Option.some.inj (ev.symm.trans (y vs hs))
      subst this
      exact ⟨G2, Stp.refl e2, T.mono e1 rv⟩⟩
  · exact ⟨vs, SqL.of (e2 _ _ (e1 _ _ ha)), by rw [r.len]; exact hi⟩
theorem evi_listS {m : Option (List α)} (h : Ev te Γ (tyLs K T) m) : EvI (iList K te) Γ T m := fun xs e H0 G H σ S R q => by
  refine h xs e H0 G H σ S _ fun v G1 H1 s1 r1 => ?_
  obtain ⟨a, vs, rfl, ha, r⟩ := r1
  refine ⟨a, rfl, ⟨vs, SqL.mono s1.m ha⟩, q _ G1 H1 s1 fun i G2 H2 e1 e2 => ⟨fun x ex => ?_, fun hi => ?_⟩⟩
  · obtain ⟨v, ev, rv⟩ := r.get ex
    have hs : SqL K H2 a vs := SqL.mono (e1.trans e2) ha
    exact ⟨⟨vs, v, hs, ev⟩, fun w H3 y => by
      obtain ⟨rfl, y⟩ := y
      have : v = w := Option.some.inj (ev.symm.trans (y vs hs))
      subst this
      exact ⟨G2, Stp.refl e2, T.mono e1 rv⟩⟩
  · exact ⟨vs, SqL.mono (e1.trans e2) ha, by rw [r.len]; exact hi⟩
theorem evi_tup {m : Option (List α)} (h : Ev te Γ (tyU K T) m) : EvI (iTup K te) Γ T m := fun xs e H0 G H σ S R q => by
  refine h xs e H0 G H σ S _ fun v G1 H1 s1 r1 => ?_
  obtain ⟨a, vs, rfl, ha, r⟩ := r1
  refine ⟨a, rfl, ⟨vs, SqT.mono s1.m ha⟩, q _ G1 H1 s1 fun i G2 H2 e1 e2 => ⟨fun x ex => ?_, fun hi => ?_⟩⟩
  · obtain ⟨v, ev, rv⟩ := r.get ex
    have hs : SqT K H2 a vs := SqT.mono (e1.trans e2) ha
    exact ⟨⟨vs, v, hs, ev⟩, fun w H3 y => by
      obtain ⟨rfl, y⟩ := y
      have : v = w := Option.some.inj (ev.symm.trans (y vs hs))
      subst this
      exact ⟨G2, Stp.refl e2, T.mono e1 rv⟩⟩
  · exact ⟨vs, SqT.mono (e1.trans e2) ha, by rw [r.len]; exact hi⟩
def rngL (lo : Int) (n : Nat) : List Int := (List.range n).map fun (i : Nat) => lo + (i : Int)
theorem rngL_get {lo : Int} {n i : Nat} {x : Int} (h : (rngL lo n)[i]? = some x) : i < n ∧ x = lo + i := by
  unfold rngL at h
  rw [List.getElem?_map] at h
  by_cases hi : i < n
  · rw [List.getElem?_range hi] at h
    cases h
    exact ⟨hi, rfl⟩
  · rw [List.getElem?_eq_none (by rw [List.length_range]; omega)] at h
    cases h
theorem rngL_len (lo : Int) (n : Nat) : (rngL lo n).length = n := by unfold rngL; rw [List.length_map, List.length_range]
theorem yld_rng {G : Hp} {lo : Int} {n : Nat} : Yld G (Itr lo n) tyI (rngL lo n) := fun i G1 H1 e1 e2 => ⟨fun x ex => by
    obtain ⟨hi, rfl⟩ := rngL_get ex
    exact ⟨hi, fun v H2 y => by obtain ⟨rfl, rfl⟩ := y; exact ⟨G1, Stp.refl e2, rfl⟩⟩, fun hi => by rw [rngL_len] at hi; exact hi⟩
def gR (i : Int) : Bool := gS 4611686018427387903 i
theorem gR_ok {i : Int} (h : gR i = true) : -(2 ^ 62) ≤ i ∧ i < 2 ^ 62 := ⟨by have := (gS_ok h).1; omega, by have := (gS_ok h).2; omega⟩
def mRng1 (p : Int × Unit) : Option (List Int) := gd (gR p.1) (rngL 0 p.1.toNat)
def mRng2 (p : Int × Int × Unit) : Option (List Int) := gd (gR p.1 && gR p.2.1) (rngL p.1 (p.2.1 - p.1).toNat)
theorem evi_rng1 {ta : TA} {mp : Option (Int × Unit)} (h : EvA ta Γ (aC tyI aN) mp) : EvI (iRng1 ta) Γ tyI (mp.bind mRng1) := fun xs e H0 G H σ S R q => by
  obtain ⟨p, ea, ef⟩ := bind_inv e
  obtain ⟨c, rfl⟩ := gd_inv ef
  refine h p ea H0 G H σ S _ fun vs G1 H1 s1 r1 => ?_
  obtain ⟨v, r, rfl, hv, hr⟩ := r1
  cases hv; cases hr
  have c := gR_ok c
  exact ⟨p.1, rfl, c.1, c.2, q _ G1 H1 s1 yld_rng⟩
theorem evi_rng2 {ta : TA} {mp : Option (Int × Int × Unit)} (h : EvA ta Γ (aC tyI (aC tyI aN)) mp) : EvI (iRng2 ta) Γ tyI (mp.bind mRng2) := fun xs e H0 G H σ S R q => by
  obtain ⟨p, ea, ef⟩ := bind_inv e
  obtain ⟨c, rfl⟩ := gd_inv ef
  refine h p ea H0 G H σ S _ fun vs G1 H1 s1 r1 => ?_
  obtain ⟨v, r, rfl, hv, w, r2, rfl, hw, hr⟩ := r1
  cases hv; cases hw; cases hr
  rw [Bool.and_eq_true] at c
  have c1 := gR_ok c.1
  have c2 := gR_ok c.2
  exact ⟨p.1, p.2.1, rfl, ⟨c1.1, c1.2, c2.1, c2.2⟩, q _ G1 H1 s1 yld_rng⟩
theorem evi_lend {wi : L2.TI} {T : Ty ι} {m : Option (List ι)} {i : Nat} {xs : List β} (hi : Γ[i]? = some (.ow U xs)) (hf : Flat T) (h : EvI wi (Γ.set i (.pu (tyL U) xs)) T m) : True := trivial
def EvG (g : TG) (is : List Nat) (Γ : TP.Env) (U : Ty ι) (Δ : ι → TP.Env) : Prop :=
  ∀ x v H0 G H σ, Slots H0 G H σ Γ → U.rp G v x → ∀ Q : L2.St → Hp → Prop, (∀ σ', Slots H0 G H σ' (Δ x) → (∀ vs : List Nat, (∀ i ∈ is, i ∈ vs) → wipe σ' vs = wipe σ vs) → Q σ' H) → g v σ H Q
theorem wipe_set {σ : L2.St} {i : Nat} {o : Option V} : ∀ {vs : List Nat}, i ∈ vs → wipe (σ.set i o) vs = wipe σ vs
  | [], h => by cases h
  | v :: vs, h => by
    unfold wipe
    by_cases hv : i ∈ vs
    · rw [wipe_set hv]
    · have e : i = v := by
        rcases List.mem_cons.mp h with h | h
        · exact h
        · exact absurd h hv
      subst e
      have : ∀ (ws : List Nat), i ∉ ws → wipe (σ.set i o) ws = (wipe σ ws).set i o := by
        intro ws
        induction ws with
        | nil => intro _; rfl
        | cons w ws ih =>
          intro hw
          have h1 : i ≠ w := fun q => hw (by rw [q]; exact List.mem_cons_self)
          have h2 : i ∉ ws := fun q => hw (List.mem_cons_of_mem _ q)
          unfold wipe
          rw [ih h2, List.set_comm _ _ h1]
      rw [this vs hv, List.set_set]
theorem wipe_wipe {σ : L2.St} : ∀ (vs : List Nat), wipe (wipe σ vs) vs = wipe σ vs := by
  intro vs
  have key : ∀ (ws : List Nat), (∀ w ∈ ws, w ∈ vs) → wipe (wipe σ ws) vs = wipe σ vs := by
    intro ws
    induction ws with
    | nil => intro _; rfl
    | cons w ws ih =>
      intro h
      show wipe ((wipe σ ws).set w none) vs = _
      rw [wipe_set (h w List.mem_cons_self)]
      exact ih fun x hx => h x (List.mem_cons_of_mem _ hx)
  exact key vs fun w h => h
theorem evg_name {i : Nat} {U : Ty ι} : EvG (gName i) [i] Γ U (fun x => Γ.set i (.pu U x)) := fun x v H0 G H σ S r Q q =>
  q _ (S.set r) fun vs h => wipe_set (h i List.mem_cons_self)
theorem evg_pair {i j : Nat} {A : Ty α} {B : Ty β} : EvG (gTup K 2 (gCons (gName i) (gCons (gName j) gNil))) [i, j] Γ (tyH K (aC A (aC B aN))) (fun x => (Γ.set i (.pu A x.1)).set j (.pu B x.2.1)) := fun x v H0 G H σ S r Q q => by
  obtain ⟨a, vs, rfl, ha, v1, r1, rfl, h1, v2, r2, rfl, h2, h3⟩ := r
  cases h3
  refine ⟨a, [v1, v2], rfl, SqT.mono S.m ha, rfl, v1, [v2], rfl, v2, [], rfl, rfl, ?_⟩
  exact q _ ((S.set h1).set h2) fun vs h => by
    rw [wipe_set (h j (by simp)), wipe_set (h i (by simp))]
def wipeE (Γ : TP.Env) : List Nat → TP.Env
  | [] => Γ
  | v :: vs => (wipeE Γ vs).set v .no
theorem Slots.wipe {H0 G H : Hp} {σ : L2.St} (S : Slots H0 G H σ Γ) : ∀ vs : List Nat, Slots H0 G H (L2.wipe σ vs) (wipeE Γ vs)
  | [] => S
  | w :: vs => by
    have S := S.wipe vs
    unfold L2.wipe wipeE
    refine ⟨S.m, by rw [List.length_set, List.length_set, S.len], fun j t hj => ?_, fun j k a t u ne hj hk ht hu ej ek => ?_⟩
    · rcases set_get hj with ⟨rfl, rfl, hl⟩ | ⟨ne, hj⟩
      · exact ⟨none, List.getElem?_set_self (by rw [S.len]; exact hl), trivial⟩
      · obtain ⟨o, e, q⟩ := S.at_ j t hj
        exact ⟨o, by rw [List.getElem?_set_ne ne]; exact e, q⟩
    · rcases set_get hj with ⟨rfl, rfl, _⟩ | ⟨nj, hj⟩
      · cases ht
      · rcases set_get hk with ⟨rfl, rfl, _⟩ | ⟨nk, hk⟩
        · cases hu
        · rw [List.getElem?_set_ne nj] at ej
          rw [List.getElem?_set_ne nk] at ek
          exact S.dis j k a t u ne hj hk ht hu ej ek
def lcGo (p : ι → Option Bool) (f : ι → Option α) : List ι → Option (List α)
  | [] => some []
  | x :: xs => (p x).bind fun b => if b then (f x).bind fun y => (lcGo p f xs).bind fun r => some (y :: r) else lcGo p f xs
def lcM (p : ι → Option Bool) (f : ι → Option α) (xs : List ι) : Option (List α) := if xs.length ≤ lim then lcGo p f xs else none
theorem evt_yes : EvT tYes Γ (some true) := fun x e H0 G H σ S Q q => by cases e; exact q G H (Stp.refl S.m)
theorem evn_lc {wi : L2.TI} {g : TG} {is vs : List Nat} {tt : L2.TT} {P : Ty ι} {Δ : ι → TP.Env} {mxs : Option (List ι)} {p : ι → Option Bool} {f : ι → Option α}
    (hi : EvI wi Γ P mxs) (hg : EvG g is (wipeE Γ vs) P Δ) (hv : ∀ i ∈ is, i ∈ vs) (ht : ∀ x, EvT tt (Δ x) (p x)) (he : ∀ x, Ev te (Δ x) T (f x)) : EvN (tLc wi g tt te vs) Γ T (mxs.bind (lcM p f)) := fun z e H0 G H σ S Q q => by
  obtain ⟨xs, ea, ef⟩ := bind_inv e
  unfold lcM at ef
  by_cases hl : xs.length ≤ lim
  case neg => rw [if_neg hl] at ef; cases ef
  rw [if_pos hl] at ef
  refine hi xs ea H0 G H σ S _ fun J G1 H1 s1 yl => ?_
  intro D hD
  refine ⟨fun i m Hc => m = xs.length - i ∧ i ≤ xs.length ∧ ∃ G' acc ys zs, Stp G1 H1 G' Hc ∧ G' D = none ∧ Hc D = some (.lst acc) ∧ All2 (T.rp G') acc ys ∧ lcGo p f (xs.drop i) = some zs ∧ z = ys ++ zs ∧ ys.length ≤ i,
    ⟨xs.length, by simp, Nat.zero_le _, G1, [], [], z, Stp.priv s1.m hD, s1.m.non hD, upd_same, trivial, ef, rfl, Nat.le_refl _⟩, ?_⟩
  rintro i m Hc ⟨rfl, hle, G', acc, ys, zs, sc, gD, cD, ra, eg, ez, hy⟩
  obtain ⟨y1, y2⟩ := yl i G' Hc sc.g sc.m
  by_cases hlt : i < xs.length
  · right
    have ex : xs[i]? = some xs[i] := List.getElem?_eq_getElem hlt
    obtain ⟨jg, jy⟩ := y1 _ ex
    have ed : xs.drop i = xs[i] :: xs.drop (i + 1) := List.drop_eq_getElem_cons hlt
    rw [ed] at eg
    obtain ⟨b, eb, eg⟩ := bind_inv eg
    refine ⟨jg, _, fun H' n => n, fun x H2 y => ?_⟩
    obtain ⟨G2, s2, r2⟩ := jy x H2 y
    have S2 : Slots H0 G2 H2 (L2.wipe σ vs) (wipeE Γ vs) := (S.step ((s1.trans sc).trans s2)).wipe vs
    refine hg _ x H0 G2 H2 _ S2 r2 _ fun σ' S3 hw => ⟨(hw vs hv).trans (wipe_wipe vs), ?_⟩
    refine ht _ b eb H0 G2 H2 σ' S3 _ fun G3 H3 s3 => ?_
    have s03 := (sc.trans s2).trans s3
    have g3 : G3 D = none := (s2.trans s3).p D (ne_none_of cD) gD
    have c3 : H3 D = some (.lst acc) := (s2.trans s3).h _ _ cD
    cases b with
    | true =>
      rw [if_pos rfl] at eg
      obtain ⟨w, ew, eg⟩ := bind_inv eg
      obtain ⟨r, er, eg⟩ := bind_inv eg
      cases eg
      rw [if_pos rfl]
      refine he _ w ew H0 G3 H3 σ' (S3.step s3) _ fun v G4 H4 s4 r4 => ?_
      have c4 := s4.h _ _ c3
      have g4 := s4.p D (ne_none_of c3) g3
      refine ⟨acc, c4, ?_, ?_⟩
      · rw [ra.len]
        exact lim_lt (by omega)
      · refine ⟨xs.length - (i + 1), by omega, rfl, by omega, G4, acc ++ [v], ys ++ [w], r, ?_, g4, upd_same, ?_, er, ?_, ?_⟩
        · have s5 := s03.trans s4
          exact ⟨s5.g, s5.h.right hD, s5.m.right g4, s5.p⟩
        · exact (ra.mono fun _ _ q => T.mono ((s2.trans s3).trans s4).g q).app (.one r4)
        · rw [ez, List.append_assoc]; rfl
        · rw [List.length_append]; show ys.length + 1 ≤ i + 1; omega
    | false =>
      rw [if_neg Bool.false_ne_true] at eg
      rw [if_neg Bool.false_ne_true]
      exact ⟨xs.length - (i + 1), by omega, rfl, by omega, G3, acc, ys, zs, s03, g3, c3, ra.mono fun _ _ q => T.mono (s2.trans s3).g q, eg, ez, by omega⟩
  · left
    have ei : xs.length ≤ i := by omega
    refine ⟨y2 ei, ?_⟩
    rw [List.drop_eq_nil_of_le ei] at eg
    cases eg
    rw [List.append_nil] at ez
    subst ez
    exact q D acc G' Hc (s1.trans sc) (s1.h.non hD) gD cD ra
structure Rt (γ : Type) where
  go : VK → (L2.St → Hp → Prop) → (L2.St → Hp → Prop) → Hp → Hp → Hp → γ → Prop
  mono : ∀ {rt : VK} {bk ct : L2.St → Hp → Prop} {H0 G0 Gs G1 : Hp} {r : γ}, Ex Gs G1 → go rt bk ct H0 G0 Gs r → go rt bk ct H0 G0 G1 r
class FlatR {γ : Type} (W : Rt γ) : Prop where
  flat : ∀ {rt : VK} {bk ct bk' ct' : L2.St → Hp → Prop} {H0 G0 Gs : Hp} {r : γ}, W.go rt bk ct H0 G0 Gs r → W.go rt bk' ct' H0 G0 Gs r
def pureR {γ : Type} (T : Ty γ) : Rt γ := ⟨fun rt _ _ H0 G0 _ r => ∀ v G H, Stp G0 H0 G H → T.rp G v r → rt v H, fun _ h => h⟩
def newR {α : Type} (T : Ty α) : Rt (List α) := ⟨fun rt _ _ H0 G0 _ r => ∀ v G H, Stp G0 H0 G H → (∃ (p : Addr) (vs : List V), v = V.ref p ∧ H0 p = none ∧ G p = none ∧ H p = some (HO.lst vs) ∧ All2 (T.rp G) vs r) → rt v H, fun _ h => h⟩
instance {γ : Type} {T : Ty γ} : FlatR (pureR T) := ⟨fun h => h⟩
instance {α : Type} {T : Ty α} : FlatR (newR T) := ⟨fun h => h⟩
inductive Fl (γ β : Type) : Type where
  | ret (r : γ) : Fl γ β
  | nx (b : β) : Fl γ β
def FlOk (D : Ends) (W : Rt γ) (env : β → TP.Env) (H0 G0 Gs : Hp) : Fl γ β → Prop
  | .ret r => W.go D.rt D.bk D.ct H0 G0 Gs r
  | .nx b => ∀ σ G H, Slots H0 G H σ (env b) → Stp G0 H0 G H → Ex Gs G → D.nx σ H
theorem FlOk.mono {D : Ends} {W : Rt γ} {env : β → TP.Env} {H0 G0 Gs G1 : Hp} {o : Fl γ β} (e : Ex Gs G1) (h : FlOk D W env H0 G0 Gs o) : FlOk D W env H0 G0 G1 o := by
  cases o with
  | ret r => exact W.mono e h
  | nx b => exact fun σ G H S s e1 => h σ G H S s (e.trans e1)
def Sd (ts : TS) (Γ : TP.Env) (W : Rt γ) (env : β → TP.Env) (m : Option (Fl γ β)) : Prop :=
  ∀ o, m = some o → ∀ H0 G0 G H σ, Slots H0 G H σ Γ → Stp G0 H0 G H → ∀ D : Ends, FlOk D W env H0 G0 G o → ts D σ H
def thenF (o : Option (Fl γ δ)) (f : δ → Option (Fl γ β)) : Option (Fl γ β) := o.bind fun x => match x with
  | .ret r => some (.ret r)
  | .nx b => f b
@[simp] theorem thenF_ret (r : γ) (f : δ → Option (Fl γ β)) : thenF (some (.ret r)) f = some (.ret r) := rfl
@[simp] theorem thenF_nx (b : δ) (f : δ → Option (Fl γ β)) : thenF (some (.nx b)) f = f b := rfl
def rtF (m : Option γ) : Option (Fl γ β) := m.bind fun r => some (.ret r)
@[simp] theorem rtF_some (r : γ) : rtF (some r) = (some (.ret r) : Option (Fl γ β)) := rfl
variable {env : β → TP.Env} {rest t u tbd : TS} {W : Rt γ}
theorem sd_nx {b : β} (w : Wk Γ (env b)) : Sd tNext Γ W env (some (.nx b)) := fun o e H0 G0 G H σ S s D k => by
  cases e
  exact k σ G H (S.wk w) s (Ex.refl _)
theorem sd_ret {T : Ty γ} {m : Option γ} (h : Ev te Γ T m) : Sd (tSeq (tRet te) rest) Γ (pureR T) env (rtF m) := fun o e H0 G0 G H σ S s D k => by
  obtain ⟨r, ea, e⟩ := bind_inv e
  cases e
  exact h r ea H0 G H σ S _ fun v G1 H1 s1 r1 => k v G1 H1 (s.trans s1) r1
theorem sd_retN {T : Ty α} {m : Option (List α)} (h : EvN te Γ T m) : Sd (tSeq (tRet te) rest) Γ (newR T) env (rtF m) := fun o e H0 G0 G H σ S s D k => by
  obtain ⟨r, ea, e⟩ := bind_inv e
  cases e
  exact h r ea H0 G H σ S _ fun p vs G1 H1 s1 hn hg hp r1 => k _ G1 H1 (s.trans s1) ⟨p, vs, rfl, s.h.non hn, hg, hp, r1⟩
theorem sd_retOw {T : Ty α} {i : Nat} {xs : List α} (hi : Γ[i]? = some (.ow T xs)) : Sd (tSeq (tRet (tVar i)) rest) Γ (newR T) env (rtF (some xs)) := fun o e H0 G0 G H σ S s D k => by
  cases e
  obtain ⟨o, eo, a, vs, e, ha, hg, h0, r⟩ := S.at_ i _ hi
  subst e
  exact ⟨.ref a, eo, k _ G H s ⟨a, vs, rfl, h0, hg, ha, r⟩⟩
theorem sd_never : Sd (tSeq tNever rest) Γ W env none := fun o e => by cases e
theorem sd_asg {i : Nat} {mx : Option α} {f : α → Option (Fl γ β)} (h : Ev te Γ T mx) (hr : ∀ x, Sd rest (Γ.set i (.pu T x)) W env (f x)) : Sd (tSeq (tAsg te (gName i)) rest) Γ W env (mx.bind f) := fun o e H0 G0 G H σ S s D k => by
  obtain ⟨x, ea, e⟩ := bind_inv e
  refine h x ea H0 G H σ S _ fun v G1 H1 s1 r1 => ?_
  exact hr x o e H0 G0 G1 H1 _ ((S.step s1).set r1) (s.trans s1) D (k.mono s1.g)
theorem sd_asgN {i : Nat} {mx : Option (List α)} {f : List α → Option (Fl γ β)} (h : EvN te Γ T mx) (hr : ∀ x, Sd rest (Γ.set i (.ow T x)) W env (f x)) : Sd (tSeq (tAsg te (gName i)) rest) Γ W env (mx.bind f) := fun o e H0 G0 G H σ S s D k => by
  obtain ⟨x, ea, e⟩ := bind_inv e
  refine h x ea H0 G H σ S _ fun p vs G1 H1 s1 hn hg hp r1 => ?_
  -- the list at p is new: unknown to H0
  have S1 := S.step s1
  have h0 : H0 p = none := s.h.non hn
  refine hr x o e H0 G0 G1 H1 _ ?_ (s.trans s1) D (k.mono s1.g)
  -- as setOw, but p stands already
  refine ⟨S1.m, by rw [List.length_set, List.length_set, S1.len], fun j t hj => ?_, fun j k a t u ne hj hk ht hu ej ek => ?_⟩
  · rcases set_get hj with ⟨rfl, rfl, hl⟩ | ⟨ne, hj⟩
    · exact ⟨some (.ref p), List.getElem?_set_self (by rw [S1.len]; exact hl), p, vs, rfl, hp, hg, h0, r1⟩
    · obtain ⟨o, e, q⟩ := S1.at_ j t hj
      exact ⟨o, by rw [List.getElem?_set_ne ne]; exact e, q⟩
  · have key : ∀ (m : Nat) (t : Slot), Γ[m]? = some t → t.isOw = true → σ[m]? = some (some (.ref p)) → False := fun m t hm ht em => by
      obtain ⟨o, eo, q⟩ := S.at_ m t hm
      obtain ⟨a, e, ha, _⟩ := Slot.own q ht
      rw [em] at eo
      have := Option.some.inj eo
      rw [e] at this
      have e2 : p = a := by cases this; rfl
      exact ha (by rw [← e2, hn])
    rcases set_get hj with ⟨rfl, rfl, hl⟩ | ⟨nj, hj⟩
    · rcases set_get hk with ⟨rfl, _, _⟩ | ⟨nk, hk⟩
      · exact ne rfl
      · rw [List.getElem?_set_self (by rw [S1.len]; exact hl)] at ej
        have e2 : p = a := by cases ej; rfl
        rw [List.getElem?_set_ne nk] at ek
        exact key k u hk hu (by rw [e2]; exact ek)
    · rcases set_get hk with ⟨rfl, rfl, hl⟩ | ⟨nk, hk⟩
      · rw [List.getElem?_set_self (by rw [S1.len]; exact hl)] at ek
        have e2 : p = a := by cases ek; rfl
        rw [List.getElem?_set_ne nj] at ej
        exact key j t hj ht (by rw [e2]; exact ej)
      · rw [List.getElem?_set_ne nj] at ej
        rw [List.getElem?_set_ne nk] at ek
        exact S1.dis j k a t u ne hj hk ht hu ej ek
theorem sd_if {env1 : δ → TP.Env} {c : L2.TT} {mc : Option Bool} {mA mB : Option (Fl γ δ)} {f : δ → Option (Fl γ β)} (hc : EvT c Γ mc) (hA : Sd t Γ W env1 mA) (hB : Sd u Γ W env1 mB) (hr : ∀ b, Sd rest (env1 b) W env (f b)) :
    Sd (tSeq (tIfS c t u) rest) Γ W env (thenF (mIf mc mA mB) f) := fun o e H0 G0 G H σ S s D k => by
  obtain ⟨y, ea, e⟩ := bind_inv e
  obtain ⟨b, ec, eb⟩ := bind_inv ea
  refine hc b ec H0 G H σ S _ fun G1 H1 s1 => ?_
  have S1 := S.step s1
  have s01 := s.trans s1
  have kk : FlOk { D with nx := rest D } W env1 H0 G0 G1 y := by
    cases y with
    | ret r => cases e; exact W.mono s1.g k
    | nx d => exact fun σ2 G2 H2 S2 s2 e2 => hr d o e H0 G0 G2 H2 σ2 S2 s2 D (k.mono (s1.g.trans e2))
  cases b with
  | true => exact hA y eb H0 G0 G1 H1 σ S1 s01 _ kk
  | false => exact hB y eb H0 G0 G1 H1 σ S1 s01 _ kk
def forF (step : δ → ι → Option (Fl γ δ)) : List ι → δ → Option (Fl γ δ)
  | [], b => some (.nx b)
  | x :: xs, b => thenF (step b x) fun b' => forF step xs b'
theorem sd_for [FlatR W] {env1 : δ → TP.Env} {wi : L2.TI} {g : TG} {is : List Nat} {P : Ty ι} {Δ : δ → ι → TP.Env} {b0 : δ} {mxs : Option (List ι)} {step : δ → ι → Option (Fl γ δ)} {f : δ → Option (Fl γ β)}
    (hi : EvI wi Γ P mxs) (w : Wk Γ (env1 b0)) (hg : ∀ b, EvG g is (env1 b) P (Δ b)) (hb : ∀ b x, Sd tbd (Δ b x) W env1 (step b x)) (hr : ∀ b, Sd rest (env1 b) W env (f b)) :
    Sd (tSeq (tFor wi g tbd) rest) Γ W env (mxs.bind fun xs => thenF (forF step xs b0) f) := fun o e H0 G0 G H σ S s D k => by
  obtain ⟨xs, ea, e⟩ := bind_inv e
  obtain ⟨y, ey, e⟩ := bind_inv e
  refine hi xs ea H0 G H σ S _ fun J G1 H1 s1 yl => ?_
  refine ⟨fun i m σ' H' => m = xs.length - i ∧ i ≤ xs.length ∧ ∃ b G', Slots H0 G' H' σ' (env1 b) ∧ Stp G0 H0 G' H' ∧ Ex G1 G' ∧ forF step (xs.drop i) b = some y,
    ⟨xs.length, by simp, Nat.zero_le _, b0, G1, (S.step s1).wk w, s.trans s1, Ex.refl _, ey⟩, ?_⟩
  rintro i m σ' H' ⟨rfl, hle, b, G', S', s', eg, ef⟩
  obtain ⟨y1, y2⟩ := yl i G' H' eg S'.m
  by_cases hlt : i < xs.length
  · right
    have ex : xs[i]? = some xs[i] := List.getElem?_eq_getElem hlt
    obtain ⟨jg, jy⟩ := y1 _ ex
    have ed : xs.drop i = xs[i] :: xs.drop (i + 1) := List.drop_eq_getElem_cons hlt
    rw [ed] at ef
    obtain ⟨z, ez, ef⟩ := bind_inv ef
    refine ⟨jg, _, fun σ2 H2 n => n, fun x H2 yy => ?_⟩
    obtain ⟨G2, s2, r2⟩ := jy x H2 yy
    refine hg b _ x H0 G2 H2 σ' (S'.step s2) r2 _ fun σ3 S3 _ => ?_
    refine hb b _ z ez H0 G0 G2 H2 σ3 S3 (s'.trans s2) _ ?_
    cases z with
    | ret r =>
      cases ef
      cases e
      exact FlatR.flat (W.mono ((s1.g.trans eg).trans s2.g) k)
    | nx b' => exact fun σ4 G4 H4 S4 s4 e4 => ⟨xs.length - (i + 1), by omega, rfl, by omega, b', G4, S4, s4, (eg.trans s2.g).trans e4, ef⟩
  · left
    have ei : xs.length ≤ i := by omega
    refine ⟨y2 ei, ?_⟩
    rw [List.drop_eq_nil_of_le ei] at ef
    cases ef
    exact hr b o e H0 G0 G' H' σ' S' s' D (k.mono (s1.g.trans eg))
end
end TP
set_option maxHeartbeats 2000000
namespace SrtO
open PySem PyProof.Rows Srt
section
variable {prog : Program} {w : World} {A : Around} {E : Value → Shared → Prop} {s : Shared}
theorem collect_tup {l : Addr} {vs : List Value} {o : Obj} {n : Nat} {Q : List Value → Shared → Prop} (ho : s.heap.get? l = some o) (hc : o.cls = .type "tuple") (hd : o.data = .seq vs.toArray n)
    (h : Q vs { s with heap := (s.heap.push (seqObj "list" #[] 0)).update s.heap.objs.size (Obj.mapSeq (· ++ vs.toArray)) }) (hsz : vs.length ≤ sizeLine) :
    wpAny (model prog w) A (collect (.ref l)) Q E s := by
  unfold collect
  refine wpAny_bind (wpAny_runValue (codeAny_builtin entry_proto_collect' ?_))
  show wpAny _ _ (do again (.builtin "list.__iadd__" ⟨[← newList [], .ref l], []⟩)) _ _ s
  refine wpAny_bind (wpAny_newList (wpAny_pure ⟨Code.quiet_builtin _ (by decide +kernel), codeAny_builtin entry_list_iadd' ?_⟩))
  show wpAny _ _ (Builtin.List.listExtendWith (.ref s.heap.objs.size) (.ref l) (.ref s.heap.objs.size)) _ _ { s with heap := s.heap.push (seqObj "list" #[] 0) }
  unfold Builtin.List.listExtendWith
  have ho' : (s.heap.push (seqObj "list" #[] 0)).get? l = some o := Heap.get?_push_of_some _ ho
  refine wpAny_bind (wpAny_typeOf (T := "tuple") ⟨o, ho', hc⟩ ?_)
  have ht : (Value.type "tuple" == Value.type "tuple") = true := by rfl
  rw [if_pos (by rw [ht]; simp)]
  refine wpAny_bind (listItems_at ho' hd ?_)
  refine wpAny_bind (listItems_at (xs := #[]) (n := 0) (Heap.get?_push_size _ rfl) rfl ?_)
  rw [if_neg (by simp)]
  refine wpAny_bind (listUpdate_at (xs := #[]) (n := 0) (Heap.get?_push_size _ rfl) rfl ?_ (Nat.zero_le _) (by show (#[] ++ vs.toArray).size ≤ sizeLine + 1; simp only [Array.size_append, List.size_toArray, List.length_nil]; omega))
  refine wpAny_pure ?_
  show wpAny (model prog w) A (do
      let o ← load s.heap.objs.size
      match o.data with
      | .seq xs _ => pure xs.toList
      | _ => unsupported "internal:collect") Q E { s with heap := (s.heap.push (seqObj "list" #[] 0)).update s.heap.objs.size (Obj.mapSeq (· ++ vs.toArray)) }
  refine wpAny_bind (wpAny_load (get?_update_seq (Heap.get?_push_size _ rfl) _) ?_)
  show wpAny _ _ (pure ((#[] : Array Value) ++ vs.toArray).toList) Q E _
  rw [show ((#[] : Array Value) ++ vs.toArray).toList = vs by simp]
  exact wpAny_pure h
theorem sorted_ordT {l : Addr} {vs : List Value} {ltv : Value → Value → Bool} {o : Obj} {n : Nat} {Q : Value → Shared → Prop} (O : Swo ltv) (ho : s.heap.get? l = some o) (hc : o.cls = .type "tuple") (hd : o.data = .seq vs.toArray n) (hz : vs.length ≤ sizeLine)
    (hS : 2 ≤ vs.length → ∀ (h₁ : Heap) (a : Addr), h₁.get? a = some (seqObj "list" vs.toArray 0) → (∀ b o, s.heap.get? b = some o → b ≠ a ∧ h₁.get? b = some o) → SortableO prog w A.in1.in1 { s with heap := h₁ } a vs ltv)
    (h : ∀ out : List Value, Srtd ltv out → Stb ltv out vs → Q (.ref (s.heap.objs.size + 1)) { s with heap := sortedAll s.heap vs out.toArray }) :
    wpAny (model prog w) A (call (.builtin "sorted") [.ref l]) Q E s := by
  refine Calls.call_function_entry kind_sorted plain_sorted entry_sorted (args_sorted1 _) ?_
  unfold Builtin.«sorted»
  refine wpAny_bind (m := checkCount "sorted" 1 1 _) (wpAny_pure ?_)
  refine wpAny_bind (collect_tup ho hc hd ?_ hz)
  refine wpAny_bind (wpAny_newList ?_ hz)
  have hsz : ((s.heap.push (seqObj "list" #[] 0)).update s.heap.objs.size (Obj.mapSeq (· ++ vs.toArray))).objs.size = s.heap.objs.size + 1 := by
    rw [Heap.size_update, size_push']
  have hoL : (((s.heap.push (seqObj "list" #[] 0)).update s.heap.objs.size (Obj.mapSeq (· ++ vs.toArray))).push (seqObj "list" vs.toArray 0)).get? (s.heap.objs.size + 1) = some (seqObj "list" vs.toArray 0) := by
    rw [← hsz]; exact Heap.get?_push_size _ rfl
  have keep : ∀ b o, s.heap.get? b = some o → b ≠ s.heap.objs.size + 1 ∧ (((s.heap.push (seqObj "list" #[] 0)).update s.heap.objs.size (Obj.mapSeq (· ++ vs.toArray))).push (seqObj "list" vs.toArray 0)).get? b = some o := fun b o q => by
    have hlt : b < s.heap.objs.size := Heap.lt_size q
    refine ⟨Nat.ne_of_lt (Nat.lt_succ_of_lt hlt), Heap.get?_push_of_some _ ?_⟩
    rw [Heap.get?_update_ne _ _ _ _ (Nat.ne_of_lt hlt)]
    exact Heap.get?_push_of_some _ q
  show wpAny _ _ _ _ _ { s with heap := ((s.heap.push (seqObj "list" #[] 0)).update s.heap.objs.size (Obj.mapSeq (· ++ vs.toArray))).push (seqObj "list" vs.toArray 0) }
  rw [hsz]
  refine wpAny_bind (wpAny_holding (wpAny_call_entry slot_list_sort ⟨_, hoL, rfl⟩ entry_list_sort (list_sort_ord O hoL hz (fun h2 => hS h2 _ _ hoL keep) fun out hs hb => ⟨_, rfl, ?_⟩) (args_list_sort _)))
  exact wpAny_pure ⟨_, rfl, h out hs hb⟩
end
end SrtO
namespace L2
open PySem PySem.Spec PyProof.Rows
def rSortedIT (K : PySem.W.Frag) : List V → Hp → VK → Prop := fun vs H Q => ∃ (a : Addr) (ns : List Int), vs = [V.ref a] ∧ SqT K H a (ns.map V.int) ∧
  ∀ (ns' : List Int) (p : Addr), ns'.Perm ns → ns'.Pairwise (· ≤ ·) → H p = none → Q (.ref p) (upd H p (.lst (ns'.map V.int)))
theorem cr_sortedIT {X : Cx} : CallR X (.builtin "sorted") (rSortedIT X.K) := by
  intro pins s σ H vs us Q I r h
  obtain ⟨a, ns, rfl, hs, q⟩ := h
  obtain ⟨its, rv, ⟨o, ho, hc, n, hd⟩, hz⟩ := I.tuple hs
  rw [Vals.ref1 r]
  have hi := rv.ints
  refine SrtO.sorted_ordT SrtO.swo_int ho hc hd (by rw [← rv.length]; exact hz) (fun h2 h₁ a' _ _ => SrtO.ints_sortable hi h2) fun out h1 h2 => ?_
  obtain ⟨k1, k2, k3⟩ := SrtO.ints_out hi h1 h2
  obtain ⟨ep, he'⟩ := PyProof.Rows.sortedAll_at s.heap its out.toArray
  have hlen : ((out.map SrtO.iv).map V.int).length ≤ sizeLine := by
    rw [List.length_map, k2.length_eq]
    rw [List.length_map] at hz
    exact hz
  exact ⟨.ref _, upd H (s.heap.objs.size + 1) (.lst ((out.map SrtO.iv).map V.int)), I.laid (t' := s.toks) (fun _ _ => PyProof.Rows.sortedAll_old) (Nat.le_succ _) ⟨hlen, out, ep, vals_of_ints k1, he'⟩, rfl, q _ _ k2 k3 (I.hok.fresh (Nat.le_succ _))⟩
def maxDef (xs : List Int) (d : Int) : Int := match xs with
  | [] => d
  | x :: xs => xs.foldl max x
def rMaxDef (K : PySem.W.Frag) : List V → List V → Hp → VK → Prop := fun vs zs H Q => ∃ (a : Addr) (ns : List Int) (d : Int), vs = [V.ref a] ∧ zs = [V.int d] ∧ SqL K H a (ns.map V.int) ∧ Q (.int (maxDef ns d)) H
theorem depth_ints : ∀ ns : List Int, PyData.depthAll (ns.map PyData.int) ≤ 1
  | [] => by simp [PyData.depthAll]
  | n :: ns => by
    have := depth_ints ns
    simp [PyData.depthAll, PyData.depth]
    omega
theorem ints_reads {h : Heap} : ∀ {us : List Value} {ns : List Int}, Vals (ns.map V.int) us → ∃ as, ReadsAll h us (ns.map PyData.int) as
  | [], [], _ => ⟨_, ReadsAll.nil⟩
  | u :: us, n :: ns, r => by
    cases r with
    | cons r1 r2 =>
      obtain ⟨t, rfl⟩ := r1
      obtain ⟨as, q⟩ := ints_reads (h := h) r2
      exact ⟨_, ReadsAll.cons (Reads.int n t) q⟩
  | [], n :: ns, r => by cases r
  | u :: us, [], r => by cases r
theorem cr_maxDef {X : Cx} (hc : X.calm = true) (hu : X.A.units + 64 < cLine) : CallRK X (.builtin "max") [Str.ofString "default"] (rMaxDef X.K) := by
  intro pins s σ H vs zs us ws Q I r rz h
  obtain ⟨a, ns, d, rfl, rfl, hs, q⟩ := h
  obtain rfl := Vals.ref1 r
  obtain ⟨w1, rfl, e1⟩ := vals1 rz
  obtain ⟨its, rv, hl, hz⟩ := I.list hs
  obtain ⟨as, hr⟩ := ints_reads (h := s.heap) rv
  refine PySem.W.max_list_default (xs := ns.map PyData.int) (I.ok.hd hc) hl.isList hr ?_ (by have := depth_ints ns; omega) ?_ ?_
  · refine ⟨fun x hx y hy => ?_, fun x hx => ?_⟩
    · obtain ⟨i, _, rfl⟩ := List.mem_map.mp hx
      obtain ⟨j, _, rfl⟩ := List.mem_map.mp hy
      rfl
    · obtain ⟨i, _, rfl⟩ := List.mem_map.mp hx
      intro z; cases z
  · intro e h' tk k
    have : ns = [] := by simpa using e
    subst this
    exact ⟨.int d, H, I.kept (t' := tk) k, e1, q⟩
  · intro y ys i v h' tk bs e hv hr' k
    cases ns with
    | nil => cases e
    | cons n ns =>
      cases e
      rw [PySem.W.maxD_ints] at hr'
      cases hr'
      exact ⟨.int (ns.foldl max n), H, I.kept (t' := tk) k, ⟨_, rfl⟩, q⟩
end L2
set_option maxHeartbeats 2000000
namespace L2
open PySem PySem.Spec PyProof.Rows PySem.W
def encU (ns : List Int) : PyData := .tuple (ns.map .int)
def rSortedU (K : PySem.W.Frag) : List V → Hp → VK → Prop := fun vs H Q => ∃ (a : Addr) (xs : List V) (bs : List (List Int)) (R : V → List Int → Prop), vs = [V.ref a] ∧ SqL K H a xs ∧ TP.All2 (fun v ns => (TP.tyU K TP.tyI).rp H v ns) xs bs ∧ TP.All2 R xs bs ∧ (∀ b ∈ bs, b ≠ []) ∧
  ∀ ys p, TP.All2 R ys (bs.mergeSort (dataLe false encU)) → H p = none → Q (.ref p) (upd H p (.lst ys))
theorem all2_ints {vs : List V} {ns : List Int} {H : Hp} (h : TP.All2 (TP.tyI.rp H) vs ns) : vs = ns.map V.int := by
  induction vs generalizing ns with
  | nil => cases ns with
    | nil => rfl
    | cons => exact h.elim
  | cons v vs ih => cases ns with
    | nil => exact h.elim
    | cons n ns =>
      have e : v = .int n := h.1
      rw [e, ih h.2]; rfl
theorem ints_all2 {H : Hp} : ∀ {ns : List Int}, TP.All2 (TP.tyI.rp H) (ns.map V.int) ns
  | [] => trivial
  | n :: ns => ⟨rfl, ints_all2⟩
theorem dp_ints {K : Frag} {H : Hp} : ∀ ns : List Int, DpAll K H (ns.map V.int) (ns.map PyData.int)
  | [] => .nil
  | n :: ns => .cons (.int n) (dp_ints ns)
theorem dp_tup {K : Frag} {H : Hp} {v : V} {ns : List Int} (h : (TP.tyU K TP.tyI).rp H v ns) : Dp K H v (encU ns) := by
  obtain ⟨a, vs, rfl, hs, r⟩ := h
  rw [all2_ints r] at hs
  exact .tup hs (dp_ints ns)
theorem alike_ints : ∀ ns ms : List Int, alikeAll (ns.map .int) (ms.map .int) = true
  | [], ms => by cases ms <;> simp [alikeAll]
  | n :: ns, [] => by simp [alikeAll]
  | n :: ns, m :: ms => by simp [alikeAll, alike, alike_ints ns ms]
theorem each_zip {h : Heap} {R : V → List Int → Prop} : ∀ {xs : List V} {its : List Value} {bs : List (List Int)}, Vals xs its → TP.All2 R xs bs → EachIs (fun v (b : V × List Int) => RelV b.1 v) its (xs.zip bs)
  | [], _, [], r, _ => by cases r; exact .nil
  | x :: xs, _, b :: bs, r, q => by
    cases r with
    | cons r1 r2 => exact .cons r1 (each_zip (h := h) r2 q.2)
  | [], _, _ :: _, _, q => q.elim
  | _ :: _, _, [], _, q => q.elim
theorem each_zipR {h : Heap} {R : V → List Int → Prop} {S : Value → List Int → Prop} (hS : ∀ v u n, RelV v u → R v n → S u n) : ∀ {xs : List V} {its : List Value} {bs : List (List Int)}, Vals xs its → TP.All2 R xs bs → EachIs (fun v (b : V × List Int) => S v b.2) its (xs.zip bs)
  | [], _, [], r, _ => by cases r; exact .nil
  | x :: xs, _, b :: bs, r, q => by
    cases r with
    | cons r1 r2 => exact .cons (hS _ _ _ r1 q.1) (each_zipR (h := h) hS r2 q.2)
  | [], _, _ :: _, _, q => q.elim
  | _ :: _, _, [], _, q => q.elim
theorem zip_snd {R : V → List Int → Prop} {xs : List V} {bs : List (List Int)} (q : TP.All2 R xs bs) : (xs.zip bs).map Prod.snd = bs := by
  rw [List.map_snd_zip]; rw [q.len]; exact Nat.le_refl _
theorem zip_mem {R : V → List Int → Prop} : ∀ {xs : List V} {bs : List (List Int)}, TP.All2 R xs bs → ∀ p ∈ xs.zip bs, R p.1 p.2
  | [], [], _, p, h => by simp at h
  | x :: xs, b :: bs, q, p, h => by
    rw [List.zip_cons_cons] at h
    rcases List.mem_cons.mp h with rfl | h
    · exact q.1
    · exact zip_mem q.2 p h
  | [], _ :: _, q, _, _ => q.elim
  | _ :: _, [], q, _, _ => q.elim
theorem all2_of_pairs {R : V → List Int → Prop} : ∀ {l : List (V × List Int)}, (∀ p ∈ l, R p.1 p.2) → TP.All2 R (l.map Prod.fst) (l.map Prod.snd)
  | [], _ => trivial
  | p :: l, h => ⟨h p List.mem_cons_self, all2_of_pairs fun q hq => h q (List.mem_cons_of_mem _ hq)⟩
theorem vals_of_each : ∀ {out : List Value} {l : List (V × List Int)}, EachIs (fun v (b : V × List Int) => RelV b.1 v) out l → Vals (l.map Prod.fst) out
  | _, _, .nil => .nil
  | _, _, .cons h t => .cons h (vals_of_each t)
theorem cr_sortedU {X : Cx} (hu : X.A.units + 64 < cLine) : CallR X (.builtin "sorted") (rSortedU X.K) := by
  intro pins s σ H vs us Q I r h
  obtain ⟨a, xs, bs, R, rfl, hs, hb, hR, hne, q⟩ := h
  obtain ⟨its, rv, hl, hz⟩ := I.list hs
  rw [Vals.ref1 r]
  have e1 := each_zip (h := s.heap) rv hb
  have e2 : EachIs (fun v (b : V × List Int) => ∃ as, Reads s.heap v (encU b.2) as) its (xs.zip bs) := each_zipR (h := s.heap) (S := fun v n => ∃ as, Reads s.heap v (encU n) as) (fun v u n r1 r2 => Dp.reads I _ _ _ (dp_tup r2) r1) rv hb
  have hlen : (xs.zip bs).length = xs.length := by rw [List.length_zip, hb.len, Nat.min_self]
  refine sorted_data (enc := fun b : V × List Int => encU b.2) hl.isList e1 e2 (AllAlike.of fun b b' => by show alikeAll _ _ = true; exact alike_ints _ _) (.inl fun d hd => ?_) (by rw [hlen]; exact hz) (fun b _ => ?_) fun out hol eo => ?_
  · obtain ⟨p, hp, rfl⟩ := List.mem_map.mp hd
    have hm : p.2 ∈ bs := (List.of_mem_zip hp).2
    have := hne _ hm
    obtain ⟨n, ns, e⟩ := List.exists_cons_of_ne_nil this
    exact ⟨.int n, ns.map .int, by show encU p.2 = _; rw [e]; rfl⟩
  · have hd : (encU b.2).depth ≤ 2 := by
      have := depth_ints b.2
      simp only [encU, PyData.depth]
      omega
    omega
  · obtain ⟨ep, he'⟩ := PyProof.Rows.sortedAll_at s.heap its out.toArray
    have hv := vals_of_each eo
    have hL : (((xs.zip bs).mergeSort (dataLe false fun b : V × List Int => encU b.2)).map Prod.fst).length ≤ sizeLine := by
      rw [List.length_map, List.length_mergeSort, hlen]; exact hz
    refine ⟨.ref _, upd H (s.heap.objs.size + 1) (.lst (((xs.zip bs).mergeSort (dataLe false fun b : V × List Int => encU b.2)).map Prod.fst)), I.laid (t' := s.toks) (fun _ _ => PyProof.Rows.sortedAll_old) (Nat.le_succ _) ⟨hL, out, ep, hv, he'⟩, rfl, q _ _ ?_ (I.hok.fresh (Nat.le_succ _))⟩
    have es : ((xs.zip bs).mergeSort (dataLe false fun b : V × List Int => encU b.2)).map Prod.snd = bs.mergeSort (dataLe false encU) := by
      refine Eq.trans (sort_maps (s := dataLe false encU) Prod.snd (fun _ _ _ _ => rfl)) ?_
      rw [zip_snd hb]
    rw [← es]
    exact all2_of_pairs fun p hp => zip_mem hR p ((List.mergeSort_perm _ _).mem_iff.mp hp)
end L2
set_option maxHeartbeats 2000000
namespace PySem
open Sem (wp)
open AutoSeq1 (wpAny_loadPart')
theorem meets_enumerate_newT (l : Addr) (items : Array Value) (n : Nat) (dct : Option Addr) (sl : Array (Option Value)) :
    Meets (Builtin.«enumerate.__new__» ⟨[.type "enumerate", .ref l], []⟩) (fun _ R s => s.heap.get? l = some { cls := .type "tuple", dict := dct, data := .seq items n, slots := sl } ∧
      R (.ok (.ret (.ref (s.heap.push { cls := .type "tuple_iterator", data := .fields #[.ref l, .int 0 0] }).objs.size)))
        { s with heap := (s.heap.push { cls := .type "tuple_iterator", data := .fields #[.ref l, .int 0 0] }).push { cls := .type "enumerate", data := .fields #[.none, .bool false, .ref s.heap.objs.size, rawInt 0, .none, .none] } }) :=
  .of_wp fun prog w A R s h => by
    obtain ⟨hp, g, d, tk, os⟩ := s; obtain ⟨hl, h⟩ := h
    have hsub := sub_enumerate
    have hL : Heap.IsTuple (Shared.heap ⟨hp, g, d, tk, os⟩) l items := ⟨_, hl, rfl, n, rfl⟩
    wp_walk using wpAny_loadPart' hl
    refine wpAny_stack_any fun st => wpAny_pure ?_
    split
    · rename_i c _ _ _ _ _
      cases (c == Value.type "enumerate")
      · wp_walk using wpAny_loadPart' hl, wpAny_pyIter_tuple hL
        exact ⟨_, rfl, h⟩
      · wp_walk using wpAny_loadPart' hl, wpAny_pyIter_tuple hL
        exact ⟨_, rfl, h⟩
    · wp_walk using wpAny_loadPart' hl, wpAny_pyIter_tuple hL
      exact ⟨_, rfl, h⟩
section
variable {prog : Program} {w : World} {A : Around} {E : Value → Shared → Prop} {s : Shared}
theorem call_enumerate_tuple {l : Addr} {items : Array Value} {Q : Value → Shared → Prop} (hL : s.heap.IsTuple l items)
    (h : ∀ h', IsEnum h' (s.heap.objs.size + 1) s.heap.objs.size 0 .none → h'.IsTupleIter s.heap.objs.size l 0 → h'.objs.size = s.heap.objs.size + 2 →
      (∀ b o, s.heap.get? b = some o → h'.get? b = some o) → Q (.ref (s.heap.objs.size + 1)) { s with heap := h' }) :
    wpAny (model prog w) A (call (.type "enumerate") [.ref l]) Q E s := by
  obtain ⟨⟨c, dct, dt, sl⟩, hl, hc, n, hd⟩ := hL
  replace hc : c = .type "tuple" := hc
  replace hd : dt = .seq items n := hd
  subst hc hd
  refine callType_new F.called_enumerate (by decide) (F.typeCall_enumerate_1 _) (F.newCall_enumerate_1 _) (fun obj => F.args_object_init_2 obj _) F.entry_enumerate_new
    (meets_enumerate_newT l items n dct sl) ⟨hl, ?_⟩
  have hz : (s.heap.push { cls := .type "tuple_iterator", data := .fields #[.ref l, .int 0 0] }).objs.size = s.heap.objs.size + 1 := Heap.size_push ..
  show _ ∧ _
  rw [hz]
  have he : IsEnum ((s.heap.push { cls := .type "tuple_iterator", data := .fields #[.ref l, .int 0 0] }).push
      { cls := .type "enumerate", data := .fields #[.none, .bool false, .ref s.heap.objs.size, rawInt 0, .none, .none] }) (s.heap.objs.size + 1) s.heap.objs.size 0 .none := by
    have := Heap.get?_push_size (s.heap.push { cls := .type "tuple_iterator", data := .fields #[.ref l, .int 0 0] })
      (o := { cls := .type "enumerate", data := .fields #[.none, .bool false, .ref s.heap.objs.size, rawInt 0, .none, .none] }) rfl
    rw [hz] at this; exact this
  refine ⟨⟨_, he, rfl⟩, h _ he ⟨_, Heap.get?_push_of_some _ (Heap.get?_push_size _ rfl), rfl, rfl⟩ (by rw [Heap.size_push, hz]) fun b o x => Heap.get?_push_of_some _ (Heap.get?_push_of_some _ x)⟩
end
end PySem
namespace L2
open PySem PySem.Spec PyProof.Rows
def IteT (K : PySem.W.Frag) (a : Addr) : It :=
  ⟨fun i H => ∃ (xs : List V) (x : V), SqT K H a xs ∧ xs[i]? = some x, fun i H v H' => ∃ T x, v = .ref T ∧ H T = none ∧ H' = upd H T (.tup [.int (i : Nat), x]) ∧ ∀ xs, SqT K H a xs → xs[i]? = some x, fun i H => ∃ xs : List V, SqT K H a xs ∧ xs.length ≤ i⟩
theorem turn_enumT {P : Program} {w : World} {K : PySem.W.Frag} {elts : List Expr} {kk : Nat} {tpos : Pos} (a e it : Addr) (hai : a ≠ it) (hae : e ≠ a) :
    Turn P w K (.Tuple elts kk tpos) (IteT K a) [e, it] e (fun i h => (∃ old, IsEnum h e it ((i : Nat) : Int) old) ∧ h.IsTupleIter it a i ∧ e ≠ it) where
  mem := by simp
  obj := fun i h st b hb => by
    obtain ⟨⟨old, he⟩, ⟨o, ho, hc, hd⟩, _⟩ := st
    have e' : b = e ∨ b = it := by simpa using hb
    rcases e' with z | z
    · rw [z]; exact ⟨_, he, fun v q => nomatch q⟩
    · rw [z]; exact ⟨o, ho, fun v q => by rw [hd] at q; cases q⟩
  keep := fun i h h' st k => let ⟨⟨old, he⟩, hi, hne⟩ := st; ⟨⟨old, k e (by simp) _ he⟩, hi.at fun o q => k it (by simp) o q, hne⟩
  item := by
    intro X hP hw hK hc i pins s σ H E I hf st hg
    subst hP hw hK
    obtain ⟨⟨old, he⟩, hit, hne⟩ := st
    obtain ⟨xs, x, hq, hx⟩ := hg
    obtain ⟨its, rv, p, hz⟩ := I.tuple hq
    obtain ⟨u, hu, ru⟩ := rv.get hx
    have hel : e < s.heap.objs.size := Heap.lt_size he
    have hil : it < s.heap.objs.size := by obtain ⟨_, q, _⟩ := hit; exact Heap.lt_size q
    have hh : X.A.in1.handled = none := I.ok.hd hc
    have hlt : i < its.toArray.size := by
      obtain ⟨q, _⟩ := List.getElem?_eq_some_iff.mp hu
      simpa using q
    refine wpAny_pyNext_enum_itemD (Draws.tuple hh it a hai its.toArray) he ⟨hit, p⟩ hlt hne (by simp [hne, hae]) fun x' h' tk hP' ho hst' hT hsz hk => ?_
    obtain ⟨hit', p'⟩ := hst'
    have eu : x' = u := by
      have : its.toArray[i]? = some u := by simpa using hu
      rw [this] at hP'
      exact (Option.some.inj hP').symm
    subst eu
    refine ⟨_, rfl, wpAny_letOwnedTupleGo_enum (s := { s with heap := h', toks := tk + 1 }) ho fun h'' he' sb => ?_⟩
    have hT2 : h''.get? s.heap.objs.size = some { cls := .type "tuple", data := .seq #[.int i tk, x'] } := (sb.2 _ (Nat.ne_of_gt hel)).trans hT
    have new : ObjOk X.prog X.w (upd H s.heap.objs.size (.tup [.int (i : Nat), x])) h'' s.heap.objs.size (.tup [.int (i : Nat), x]) :=
      ⟨by show 2 ≤ sizeLine; decide, [.int i tk, x'], .cons ⟨_, rfl⟩ (.cons ru .nil), ⟨_, hT2, rfl, _, rfl⟩⟩
    have I1 : Inv X pins σ (upd H s.heap.objs.size (.tup [.int (i : Nat), x])) { s with heap := h'', toks := tk + 1 } :=
      I.turnedNew (ch := [e, it]) (fun b ob hb q => (sb.2 b (fun z => hb (by simp [z]))).trans (hk b ob (fun z => hb (by simp [z])) (fun z => hb (by simp [z])) q)) hf (Nat.le_refl _) new
    refine ⟨.ref s.heap.objs.size, _, I1, rfl, ⟨_, x, rfl, I.hok.fresh (Nat.le_refl _), rfl, fun ys hy => by rw [I.tuple_inj hy hq]; exact hx⟩, ⟨⟨x', ?_⟩, hit'.at fun o q => (sb.2 it (Ne.symm hne)).trans q, hne⟩, fun b hb => ?_⟩
    · have e1 : ((i + 1 : Nat) : Int) = (i : Int) + 1 := by omega
      rw [e1]; exact he'
    · have hb' : b < s.heap.objs.size := by
        have e' : b = e ∨ b = it := by simpa using hb
        rcases e' with z | z
        · rw [z]; exact hel
        · rw [z]; exact hil
      rw [upd_ne (Nat.ne_of_lt hb')]
      exact (hf b hb).1
  done := by
    intro X hP hw hK hc i pins s σ H E I hf st hg
    subst hP hw hK
    obtain ⟨⟨old, he⟩, hit, hne⟩ := st
    obtain ⟨xs, hq, hx⟩ := hg
    obtain ⟨its, rv, p, hz⟩ := I.tuple hq
    obtain ⟨f0, f1, f2, f3, f4, f5⟩ := hf it (by simp)
    have hl := rv.length
    have hT : s.TypeIs (.ref e) "enumerate" := ⟨_, he, rfl⟩
    have hh : X.A.in1.handled = none := I.ok.hd hc
    unfold pyNext
    refine wpAny_bind (wpAny_attempt (wpAny_callSpecial?_slot (name := Str.ofString "__next__") hT F.slot_enumerate_next
      (wpAny_call_entry F.slot_enumerate_next hT F.entry_enumerate_next ?_ (F.args_enumerate_next_1 _))))
    show wpAny _ _ (field (.ref e) 2 >>= _) _ _ _
    refine wpAny_bind (wpAny_field he rfl (x := .ref it) rfl ?_)
    refine wpAny_bind (wpAny_nextOf_tuple_end hh hit p (by simp; omega) fun h' x he' hx' => ?_)
    obtain ⟨o, ho, hc'⟩ := hx'
    refine wpAny_bind (wpAny_isInstance (T := "StopIteration") (b := true) ⟨o, ho, hc'⟩ isSubtype_stop ?_)
    exact wpAny_pure ⟨rfl, I.turned (t' := s.toks) (fun b o hb q => he' b o hb q) f0 f1 f3 f4 f5⟩
  self := fun A i s Q E st h => let ⟨⟨_, he⟩, _⟩ := st; wpAny_pyIter_enum he h
def iEnumT (K : PySem.W.Frag) (ta : TA) : TI := fun σ H R => ta σ H fun vs H1 => ∃ a xs, vs = [.ref a] ∧ SqT K H1 a xs ∧ R (IteT K a) H1
theorem pi_enumT {X : Cx} {e : Expr} {ta : TA} {p pos tpos : Pos} {elts : List Expr} {kk : Nat} (hg : Gl X "enumerate") (hm : X.mg "enumerate" = none) (ha : PA X [e] ta) (hs : starEach [e] X.env = [(false, eval e X.env)] := by rfl) :
    PI X (.Tuple elts kk tpos) (.Call (.Name "enumerate" p) [e] [] pos) (iEnumT X.K ta) := by
  refine ⟨fun pins s σ H R I h => ?_⟩
  refine Call_ (ld_blt I hg hm boot_enumerate (PyProof.Rows.callWith_type1 (thn (ha.run pos pins s σ H _ I h) fun us s1 ⟨vs, H1, I1, r1, q1⟩ => ?_) hs rfl))
  obtain ⟨a, xs, ex, hq, q⟩ := q1
  subst ex
  cases r1 with
  | cons r rr =>
    cases rr
    cases r
    obtain ⟨its, rv, p', hz⟩ := I1.tuple hq
    have hal : a < s1.heap.objs.size := by obtain ⟨o, q', _⟩ := p'; exact Heap.lt_size q'
    refine call_enumerate_tuple p' fun h' he hit hsz hk => wpAny_pyIter_enum he ?_
    have I2 : Inv X pins σ H1 { s1 with heap := h' } := I1.kept (t' := s1.toks) hk
    refine ⟨s1.heap.objs.size + 1, [s1.heap.objs.size + 1, s1.heap.objs.size], _, _, H1, rfl, I2, turn_enumT a (s1.heap.objs.size + 1) s1.heap.objs.size (Nat.ne_of_lt hal) (Nat.ne_of_gt (Nat.lt_succ_of_lt hal)), ⟨⟨.none, he⟩, hit, Nat.succ_ne_self _⟩, fun b hb => ?_, q⟩
    have e' : b = s1.heap.objs.size + 1 ∨ b = s1.heap.objs.size := by simpa using hb
    have hle : s1.heap.objs.size ≤ b := by
      rcases e' with z | z
      · rw [z]; exact Nat.le_add_right _ _
      · rw [z]; exact Nat.le_refl _
    exact I1.fpOk hle (I1.hok.fresh hle)
end L2
set_option maxHeartbeats 1000000
namespace L2
open PySem PySem.Spec PyProof.Rows
def mMax : List Int → Option Int
  | [] => none
  | x :: xs => some (xs.foldl max x)
def mMin : List Int → Option Int
  | [] => none
  | x :: xs => some (xs.foldl min x)
def rMaxT (K : PySem.W.Frag) : List V → Hp → VK → Prop := fun vs H Q => ∃ (a : Addr) (ns : List Int) (m : Int), vs = [V.ref a] ∧ SqT K H a (ns.map V.int) ∧ mMax ns = some m ∧ Q (.int m) H
def rMinT (K : PySem.W.Frag) : List V → Hp → VK → Prop := fun vs H Q => ∃ (a : Addr) (ns : List Int) (m : Int), vs = [V.ref a] ∧ SqT K H a (ns.map V.int) ∧ mMin ns = some m ∧ Q (.int m) H
theorem cr_maxT {X : Cx} (hc : X.calm = true) (hu : X.A.units + 64 < cLine) : CallR X (.builtin "max") (rMaxT X.K) := by
  intro pins s σ H vs us Q I r h
  obtain ⟨a, ns, m, rfl, hs, hm, q⟩ := h
  obtain rfl := Vals.ref1 r
  obtain ⟨its, rv, hl, hz⟩ := I.tuple hs
  cases ns with
  | nil => cases hm
  | cons n ns =>
    cases hm
    obtain ⟨as, hr⟩ := ints_reads (h := s.heap) rv
    refine PySem.W.max_tuple_data (x := .int n) (xs := ns.map PyData.int) (I.ok.hd hc) hl hr ⟨fun x hx y hy => ?_, fun x hx => ?_⟩ (by have := depth_ints (n :: ns); rw [List.map_cons] at this; omega) fun i v h' tk bs hv hr' k => ?_
    · obtain ⟨i, _, rfl⟩ := List.mem_map.mp (show x ∈ (n :: ns).map PyData.int from hx)
      obtain ⟨j, _, rfl⟩ := List.mem_map.mp (show y ∈ (n :: ns).map PyData.int from hy)
      rfl
    · obtain ⟨i, _, rfl⟩ := List.mem_map.mp (show x ∈ (n :: ns).map PyData.int from hx)
      intro z; cases z
    · rw [PySem.W.maxD_ints] at hr'
      cases hr'
      exact ⟨.int (ns.foldl max n), H, I.kept (t' := tk) k, ⟨_, rfl⟩, q⟩
theorem cr_minT {X : Cx} (hc : X.calm = true) (hu : X.A.units + 64 < cLine) : CallR X (.builtin "min") (rMinT X.K) := by
  intro pins s σ H vs us Q I r h
  obtain ⟨a, ns, m, rfl, hs, hm, q⟩ := h
  obtain rfl := Vals.ref1 r
  obtain ⟨its, rv, hl, hz⟩ := I.tuple hs
  cases ns with
  | nil => cases hm
  | cons n ns =>
    cases hm
    obtain ⟨as, hr⟩ := ints_reads (h := s.heap) rv
    refine PySem.W.min_tuple_data (x := .int n) (xs := ns.map PyData.int) (I.ok.hd hc) hl hr ⟨fun x hx y hy => ?_, fun x hx => ?_⟩ (by have := depth_ints (n :: ns); rw [List.map_cons] at this; omega) fun i v h' tk bs hv hr' k => ?_
    · obtain ⟨i, _, rfl⟩ := List.mem_map.mp (show x ∈ (n :: ns).map PyData.int from hx)
      obtain ⟨j, _, rfl⟩ := List.mem_map.mp (show y ∈ (n :: ns).map PyData.int from hy)
      rfl
    · obtain ⟨i, _, rfl⟩ := List.mem_map.mp (show x ∈ (n :: ns).map PyData.int from hx)
      intro z; cases z
    · rw [PySem.W.minD_ints] at hr'
      cases hr'
      exact ⟨.int (ns.foldl min n), H, I.kept (t' := tk) k, ⟨_, rfl⟩, q⟩
end L2
namespace TP
open PySem PySem.Spec PyProof.Rows L2
section
variable {α β γ δ ι : Type} {te ta tb tc : TE} {Γ : TP.Env} {T : Ty α} {U : Ty β} {W : Ty γ} {K : PySem.W.Frag}
def mLen (p : List α × Unit) : Option Int := some (p.1.length : Int)
theorem one_arg {A : Ty α} {G : Hp} {vs : List V} {p : α × Unit} (h : (aC A aN).rp G vs p) : ∃ v, vs = [v] ∧ A.rp G v p.1 := by
  obtain ⟨v, r, rfl, h1, h2⟩ := h
  cases h2
  exact ⟨v, rfl, h1⟩
theorem two_arg {A : Ty α} {B : Ty β} {G : Hp} {vs : List V} {p : α × β × Unit} (h : (aC A (aC B aN)).rp G vs p) : ∃ v w, vs = [v, w] ∧ A.rp G v p.1 ∧ B.rp G w p.2.1 := by
  obtain ⟨v, r, rfl, h1, h2⟩ := h
  obtain ⟨w, rfl, h3⟩ := one_arg h2
  exact ⟨v, w, rfl, h1, h3⟩
def rLenQ (K : PySem.W.Frag) : List V → Hp → VK → Prop := fun xs H Q => ∃ p ys, xs = [.ref p] ∧ (SqL K H p ys ∨ SqT K H p ys) ∧ Q (.int ys.length) H
theorem cv_lenL : CallV (rLenQ K) (aC (tyL T) aN) tyI mLen := fun p z e G H vs eG r Q q => by
  cases e
  obtain ⟨v, rfl, a, ws, rfl, ha, rr⟩ := one_arg r
  exact ⟨a, ws, rfl, .inl (SqL.of (eG _ _ ha)), by rw [rr.len]; exact q _ G H (Stp.refl eG) rfl⟩
theorem cv_lenLs : CallV (rLenQ K) (aC (tyLs K T) aN) tyI mLen := fun p z e G H vs eG r Q q => by
  cases e
  obtain ⟨v, rfl, a, ws, rfl, ha, rr⟩ := one_arg r
  exact ⟨a, ws, rfl, .inl (SqL.mono eG ha), by rw [rr.len]; exact q _ G H (Stp.refl eG) rfl⟩
theorem cv_lenU : CallV (rLenQ K) (aC (tyU K T) aN) tyI mLen := fun p z e G H vs eG r Q q => by
  cases e
  obtain ⟨v, rfl, a, ws, rfl, ha, rr⟩ := one_arg r
  exact ⟨a, ws, rfl, .inr (SqT.mono eG ha), by rw [rr.len]; exact q _ G H (Stp.refl eG) rfl⟩
def mId (p : α × Unit) : Option α := some p.1
def rListQ (K : PySem.W.Frag) : List V → Hp → VK → Prop := fun xs H Q => ∃ p ys, xs = [.ref p] ∧ (SqL K H p ys ∨ SqT K H p ys) ∧ ∀ l, H l = none → Q (.ref l) (upd H l (.lst ys))
theorem cn_listL : CallN (rListQ K) (aC (tyL T) aN) T mId := fun p z e G H vs eG r Q q => by
  cases e
  obtain ⟨v, rfl, a, ws, rfl, ha, rr⟩ := one_arg r
  exact ⟨a, ws, rfl, .inl (SqL.of (eG _ _ ha)), fun l hl => q l ws G _ (Stp.priv eG hl) hl (eG.non hl) upd_same rr⟩
theorem cn_listU : CallN (rListQ K) (aC (tyU K T) aN) T mId := fun p z e G H vs eG r Q q => by
  cases e
  obtain ⟨v, rfl, a, ws, rfl, ha, rr⟩ := one_arg r
  exact ⟨a, ws, rfl, .inr (SqT.mono eG ha), fun l hl => q l ws G _ (Stp.priv eG hl) hl (eG.non hl) upd_same rr⟩
def rTupleQ (K : PySem.W.Frag) : List V → Hp → VK → Prop := fun xs H Q => ∃ p ys, xs = [.ref p] ∧ ((SqL K H p ys ∧ ∀ l, H l = none → Q (.ref l) (upd H l (.tup ys))) ∨ (SqT K H p ys ∧ Q (.ref p) H))
theorem cv_tupleL : CallV (rTupleQ K) (aC (tyL T) aN) (tyU K T) mId := fun p z e G H vs eG r Q q => by
  cases e
  obtain ⟨v, rfl, a, ws, rfl, ha, rr⟩ := one_arg r
  exact ⟨a, ws, rfl, .inl ⟨SqL.of (eG _ _ ha), fun l hl => by
    have s := Stp.new (o := .tup ws) eG hl
    exact q _ _ _ s ⟨l, ws, rfl, SqT.of upd_same, rr.mono fun _ _ z => T.mono s.g z⟩⟩⟩
theorem cv_tupleU : CallV (rTupleQ K) (aC (tyU K T) aN) (tyU K T) mId := fun p z e G H vs eG r Q q => by
  cases e
  obtain ⟨v, rfl, a, ws, rfl, ha, rr⟩ := one_arg r
  exact ⟨a, ws, rfl, .inr ⟨SqT.mono eG ha, q _ G H (Stp.refl eG) ⟨a, ws, rfl, ha, rr⟩⟩⟩
def rIntQ : List V → Hp → VK → Prop := fun xs H Q => (∃ i, xs = [.int i] ∧ Q (.int i) H) ∨ ∃ k, xs = [.bl k] ∧ Q (.int (if k then 1 else 0)) H
theorem cv_intI : CallV rIntQ (aC tyI aN) tyI mId := fun p z e G H vs eG r Q q => by
  cases e
  obtain ⟨v, rfl, h⟩ := one_arg r
  cases h
  exact .inl ⟨_, rfl, q _ G H (Stp.refl eG) rfl⟩
def mIntB (p : Bool × Unit) : Option Int := some (if p.1 then 1 else 0)
theorem cv_intB : CallV rIntQ (aC tyB aN) tyI mIntB := fun p z e G H vs eG r Q q => by
  cases e
  obtain ⟨v, rfl, h⟩ := one_arg r
  cases h
  exact .inr ⟨_, rfl, q _ G H (Stp.refl eG) rfl⟩
def mMax2 (p : Int × Int × Unit) : Option Int := some (if p.2.1 > p.1 then p.2.1 else p.1)
def mMin2 (p : Int × Int × Unit) : Option Int := some (if p.2.1 < p.1 then p.2.1 else p.1)
theorem cv_max2 : CallV (fun xs H Q => ∃ i j, xs = [V.int i, V.int j] ∧ Q (V.int (if j > i then j else i)) H) (aC tyI (aC tyI aN)) tyI mMax2 := fun p z e G H vs eG r Q q => by
  cases e
  obtain ⟨v, w, rfl, h1, h2⟩ := two_arg r
  cases h1; cases h2
  exact ⟨_, _, rfl, q _ G H (Stp.refl eG) rfl⟩
theorem cv_min2 : CallV (fun xs H Q => ∃ i j, xs = [V.int i, V.int j] ∧ Q (V.int (if j < i then j else i)) H) (aC tyI (aC tyI aN)) tyI mMin2 := fun p z e G H vs eG r Q q => by
  cases e
  obtain ⟨v, w, rfl, h1, h2⟩ := two_arg r
  cases h1; cases h2
  exact ⟨_, _, rfl, q _ G H (Stp.refl eG) rfl⟩
theorem foldl_max_mem : ∀ (xs : List Int) (x : Int), xs.foldl max x ∈ x :: xs
  | [], x => List.mem_cons_self
  | y :: xs, x => by
    have := foldl_max_mem xs (max x y)
    rw [List.foldl_cons]
    rcases List.mem_cons.mp this with e | h
    · rw [e]
      rcases Int.le_total x y with q | q
      · rw [Int.max_eq_right q]; simp
      · rw [Int.max_eq_left q]; simp
    · exact List.mem_cons_of_mem _ (List.mem_cons_of_mem _ h)
theorem foldl_max_ge : ∀ (xs : List Int) (x y : Int), y ∈ x :: xs → y ≤ xs.foldl max x
  | [], x, y, h => by
    have : y = x := by simpa using h
    rw [this]; exact Int.le_refl _
  | z :: xs, x, y, h => by
    rw [List.foldl_cons]
    have k := fun w hw => foldl_max_ge xs (max x z) w hw
    rcases List.mem_cons.mp h with e | h
    · rw [e]; exact Int.le_trans (Int.le_max_left x z) (k _ List.mem_cons_self)
    · rcases List.mem_cons.mp h with e | h
      · rw [e]; exact Int.le_trans (Int.le_max_right x z) (k _ List.mem_cons_self)
      · exact k _ (List.mem_cons_of_mem _ h)
theorem foldl_min_mem : ∀ (xs : List Int) (x : Int), xs.foldl min x ∈ x :: xs
  | [], x => List.mem_cons_self
  | y :: xs, x => by
    have := foldl_min_mem xs (min x y)
    rw [List.foldl_cons]
    rcases List.mem_cons.mp this with e | h
    · rw [e]
      rcases Int.le_total x y with q | q
      · rw [Int.min_eq_left q]; simp
      · rw [Int.min_eq_right q]; simp
    · exact List.mem_cons_of_mem _ (List.mem_cons_of_mem _ h)
theorem foldl_min_le : ∀ (xs : List Int) (x y : Int), y ∈ x :: xs → xs.foldl min x ≤ y
  | [], x, y, h => by
    have : y = x := by simpa using h
    rw [this]; exact Int.le_refl _
  | z :: xs, x, y, h => by
    rw [List.foldl_cons]
    have k := fun w hw => foldl_min_le xs (min x z) w hw
    rcases List.mem_cons.mp h with e | h
    · rw [e]; exact Int.le_trans (k _ List.mem_cons_self) (Int.min_le_left x z)
    · rcases List.mem_cons.mp h with e | h
      · rw [e]; exact Int.le_trans (k _ List.mem_cons_self) (Int.min_le_right x z)
      · exact k _ (List.mem_cons_of_mem _ h)
def mMaxL (p : List Int × Unit) : Option Int := L2.mMax p.1
def mMinL (p : List Int × Unit) : Option Int := L2.mMin p.1
theorem cv_maxL : CallV (rMax K) (aC (tyL tyI) aN) tyI mMaxL := fun p z e G H vs eG r Q q => by
  obtain ⟨v, rfl, a, ws, rfl, ha, rr⟩ := one_arg r
  obtain ⟨ns, u⟩ := p
  cases ns with
  | nil => cases e
  | cons n ns =>
    cases e
    rw [L2.all2_ints rr] at ha
    refine ⟨a, n :: ns, rfl, SqL.of (eG _ _ ha), by simp, fun m hm hle => ?_⟩
    have em : m = ns.foldl max n := Int.le_antisymm (foldl_max_ge ns n m hm) (hle _ (foldl_max_mem ns n))
    rw [em]
    exact q _ G H (Stp.refl eG) rfl
theorem cv_minL : CallV (rMin K) (aC (tyL tyI) aN) tyI mMinL := fun p z e G H vs eG r Q q => by
  obtain ⟨v, rfl, a, ws, rfl, ha, rr⟩ := one_arg r
  obtain ⟨ns, u⟩ := p
  cases ns with
  | nil => cases e
  | cons n ns =>
    cases e
    rw [L2.all2_ints rr] at ha
    refine ⟨a, n :: ns, rfl, SqL.of (eG _ _ ha), by simp, fun m hm hle => ?_⟩
    have em : m = ns.foldl min n := Int.le_antisymm (hle _ (foldl_min_mem ns n)) (foldl_min_le ns n m hm)
    rw [em]
    exact q _ G H (Stp.refl eG) rfl
theorem cv_maxT : CallV (rMaxT K) (aC (tyU K tyI) aN) tyI mMaxL := fun p z e G H vs eG r Q q => by
  obtain ⟨v, rfl, a, ws, rfl, ha, rr⟩ := one_arg r
  rw [L2.all2_ints rr] at ha
  exact ⟨a, p.1, z, rfl, SqT.mono eG ha, e, q _ G H (Stp.refl eG) rfl⟩
theorem cv_minT : CallV (rMinT K) (aC (tyU K tyI) aN) tyI mMinL := fun p z e G H vs eG r Q q => by
  obtain ⟨v, rfl, a, ws, rfl, ha, rr⟩ := one_arg r
  rw [L2.all2_ints rr] at ha
  exact ⟨a, p.1, z, rfl, SqT.mono eG ha, e, q _ G H (Stp.refl eG) rfl⟩
def mSum (p : List Int × Unit) : Option Int := some p.1.sum
theorem cv_sumL : CallV (rSum K) (aC (tyL tyI) aN) tyI mSum := fun p z e G H vs eG r Q q => by
  cases e
  obtain ⟨v, rfl, a, ws, rfl, ha, rr⟩ := one_arg r
  rw [L2.all2_ints rr] at ha
  exact ⟨a, p.1, rfl, SqL.of (eG _ _ ha), q _ G H (Stp.refl eG) rfl⟩
def mMaxD (xs : List Int) (d : Int) : Option Int := some (L2.maxDef xs d)
theorem ev_maxD {ta tk : TA} {mx : Option (List Int)} {md : Option Int} (h : EvA ta Γ (aC (tyL tyI) aN) (aPair mx (some ()))) (hk : EvA tk Γ (aC tyI aN) (aPair md (some ()))) : Ev (tCKw (rMaxDef K) ta tk) Γ tyI (c2 mMaxD mx md) := fun z e H0 G H σ S Q q => by
  obtain ⟨xs, d, e1, e2, e⟩ := c2_inv e
  cases e
  subst e1; subst e2
  refine h (xs, ()) rfl H0 G H σ S _ fun vs G1 H1 s1 r1 => ?_
  refine hk (d, ()) rfl H0 G1 H1 σ (S.step s1) _ fun zs G2 H2 s2 r2 => ?_
  obtain ⟨v, rfl, a, ws, rfl, ha, rr⟩ := one_arg r1
  obtain ⟨w, rfl, hw⟩ := one_arg r2
  cases hw
  rw [L2.all2_ints rr] at ha
  exact ⟨a, xs, d, rfl, rfl, SqL.of ((s1.trans s2).m _ _ (s2.g _ _ ha)), q _ G2 H2 (s1.trans s2) rfl⟩
def ins (x : Int) : List Int → List Int
  | [] => [x]
  | y :: ys => if x ≤ y then x :: y :: ys else y :: ins x ys
def isort : List Int → List Int
  | [] => []
  | x :: xs => ins x (isort xs)
theorem ins_perm (x : Int) : ∀ ys, (ins x ys).Perm (x :: ys)
  | [] => .refl _
  | y :: ys => by
    unfold ins
    split
    · exact .refl _
    · exact ((ins_perm x ys).cons y).trans (.swap x y ys)
theorem isort_perm : ∀ xs, (isort xs).Perm xs
  | [] => .refl _
  | x :: xs => (ins_perm x _).trans ((isort_perm xs).cons x)
theorem ins_up (x : Int) : ∀ {ys : List Int}, ys.Pairwise (· ≤ ·) → (ins x ys).Pairwise (· ≤ ·)
  | [], _ => by simp [ins]
  | y :: ys, h => by
    obtain ⟨h1, h2⟩ := List.pairwise_cons.mp h
    unfold ins
    split
    · rename_i c
      exact List.pairwise_cons.mpr ⟨fun z hz => by
        rcases List.mem_cons.mp hz with e | hz
        · rw [e]; exact c
        · exact Int.le_trans c (h1 z hz), h⟩
    · rename_i c
      refine List.pairwise_cons.mpr ⟨fun z hz => ?_, ins_up x h2⟩
      rcases List.mem_cons.mp ((ins_perm x ys).mem_iff.mp hz) with e | hz
      · rw [e]; omega
      · exact h1 z hz
theorem isort_up : ∀ xs : List Int, (isort xs).Pairwise (· ≤ ·)
  | [] => .nil
  | x :: xs => ins_up x (isort_up xs)
theorem sorted_eq {xs ys : List Int} (p : xs.Perm ys) (hx : xs.Pairwise (· ≤ ·)) (hy : ys.Pairwise (· ≤ ·)) : xs = ys :=
  List.Perm.eq_of_pairwise (fun a b _ _ h1 h2 => Int.le_antisymm h1 h2) hx hy p
def mSortI (p : List Int × Unit) : Option (List Int) := some (isort p.1)
theorem cn_sortedL : CallN (rSortedI K) (aC (tyL tyI) aN) tyI mSortI := fun p z e G H vs eG r Q q => by
  cases e
  obtain ⟨v, rfl, a, ws, rfl, ha, rr⟩ := one_arg r
  rw [L2.all2_ints rr] at ha
  refine ⟨a, p.1, rfl, SqL.of (eG _ _ ha), fun ns' l hp hu hl => ?_⟩
  have en : ns' = isort p.1 := sorted_eq (hp.trans (isort_perm _).symm) hu (isort_up _)
  subst en
  exact q l _ G _ (Stp.priv eG hl) hl (eG.non hl) upd_same L2.ints_all2
theorem cn_sortedT : CallN (rSortedIT K) (aC (tyU K tyI) aN) tyI mSortI := fun p z e G H vs eG r Q q => by
  cases e
  obtain ⟨v, rfl, a, ws, rfl, ha, rr⟩ := one_arg r
  rw [L2.all2_ints rr] at ha
  refine ⟨a, p.1, rfl, SqT.mono eG ha, fun ns' l hp hu hl => ?_⟩
  have en : ns' = isort p.1 := sorted_eq (hp.trans (isort_perm _).symm) hu (isort_up _)
  subst en
  exact q l _ G _ (Stp.priv eG hl) hl (eG.non hl) upd_same L2.ints_all2
def lexI : List Int → List Int → Bool
  | [], _ => true
  | _ :: _, [] => false
  | x :: xs, y :: ys => if x < y then true else if x = y then lexI xs ys else false
theorem lexI_le : ∀ xs ys : List Int, lexI xs ys = decide (xs ≤ ys)
  | [], ys => by simp [lexI]
  | x :: xs, [] => by simp [lexI]
  | x :: xs, y :: ys => by
    unfold lexI
    rw [lexI_le xs ys]
    by_cases h : x < y
    · rw [if_pos h]
      exact (decide_eq_true (List.cons_le_cons_iff.mpr (.inl h))).symm
    · rw [if_neg h]
      by_cases e : x = y
      · rw [if_pos e]
        subst e
        by_cases q : xs ≤ ys
        · rw [decide_eq_true q, decide_eq_true (List.cons_le_cons_iff.mpr (.inr ⟨rfl, q⟩))]
        · rw [decide_eq_false q]
          exact (decide_eq_false fun z => by
            rcases List.cons_le_cons_iff.mp z with z | ⟨_, z⟩
            · exact h z
            · exact q z).symm
      · rw [if_neg e]
        exact (decide_eq_false fun z => by
          rcases List.cons_le_cons_iff.mp z with z | ⟨z, _⟩
          · exact h z
          · exact e z).symm
def insU (x : List Int) : List (List Int) → List (List Int)
  | [] => [x]
  | y :: ys => if lexI x y = true then x :: y :: ys else y :: insU x ys
def isortU : List (List Int) → List (List Int)
  | [] => []
  | x :: xs => insU x (isortU xs)
theorem insU_perm (x : List Int) : ∀ ys, (insU x ys).Perm (x :: ys)
  | [] => .refl _
  | y :: ys => by
    unfold insU
    split
    · exact .refl _
    · exact ((insU_perm x ys).cons y).trans (.swap x y ys)
theorem isortU_perm : ∀ xs, (isortU xs).Perm xs
  | [] => .refl _
  | x :: xs => (insU_perm x _).trans ((isortU_perm xs).cons x)
theorem insU_up (x : List Int) : ∀ {ys : List (List Int)}, ys.Pairwise (· ≤ ·) → (insU x ys).Pairwise (· ≤ ·)
  | [], _ => by simp [insU]
  | y :: ys, h => by
    obtain ⟨h1, h2⟩ := List.pairwise_cons.mp h
    unfold insU
    split
    · rename_i c
      rw [lexI_le] at c
      have c := of_decide_eq_true c
      exact List.pairwise_cons.mpr ⟨fun z hz => by
        rcases List.mem_cons.mp hz with e | hz
        · rw [e]; exact c
        · exact List.le_trans c (h1 z hz), h⟩
    · rename_i c
      rw [lexI_le] at c
      have c : y ≤ x := (List.le_total y x).resolve_right fun z => c (decide_eq_true z)
      refine List.pairwise_cons.mpr ⟨fun z hz => ?_, insU_up x h2⟩
      rcases List.mem_cons.mp ((insU_perm x ys).mem_iff.mp hz) with e | hz
      · rw [e]; exact c
      · exact h1 z hz
theorem isortU_up : ∀ xs : List (List Int), (isortU xs).Pairwise (· ≤ ·)
  | [] => .nil
  | x :: xs => insU_up x (isortU_up xs)
theorem dataLe_U : PySem.W.dataLe false L2.encU = fun p q => decide (p ≤ q) := by
  funext p q
  show (!PySem.W.dataLt (.tuple (q.map .int)) (.tuple (p.map .int))) = _
  rw [PySem.W.dataLt_tuple]
  show (!PySem.W.rowLt (q.map .int) (p.map .int)) = _
  rw [PySem.W.dataLt_ints]
  by_cases h : q < p
  · have h' : ¬ p ≤ q := fun z => List.not_lt.mpr z h
    rw [decide_eq_true h, decide_eq_false h']; rfl
  · have h' : p ≤ q := List.not_lt.mp h
    rw [decide_eq_false h, decide_eq_true h']; rfl
theorem sortU_eq (l : List (List Int)) : l.mergeSort (PySem.W.dataLe false L2.encU) = isortU l := by
  rw [dataLe_U]
  have h1 : (l.mergeSort (fun p q => decide (p ≤ q))).Pairwise (· ≤ ·) := by
    have := List.pairwise_mergeSort (le := fun p q : List Int => decide (p ≤ q)) (fun a b c h k => decide_eq_true (List.le_trans (of_decide_eq_true h) (of_decide_eq_true k))) (fun a b => by
      rcases List.le_total a b with h | h
      · simp [h]
      · simp [h]) l
    exact this.imp fun h => of_decide_eq_true h
  exact List.Perm.eq_of_pairwise (fun a b _ _ h k => List.le_antisymm h k) h1 (isortU_up l) ((List.mergeSort_perm _ _).trans (isortU_perm l).symm)
def mSortU (p : List (List Int) × Unit) : Option (List (List Int)) := gd (p.1.all fun b => !b.isEmpty) (isortU p.1)
theorem cn_sortedU : CallN (rSortedU K) (aC (tyL (tyU K tyI)) aN) (tyU K tyI) mSortU := fun p z e G H vs eG r Q q => by
  obtain ⟨c, rfl⟩ := gd_inv e
  obtain ⟨v, rfl, a, ws, rfl, ha, rr⟩ := one_arg r
  refine ⟨a, ws, p.1, _, rfl, SqL.of (eG _ _ ha), rr.mono fun _ _ q => Ty.mono _ eG q, rr, fun b hb e => ?_, fun ys l hy hl => ?_⟩
  · have := List.all_eq_true.mp c b hb
    rw [e] at this; cases this
  · rw [sortU_eq] at hy
    exact q l ys G _ (Stp.priv eG hl) hl (eG.non hl) upd_same hy
end
end TP
set_option maxHeartbeats 1000000
namespace TP
open PySem PySem.Spec PyProof.Rows L2
section
variable {α β γ δ ι : Type} {te ta tb tc : TE} {Γ : TP.Env} {T : Ty α} {U : Ty β} {K : PySem.W.Frag}
theorem lay_ints : ∀ ns : List Int, PyData.canLayAll0 (ns.map PyData.int) = true
  | [] => by simp [PyData.canLayAll0]
  | n :: ns => by simp only [List.map_cons, PyData.canLayAll0, PyData.canLay0, lay_ints ns, Bool.and_self]
theorem shaped_U (ns : List Int) : SeqAt.shaped (L2.encU ns) = true := by
  have h1 : (L2.encU ns).canLay0 = true := by
    show PyData.canLay0 (.tuple _) = true
    simp only [PyData.canLay0]
    exact lay_ints ns
  have h2 : (L2.encU ns).depth ≤ 64 := by
    have := L2.depth_ints ns
    show PyData.depth (.tuple _) ≤ 64
    simp only [PyData.depth]
    omega
  exact Bool.and_eq_true_iff.mpr ⟨h1, decide_eq_true h2⟩
theorem eqv_ints : ∀ ns ms : List Int, PyData.eqvAll (ns.map .int) (ms.map .int) = decide (ns = ms)
  | [], [] => by simp [PyData.eqvAll]
  | [], _ :: _ => by simp [PyData.eqvAll]
  | _ :: _, [] => by simp [PyData.eqvAll]
  | n :: ns, m :: ms => by
    rw [List.map_cons, List.map_cons]
    show (PyData.eqv (.int n) (.int m) && PyData.eqvAll (ns.map .int) (ms.map .int)) = _
    rw [eqv_ints ns ms]
    by_cases h : n = m <;> by_cases h2 : ns = ms <;> simp [PyData.eqv, h, h2]
theorem opv_eqU : OpV (rEqD K) (tyU K tyI) (tyU K tyI) tyB mEq := fun x y z e G H v u eG rv ru Q q => by
  cases e
  refine ⟨L2.encU x, L2.encU y, L2.dp_tup (Ty.mono _ eG rv), L2.dp_tup (Ty.mono _ eG ru), shaped_U x, shaped_U y, q _ G H (Stp.refl eG) ?_⟩
  · show V.bl (PyData.eqvAll _ _) = V.bl _
    rw [eqv_ints]
theorem opv_neU : OpV (rNeD K) (tyU K tyI) (tyU K tyI) tyB mNe := fun x y z e G H v u eG rv ru Q q => by
  cases e
  refine ⟨L2.encU x, L2.encU y, L2.dp_tup (Ty.mono _ eG rv), L2.dp_tup (Ty.mono _ eG ru), shaped_U x, shaped_U y, q _ G H (Stp.refl eG) ?_⟩
  · show V.bl (!PyData.eqvAll _ _) = V.bl _
    rw [eqv_ints]
theorem flat_ints : ∀ ns : List Int, (ns.map V.int).all flatV = true
  | [] => rfl
  | n :: ns => by rw [List.map_cons, List.all_cons, flat_ints ns]; rfl
theorem in_ints (x : Int) : ∀ ns : List Int, inV (.int x) (ns.map V.int) = decide (x ∈ ns)
  | [] => by simp [inV]
  | n :: ns => by
    have ih := in_ints x ns
    unfold inV at ih ⊢
    rw [List.map_cons, List.any_cons, ih]
    show (n == x || decide (x ∈ ns)) = _
    by_cases h : x = n
    · subst h; simp
    · have : (n == x) = false := by simpa using fun e => h e.symm
      rw [this]; simp [h]
def mIn (x : Int) (xs : List Int) : Option Bool := some (decide (x ∈ xs))
def mNi (x : Int) (xs : List Int) : Option Bool := some (!decide (x ∈ xs))
theorem opv_inU : OpV (rIn K false) tyI (tyU K tyI) tyB mIn := fun x y z e G H v u eG rv ru Q q => by
  cases e; cases rv
  obtain ⟨a, ws, rfl, ha, rr⟩ := ru
  rw [L2.all2_ints rr] at ha
  refine ⟨a, _, rfl, .inr (SqT.mono eG ha), rfl, flat_ints y, q _ G H (Stp.refl eG) ?_⟩
  show V.bl (if false = true then _ else inV (.int x) (y.map V.int)) = V.bl _
  rw [if_neg Bool.false_ne_true, in_ints]
theorem opv_niU : OpV (rIn K true) tyI (tyU K tyI) tyB mNi := fun x y z e G H v u eG rv ru Q q => by
  cases e; cases rv
  obtain ⟨a, ws, rfl, ha, rr⟩ := ru
  rw [L2.all2_ints rr] at ha
  refine ⟨a, _, rfl, .inr (SqT.mono eG ha), rfl, flat_ints y, q _ G H (Stp.refl eG) ?_⟩
  show V.bl (if true = true then !inV (.int x) (y.map V.int) else _) = V.bl _
  rw [if_pos rfl, in_ints]
theorem opv_inL : OpV (rIn K false) tyI (tyL tyI) tyB mIn := fun x y z e G H v u eG rv ru Q q => by
  cases e; cases rv
  obtain ⟨a, ws, rfl, ha, rr⟩ := ru
  rw [L2.all2_ints rr] at ha
  refine ⟨a, _, rfl, .inl (SqL.of (eG _ _ ha)), rfl, flat_ints y, q _ G H (Stp.refl eG) ?_⟩
  show V.bl (if false = true then _ else inV (.int x) (y.map V.int)) = V.bl _
  rw [if_neg Bool.false_ne_true, in_ints]
theorem opv_niL : OpV (rIn K true) tyI (tyL tyI) tyB mNi := fun x y z e G H v u eG rv ru Q q => by
  cases e; cases rv
  obtain ⟨a, ws, rfl, ha, rr⟩ := ru
  rw [L2.all2_ints rr] at ha
  refine ⟨a, _, rfl, .inl (SqL.of (eG _ _ ha)), rfl, flat_ints y, q _ G H (Stp.refl eG) ?_⟩
  show V.bl (if true = true then !inV (.int x) (y.map V.int) else _) = V.bl _
  rw [if_pos rfl, in_ints]
def mCat (x y : List α) : Option (List α) := gd (decide (x.length + y.length ≤ lim)) (x ++ y)
theorem opv_catU : OpV (rCatA K) (tyU K T) (tyU K T) (tyU K T) mCat := fun x y z e G H v u eG rv ru Q q => by
  obtain ⟨c, rfl⟩ := gd_inv e
  have c := of_decide_eq_true c
  obtain ⟨a, ws, rfl, ha, rr⟩ := rv
  obtain ⟨b, us, rfl, hb, rs⟩ := ru
  refine ⟨a, b, ws, us, rfl, rfl, SqT.mono eG ha, SqT.mono eG hb, by rw [rr.len, rs.len]; exact lim_sz c, fun e => ?_, fun _ e => ?_, fun _ _ p hp => ?_⟩
  · subst e
    cases x with
    | nil => exact q _ G H (Stp.refl eG) ⟨b, us, rfl, hb, rs⟩
    | cons => exact rr.elim
  · subst e
    cases y with
    | nil => rw [List.append_nil] at q; exact q _ G H (Stp.refl eG) ⟨a, ws, rfl, ha, rr⟩
    | cons => exact rs.elim
  · have s := Stp.new (o := .tup (ws ++ us)) eG hp
    exact q _ _ _ s ⟨p, _, rfl, SqT.of upd_same, (rr.app rs).mono fun _ _ z => T.mono s.g z⟩
theorem opn_catL : OpN rCat (tyL T) (tyL T) T mCat := fun x y z e G H v u eG rv ru Q q => by
  obtain ⟨c, rfl⟩ := gd_inv e
  have c := of_decide_eq_true c
  obtain ⟨a, ws, rfl, ha, rr⟩ := rv
  obtain ⟨b, us, rfl, hb, rs⟩ := ru
  exact ⟨a, b, ws, us, rfl, rfl, eG _ _ ha, eG _ _ hb, by rw [rr.len, rs.len]; exact lim_sz c, fun p hp => q p _ G _ (Stp.priv eG hp) hp (eG.non hp) upd_same (rr.app rs)⟩
def mRep (x : List α) (k : Int) : Option (List α) := gd (gR k && decide (x.length * k.toNat ≤ lim)) (List.replicate k.toNat x).flatten
theorem all2_flat {R : V → α → Prop} {vs : List V} {xs : List α} (h : All2 R vs xs) : ∀ n : Nat, All2 R (List.replicate n vs).flatten (List.replicate n xs).flatten
  | 0 => trivial
  | n + 1 => by rw [List.replicate_succ, List.replicate_succ, List.flatten_cons, List.flatten_cons]; exact h.app (all2_flat h n)
theorem opn_rep : OpN rRep (tyL T) tyI T mRep := fun x y z e G H v u eG rv ru Q q => by
  obtain ⟨c, rfl⟩ := gd_inv e
  obtain ⟨c1, c2⟩ := Bool.and_eq_true_iff.mp c
  have c1 := gR_ok c1
  have c2 := of_decide_eq_true c2
  obtain ⟨a, ws, rfl, ha, rr⟩ := rv
  cases ru
  exact ⟨a, y, ws, rfl, rfl, eG _ _ ha, by omega, by omega, by rw [rr.len]; exact lim_sz c2, fun p hp => q p _ G _ (Stp.priv eG hp) hp (eG.non hp) upd_same (all2_flat rr _)⟩
def EvO (to : TO) (Γ : TP.Env) (m : Option (Option Int)) : Prop :=
  ∀ x, m = some x → ∀ H0 G H σ, Slots H0 G H σ Γ → ∀ Q : Option Int → Hp → Prop, (∀ G' H', Stp G H G' H' → Q x H') → to σ H Q
theorem evo_no : EvO tNoPart Γ (some none) := fun x e H0 G H σ S Q q => by cases e; exact q G H (Stp.refl S.m)
def mPart (m : Option Int) : Option (Option Int) := m.bind fun i => some (some i)
@[simp] theorem mPart_some (i : Int) : mPart (some i) = some (some i) := rfl
theorem evo_at {m : Option Int} (h : Ev te Γ tyI m) : EvO (tPart te) Γ (mPart m) := fun x e H0 G H σ S Q q => by
  obtain ⟨i, ea, e⟩ := bind_inv e
  cases e
  exact h i ea H0 G H σ S _ fun v G' H' s r => ⟨i, r, q G' H' s⟩
def cut (xs : List α) (lo hi : Option Int) : List α := (xs.drop (HT.sIx xs.length 0 lo)).take (HT.sIx xs.length xs.length hi - HT.sIx xs.length 0 lo)
def mCut (mx : Option (List α)) (ml mh : Option (Option Int)) : Option (List α) := mx.bind fun xs => ml.bind fun l => mh.bind fun h => some (cut xs l h)
@[simp] theorem mCut_some (xs : List α) (l h : Option Int) : mCut (some xs) (some l) (some h) = some (cut xs l h) := rfl
theorem cut_all2 {R : V → α → Prop} {vs : List V} {xs : List α} {lo hi : Option Int} (h : All2 R vs xs) : All2 R (cutV vs lo hi) (cut xs lo hi) := by
  unfold cutV cut
  rw [h.len]
  exact (h.drop _).take _
theorem evn_cut {tl th : TO} {mx : Option (List α)} {ml mh : Option (Option Int)} (h : Ev te Γ (tyL T) mx) (hl : EvO tl Γ ml) (hh : EvO th Γ mh) : EvN (tSl (rSlL K) te tl th) Γ T (mCut mx ml mh) := fun z e H0 G H σ S Q q => by
  obtain ⟨xs, e1, e⟩ := bind_inv e
  obtain ⟨l, e2, e⟩ := bind_inv e
  obtain ⟨r, e3, e⟩ := bind_inv e
  cases e
  refine h xs e1 H0 G H σ S _ fun v G1 H1 s1 r1 => ?_
  refine hl l e2 H0 G1 H1 σ (S.step s1) _ fun G2 H2 s2 => ?_
  refine hh r e3 H0 G2 H2 σ ((S.step s1).step s2) _ fun G3 H3 s3 => ?_
  obtain ⟨a, ws, rfl, ha, rr⟩ := r1
  have s23 := s2.trans s3
  refine ⟨a, ws, rfl, SqL.of (s23.m _ _ (s23.g _ _ ha)), fun p hp => ?_⟩
  exact q p _ G3 _ ((s1.trans s23).trans (Stp.priv s23.m hp)) ((s1.trans s23).h.non hp) (s23.m.non hp) upd_same ((cut_all2 rr).mono fun _ _ z => T.mono s23.g z)
theorem ev_cutU {tl th : TO} {mx : Option (List α)} {ml mh : Option (Option Int)} (h : Ev te Γ (tyU K T) mx) (hl : EvO tl Γ ml) (hh : EvO th Γ mh) : Ev (tSl (rSlA K) te tl th) Γ (tyU K T) (mCut mx ml mh) := fun z e H0 G H σ S Q q => by
  obtain ⟨xs, e1, e⟩ := bind_inv e
  obtain ⟨l, e2, e⟩ := bind_inv e
  obtain ⟨r, e3, e⟩ := bind_inv e
  cases e
  refine h xs e1 H0 G H σ S _ fun v G1 H1 s1 r1 => ?_
  refine hl l e2 H0 G1 H1 σ (S.step s1) _ fun G2 H2 s2 => ?_
  refine hh r e3 H0 G2 H2 σ ((S.step s1).step s2) _ fun G3 H3 s3 => ?_
  obtain ⟨a, ws, rfl, ha, rr⟩ := r1
  have s23 := s2.trans s3
  have ha3 : SqT K G3 a ws := SqT.mono s23.g ha
  refine ⟨a, ws, rfl, SqT.mono s23.m ha3, fun c => ?_, fun _ p hp => ?_⟩
  · have ec : cut xs l r = xs := by
      unfold cut
      rw [← rr.len, c.1, c.2]
      simp [rr.len]
    rw [ec] at q
    exact q _ G3 H3 (s1.trans s23) ⟨a, ws, rfl, ha3, rr.mono fun _ _ z => T.mono s23.g z⟩
  · have sn := Stp.new (o := .tup (cutV ws l r)) s23.m hp
    exact q _ _ _ ((s1.trans s23).trans sn) ⟨p, _, rfl, SqT.of upd_same, (cut_all2 rr).mono fun _ _ z => T.mono (s23.g.trans sn.g) z⟩
def tyC (n : String) : Ty Unit := ⟨fun _ v _ => v = .ty n, fun _ h => h⟩
def IsT (K : PySem.W.Frag) (T : Ty α) (t : String) : Prop := ∀ H v x, T.rp H v x → TyX K H v (.type t)
theorem ist_I : IsT K tyI "int" := fun _ _ _ r => by cases r; exact .base (.int _)
theorem ist_B : IsT K tyB "bool" := fun _ _ _ r => by cases r; exact .base (.bl _)
theorem ist_S : IsT K tyS "str" := fun _ _ _ r => by cases r; exact .base (.str _)
theorem ist_N : IsT K tyN "NoneType" := fun _ _ _ r => by cases r; exact .base .non
theorem ist_L : IsT K (tyL T) "list" := fun _ _ _ r => by obtain ⟨a, ws, rfl, ha, _⟩ := r; exact .base (.lst ha)
theorem ist_HL {A : ATy β} : IsT K (tyHL A) "list" := fun _ _ _ r => by obtain ⟨a, ws, rfl, ha, _⟩ := r; exact .base (.lst ha)
theorem isT_of {H : Hp} {a : Addr} {ws : List V} (ha : SqT K H a ws) : TyX K H (.ref a) (.type "tuple") := by
  rcases ha with (h | ⟨o, h⟩) | ⟨o, its, n, hk, hc, _⟩
  · exact .base (.tup h)
  · exact .fTuple h
  · exact .kTuple hk hc
theorem ist_U : IsT K (tyU K T) "tuple" := fun _ _ _ r => by obtain ⟨a, ws, rfl, ha, _⟩ := r; exact isT_of ha
theorem ist_H {A : ATy β} : IsT K (tyH K A) "tuple" := fun _ _ _ r => by obtain ⟨a, ws, rfl, ha, _⟩ := r; exact isT_of ha
def mCon (b : Bool) (_ : α) : Option Bool := some b
theorem cv_isi {t n : String} {b : Bool} (hT : IsT K T t) (hk : kitB t n = some b) : CallV (rIsi K) (aC T (aC (tyC n) aN)) tyB (mCon b) := fun p z e G H vs eG r Q q => by
  cases e
  obtain ⟨v, w, rfl, h1, h2⟩ := two_arg r
  cases h2
  exact ⟨v, .ty n, .type t, .type n, b, rfl, .ty n, hT H v _ (T.mono eG h1), kit_ty hk, q _ G H (Stp.refl eG) rfl⟩
theorem ev_ty {n : String} : Ev (tC (.ty n)) Γ (tyC n) (some ()) := ev_c fun _ => rfl
def enumL (k : Nat) : List α → List (Int × α × Unit)
  | [] => []
  | x :: xs => ((k : Int), x, ()) :: enumL (k + 1) xs
theorem enumL_get : ∀ (xs : List α) (k i : Nat) {y : Int × α × Unit}, (enumL k xs)[i]? = some y → ∃ x, xs[i]? = some x ∧ y = (((k + i : Nat) : Int), x, ())
  | [], k, i, y, h => by simp [enumL] at h
  | x :: xs, k, 0, y, h => by
    have e : ((k : Int), x, ()) = y := by simpa [enumL] using h
    exact ⟨x, rfl, by rw [← e]; simp⟩
  | x :: xs, k, i + 1, y, h => by
    obtain ⟨z, hz, e⟩ := enumL_get xs (k + 1) i (by simpa [enumL] using h)
    exact ⟨z, by simpa using hz, by rw [e]; congr 2; omega⟩
theorem enumL_len : ∀ (xs : List α) (k : Nat), (enumL k xs).length = xs.length
  | [], _ => rfl
  | _ :: xs, k => by show (enumL (k + 1) xs).length + 1 = xs.length + 1; rw [enumL_len xs]
def mEnum (p : List α × Unit) : Option (List (Int × α × Unit)) := some (enumL 0 p.1)
theorem evi_enumU {mp : Option (List α × Unit)} {ta : TA} (h : EvA ta Γ (aC (tyU K T) aN) mp) : EvI (iEnumT K ta) Γ (tyH K (aC tyI (aC T aN))) (mp.bind mEnum) := fun xs e H0 G H σ S R q => by
  obtain ⟨p, ea, e⟩ := bind_inv e
  cases e
  refine h p ea H0 G H σ S _ fun vs G1 H1 s1 r1 => ?_
  obtain ⟨v, rfl, a, ws, rfl, ha, rr⟩ := one_arg r1
  refine ⟨a, ws, rfl, SqT.mono s1.m ha, q _ G1 H1 s1 fun i G2 H2 e1 e2 => ⟨fun x ex => ?_, fun hi => ?_⟩⟩
  · obtain ⟨y, ey, rfl⟩ := enumL_get _ _ _ ex
    obtain ⟨w, ew, hw⟩ := rr.get ey
    have hs : SqT K H2 a ws := SqT.mono (e1.trans e2) ha
    refine ⟨⟨ws, w, hs, ew⟩, fun v H3 y' => ?_⟩
    obtain ⟨t, w', rfl, hn, rfl, hw'⟩ := y'
    have : w = w' := Option.some.inj (ew.symm.trans (hw' _ hs))
    subst this
    have sn := Stp.new (o := .tup [.int (i : Nat), w]) e2 hn
    refine ⟨_, sn, t, [.int (i : Nat), w], rfl, SqT.of upd_same, .int (i : Nat), [w], rfl, ?_, w, [], rfl, T.mono (e1.trans sn.g) hw, rfl⟩
    show V.int _ = V.int _
    congr 1
    omega
  · exact ⟨ws, SqT.mono (e1.trans e2) ha, by rw [rr.len, ← enumL_len p.1 0]; exact hi⟩
theorem evi_enumL {mp : Option (List α × Unit)} {ta : TA} (h : EvA ta Γ (aC (tyL T) aN) mp) : EvI (iEnum K ta) Γ (tyH K (aC tyI (aC T aN))) (mp.bind mEnum) := fun xs e H0 G H σ S R q => by
  obtain ⟨p, ea, e⟩ := bind_inv e
  cases e
  refine h p ea H0 G H σ S _ fun vs G1 H1 s1 r1 => ?_
  obtain ⟨v, rfl, a, ws, rfl, ha, rr⟩ := one_arg r1
  refine ⟨a, ws, rfl, SqL.of (s1.m _ _ ha), q _ G1 H1 s1 fun i G2 H2 e1 e2 => ⟨fun x ex => ?_, fun hi => ?_⟩⟩
  · obtain ⟨y, ey, rfl⟩ := enumL_get _ _ _ ex
    obtain ⟨w, ew, hw⟩ := rr.get ey
    have hs : SqL K H2 a ws := SqL.of (e2 _ _ (e1 _ _ ha))
    refine ⟨⟨ws, w, hs, ew⟩, fun v H3 y' => ?_⟩
    obtain ⟨t, w', rfl, hn, rfl, hw'⟩ := y'
    have : w = w' := Option.some.inj (ew.symm.trans (hw' _ hs))
    subst this
    have sn := Stp.new (o := .tup [.int (i : Nat), w]) e2 hn
    refine ⟨_, sn, t, [.int (i : Nat), w], rfl, SqT.of upd_same, .int (i : Nat), [w], rfl, ?_, w, [], rfl, T.mono (e1.trans sn.g) hw, rfl⟩
    show V.int _ = V.int _
    congr 1
    omega
  · exact ⟨ws, SqL.of (e2 _ _ (e1 _ _ ha)), by rw [rr.len, ← enumL_len p.1 0]; exact hi⟩
variable {env : β → TP.Env} {rest : TS} {W : Rt γ}
theorem own_at {i : Nat} {H0 G H : Hp} {σ : L2.St} {xs : List α} (S : Slots H0 G H σ Γ) (hi : Γ[i]? = some (.ow T xs)) : ∃ a vs, σ[i]? = some (some (.ref a)) ∧ H a = some (.lst vs) ∧ G a = none ∧ H0 a = none ∧ All2 (T.rp G) vs xs := by
  obtain ⟨o, eo, a, vs, e, h⟩ := S.at_ i _ hi
  subst e
  exact ⟨a, vs, eo, h⟩
theorem sd_freeze {i : Nat} {xs : List α} {m : Option (Fl γ β)} (hi : Γ[i]? = some (.ow T xs)) (h : Sd rest (Γ.set i (.pu (tyL T) xs)) W env m) : Sd rest Γ W env m := fun o e H0 G0 G H σ S s D k => by
  obtain ⟨p, vs, ep, hp, hg, h0, r, S'⟩ := S.lend hi
  exact h o e H0 G0 _ H σ S' (s.freeze h0 hg hp) D (k.mono (Ex.new hg))
def apF (f : Option (Fl γ β)) (c : Bool) : Option (Fl γ β) := if c then f else none
theorem sd_append {i : Nat} {xs : List α} {m : Option α} {f : α → Option (Fl γ β)} (hi : Γ[i]? = some (.ow T xs)) (h : Ev te Γ T m) (hr : ∀ x, Sd rest (Γ.set i (.ow T (xs ++ [x]))) W env (f x)) :
    Sd (tSeq (tDrop (tBM K "list" rAppend (tVar i) (tCons te tNil))) rest) Γ W env (m.bind fun x => if xs.length ≤ lim then f x else none) := fun o e H0 G0 G H σ S s D k => by
  obtain ⟨x, ea, e⟩ := bind_inv e
  by_cases c : xs.length ≤ lim
  case neg => rw [if_neg c] at e; cases e
  rw [if_pos c] at e
  obtain ⟨a, vs, ep, ha, hg, h0, r⟩ := own_at S hi
  refine ⟨.ref a, ep, .inl ⟨rfl, vs, SqL.of ha⟩, ?_⟩
  refine h x ea H0 G H σ S _ fun v G1 H1 s1 r1 => ?_
  have S1 := S.step s1
  have ha1 := s1.h _ _ ha
  have hg1 := s1.p a (ne_none_of ha) hg
  refine ⟨a, vs, v, rfl, rfl, ha1, by rw [r.len]; exact lim_lt c, ?_⟩
  exact hr x o e H0 G0 G1 _ σ (S1.turn hi ep hg1 h0 ((r.mono fun _ _ z => T.mono s1.g z).app (.one r1))) ((s.trans s1).turn h0 hg1) D (k.mono s1.g)
def mSet (xs : List α) (i : Int) (x : α) : Option (List α) := (ixN xs.length i).bind fun j => some (xs.set j x)
theorem sd_setItem {i : Nat} {xs : List α} {m : Option α} {mi : Option Int} {f : List α → Option (Fl γ β)} (hi : Γ[i]? = some (.ow T xs)) (h : Ev te Γ T m) (h2 : Ev ta Γ tyI mi) (hr : ∀ ys, Sd rest (Γ.set i (.ow T ys)) W env (f ys)) :
    Sd (tSeq (tAsg te (gSub (tVar i) ta rSetL)) rest) Γ W env (m.bind fun x => mi.bind fun k => (mSet xs k x).bind f) := fun o e H0 G0 G H σ S s D k => by
  obtain ⟨x, ea, e⟩ := bind_inv e
  obtain ⟨j, eb, e⟩ := bind_inv e
  obtain ⟨ys, ec, e⟩ := bind_inv e
  obtain ⟨n, ed, ee⟩ := bind_inv ec
  cases ee
  obtain ⟨a, vs, ep, ha, hg, h0, r⟩ := own_at S hi
  refine h x ea H0 G H σ S _ fun v G1 H1 s1 r1 => ?_
  refine ⟨.ref a, ep, ?_⟩
  refine h2 j eb H0 G1 H1 σ (S.step s1) _ fun w G2 H2 s2 r2 => ?_
  cases r2
  have s12 := s1.trans s2
  have ha1 := s12.h _ _ ha
  have hg1 := s12.p a (ne_none_of ha) hg
  refine ⟨a, vs, j, n, rfl, rfl, ha1, by rw [r.len]; exact ed, ?_⟩
  exact hr _ o e H0 G0 G2 _ σ ((S.step s12).turn hi ep hg1 h0 ((r.mono fun _ _ z => T.mono s12.g z).set n (T.mono s2.g r1))) ((s.trans s12).turn h0 hg1) D (k.mono s12.g)
def outF (m : Option (Fl γ δ)) : Option γ := m.bind fun x => match x with
  | .ret r => some r
  | .nx _ => none
@[simp] theorem outF_ret (r : γ) : outF (some (.ret r) : Option (Fl γ δ)) = some r := rfl
@[simp] theorem outF_none : outF (none : Option (Fl γ δ)) = none := rfl
@[simp] theorem outF_rtF (m : Option γ) : outF (rtF m : Option (Fl γ δ)) = m := by cases m <;> rfl
def ASl {β : Type} (A : ATy β) (sl : β → TP.Env) : Prop := ∀ G vs x, A.rp G vs x → (sl x).length = vs.length ∧ ∀ (i : Nat) (t : Slot), (sl x)[i]? = some t → t.isOw = false ∧ ∃ v, vs[i]? = some v ∧ ∀ H0 H, t.at H0 G H (some v)
theorem asl_nil : ASl aN (fun _ => []) := fun G vs x r => by cases r; exact ⟨rfl, fun i t h => by simp at h⟩
theorem asl_cons {A : ATy β} {sl : β → TP.Env} (h : ASl A sl) : ASl (aC T A) (fun p => .pu T p.1 :: sl p.2) := fun G vs x r => by
  obtain ⟨v, r, rfl, h1, h2⟩ := r
  obtain ⟨l1, l2⟩ := h G r x.2 h2
  refine ⟨by rw [List.length_cons, List.length_cons, l1], fun i t ht => ?_⟩
  cases i with
  | zero =>
    have e : Slot.pu T x.1 = t := by simpa using ht
    subst e
    exact ⟨rfl, v, rfl, fun H0 H => ⟨v, rfl, h1⟩⟩
  | succ i =>
    obtain ⟨o, v', e, q⟩ := l2 i t (by simpa using ht)
    exact ⟨o, v', by simpa using e, q⟩
theorem start_slots {A : ATy β} {sl : β → TP.Env} {N : List Str} {vs : List V} {x : β} {G H : Hp} (hs : ASl A sl) (r : A.rp G vs x) (eG : Ex G H) (hN : A.n ≤ N.length) : Slots H G H (L2.start N vs) (sl x ++ List.replicate (N.length - A.n) .no) := by
  obtain ⟨l1, l2⟩ := hs G vs x r
  have ln := A.len r
  have key : ∀ (i : Nat) (t : Slot), (sl x ++ List.replicate (N.length - A.n) .no)[i]? = some t → t.isOw = false ∧ ∃ o, (L2.start N vs)[i]? = some o ∧ t.at H G H o := fun i t ht => by
    unfold L2.start
    by_cases hi : i < (sl x).length
    · rw [List.getElem?_append_left hi] at ht
      obtain ⟨o, v, e, q⟩ := l2 i t ht
      exact ⟨o, some v, by rw [List.getElem?_append_left (by rw [List.length_map]; omega), List.getElem?_map, e]; rfl, q H H⟩
    · rw [List.getElem?_append_right (by omega)] at ht
      have hr : t = .no := by
        have := List.mem_of_getElem? ht
        exact (List.mem_replicate.mp this).2
      subst hr
      have hlt : i - (sl x).length < N.length - A.n := by
        have := (List.getElem?_eq_some_iff.mp ht).1
        simpa using this
      refine ⟨rfl, none, ?_, trivial⟩
      rw [List.getElem?_append_right (by rw [List.length_map]; omega), List.length_map, List.getElem?_replicate, if_pos (by omega)]
  refine ⟨eG, ?_, fun i t ht => (key i t ht).2, fun i j a t u ne hi hj ht hu _ _ => ?_⟩
  · unfold L2.start
    rw [List.length_append, List.length_append, List.length_map, List.length_replicate, List.length_replicate, l1, ln]
  · have := (key i t hi).1
    rw [this] at ht; cases ht
variable {P : Program} {w : World} {mg : Str → Option Value} {base : Heap}
theorem fn_ok {x qual : Str} {st : Stmt} {fa : Addr} {fd : FuncData} {N ps : List Str} {k : Nat} {A : ATy β} {T : Ty γ} {f : β → Option γ} {sl : β → TP.Env} (F : Fun K x qual st fa fd) (S : FnScope N ps (defScope st)) (hs : ASl A sl) (hn : A.n = ps.length) (hN : A.n ≤ N.length)
    (h : ∀ (cdv : Value) (Ar : Around) (outer : List PySem.Env) (s : Shared) (H : Hp) (E : XK), Room k (Ar.deeper (envOfC qual (defScope st) s.heap.objs.size fa cdv)) →
      ∃ t, PSs (cxOf CX0 P w K mg base N qual (defScope st) fa cdv Ar outer s H E).nox (defBody st) t ∧ ∀ p, ∃ m : Option (Fl γ Unit), f p = outF m ∧ Sd t (sl p ++ List.replicate (N.length - A.n) .no) (pureR T) (fun _ => []) m) :
    FnOk P w K mg base CX0 (k + 1) fa fd ps (spOf A T f) := by
  refine F.ok S (fun vs H Q E q => ?_) (fun cdv Ar outer s H vs Q E hr q => ?_)
  · obtain ⟨p, r, G, _, _, ra, _⟩ := q
    rw [A.len ra, hn]
  · obtain ⟨p, r, G, ef, eG, ra, q⟩ := q
    obtain ⟨t, d, m⟩ := h cdv Ar outer s H E hr
    refine ⟨t, d, ?_⟩
    obtain ⟨m, em, sd⟩ := m p
    rw [em] at ef
    obtain ⟨o, eo, e⟩ := bind_inv ef
    refine sd o eo H G G H _ (start_slots hs ra eG hN) (Stp.refl eG) _ ?_
    cases o with
    | ret r' => cases e; exact fun v G' H' s' rv => q v G' H' s' rv
    | nx b => cases e
def spOfN {β α : Type} (A : ATy β) (T : Ty α) (f : β → Option (List α)) : Sp := fun vs H Q _ => ∃ p r G, f p = some r ∧ Ex G H ∧ A.rp G vs p ∧ ∀ a ws G' H', Stp G H G' H' → H a = none → G' a = none → H' a = some (.lst ws) → All2 (T.rp G') ws r → Q (.ref a) H'
theorem evn_call {ta : TA} {A : ATy β} {T : Ty α} {f : β → Option (List α)} {mp : Option β} {E : XK} (h : EvA ta Γ A mp) : EvN (tCall (spOfN A T f) [] E ta) Γ T (mp.bind f) := fun z e H0 G H σ S Q q => by
  obtain ⟨x, ea, ef⟩ := bind_inv e
  refine h x ea H0 G H σ S _ fun vs G1 H1 s1 r1 => ⟨x, z, G1, ef, s1.m, by rw [List.append_nil]; exact r1, fun a ws G2 H2 s2 hn hg hp r2 => q a ws G2 H2 (s1.trans s2) (s1.h.non hn) hg hp r2⟩
theorem fn_okN {x qual : Str} {st : Stmt} {fa : Addr} {fd : FuncData} {N ps : List Str} {k : Nat} {A : ATy β} {T : Ty α} {f : β → Option (List α)} {sl : β → TP.Env} (F : Fun K x qual st fa fd) (S : FnScope N ps (defScope st)) (hs : ASl A sl) (hn : A.n = ps.length) (hN : A.n ≤ N.length)
    (h : ∀ (cdv : Value) (Ar : Around) (outer : List PySem.Env) (s : Shared) (H : Hp) (E : XK), Room k (Ar.deeper (envOfC qual (defScope st) s.heap.objs.size fa cdv)) →
      ∃ t, PSs (cxOf CX0 P w K mg base N qual (defScope st) fa cdv Ar outer s H E).nox (defBody st) t ∧ ∀ p, ∃ m : Option (Fl (List α) Unit), f p = outF m ∧ Sd t (sl p ++ List.replicate (N.length - A.n) .no) (newR T) (fun _ => []) m) :
    FnOk P w K mg base CX0 (k + 1) fa fd ps (spOfN A T f) := by
  refine F.ok S (fun vs H Q E q => ?_) (fun cdv Ar outer s H vs Q E hr q => ?_)
  · obtain ⟨p, r, G, _, _, ra, _⟩ := q
    rw [A.len ra, hn]
  · obtain ⟨p, r, G, ef, eG, ra, q⟩ := q
    obtain ⟨t, d, m⟩ := h cdv Ar outer s H E hr
    refine ⟨t, d, ?_⟩
    obtain ⟨m, em, sd⟩ := m p
    rw [em] at ef
    obtain ⟨o, eo, e⟩ := bind_inv ef
    refine sd o eo H G G H _ (start_slots hs ra eG hN) (Stp.refl eG) _ ?_
    cases o with
    | ret r' =>
      cases e
      intro v G' H' s' rv
      obtain ⟨p, ws, rfl, h0, hg, hp, rr⟩ := rv
      exact q p ws G' H' s' h0 hg hp rr
    | nx b => cases e
theorem ev_ixOw {i : Nat} {xs : List α} {T : Ty α} {mi : Option Int} (hi : Γ[i]? = some (.ow T xs)) (h : Ev te Γ tyI mi) : Ev (tOp (rIxL K) (tVar i) te) Γ T (mi.bind fun k => atI xs k) := fun z e H0 G H σ S Q q => by
  obtain ⟨k, ea, e⟩ := bind_inv e
  obtain ⟨a, vs, ep, ha, hg, h0, r⟩ := own_at S hi
  refine ⟨.ref a, ep, ?_⟩
  refine h k ea H0 G H σ S _ fun v G1 H1 s1 r1 => ?_
  cases r1
  obtain ⟨w, ew, rw'⟩ := atI_all2 r e
  exact ⟨a, vs, k, w, rfl, rfl, SqL.of (s1.h _ _ ha), ew, q w G1 H1 s1 (T.mono s1.g rw')⟩
theorem ev_lenOw {i : Nat} {xs : List α} {T : Ty α} (hi : Γ[i]? = some (.ow T xs)) : Ev (tCB (rLenQ K) (tCons (tVar i) tNil)) Γ tyI (some (xs.length : Int)) := fun z e H0 G H σ S Q q => by
  cases e
  obtain ⟨a, vs, ep, ha, hg, h0, r⟩ := own_at S hi
  exact ⟨.ref a, ep, a, vs, rfl, .inl (SqL.of ha), by rw [r.len]; exact q _ G H (Stp.refl S.m) rfl⟩
theorem sd_insert {i : Nat} {xs : List α} {T : Ty α} {m : Option α} {mi : Option Int} {f : List α → Option (Fl γ β)} (hi : Γ[i]? = some (.ow T xs)) (h2 : Ev ta Γ tyI mi) (h : Ev te Γ T m) (hr : ∀ ys, Sd rest (Γ.set i (.ow T ys)) W env (f ys)) :
    Sd (tSeq (tDrop (tBM K "list" (fun x vs H Q => ∃ (l : Addr) (xs : List V) (i : Int) (y : V), x = .ref l ∧ vs = [.int i, y] ∧ H l = some (.lst xs) ∧ xs.length < sizeLine ∧ 0 ≤ i ∧ i < 2 ^ 63 ∧
    Q .non (upd H l (.lst (xs.take i.toNat ++ [y] ++ xs.drop i.toNat)))) (tVar i) (tCons ta (tCons te tNil)))) rest) Γ W env (mi.bind fun k => m.bind fun x => if xs.length ≤ lim ∧ 0 ≤ k ∧ k ≤ lim then f (xs.take k.toNat ++ [x] ++ xs.drop k.toNat) else none) := fun o e H0 G0 G H σ S s D k => by
  obtain ⟨j, eb, e⟩ := bind_inv e
  obtain ⟨x, ea, e⟩ := bind_inv e
  by_cases c : xs.length ≤ lim ∧ 0 ≤ j ∧ j ≤ lim
  case neg => rw [if_neg c] at e; cases e
  rw [if_pos c] at e
  obtain ⟨a, vs, ep, ha, hg, h0, r⟩ := own_at S hi
  refine ⟨.ref a, ep, .inl ⟨rfl, vs, SqL.of ha⟩, ?_⟩
  refine h2 j eb H0 G H σ S _ fun w G1 H1 s1 r1 => ?_
  refine h x ea H0 G1 H1 σ (S.step s1) _ fun v G2 H2 s2 r2 => ?_
  cases r1
  have s12 := s1.trans s2
  have ha1 := s12.h _ _ ha
  have hg1 := s12.p a (ne_none_of ha) hg
  have r' := r.mono fun _ _ z => T.mono s12.g z
  have hj : j < 2 ^ 63 := Int.lt_of_le_of_lt c.2.2 (by decide)
  refine ⟨a, vs, j, v, rfl, rfl, ha1, by rw [r.len]; exact lim_lt c.1, c.2.1, hj, ?_⟩
  exact hr _ o e H0 G0 G2 _ σ ((S.step s12).turn hi ep hg1 h0 (((r'.take _).app (.one r2)).app (r'.drop _))) ((s.trans s12).turn h0 hg1) D (k.mono s12.g)
end
end TP
set_option maxHeartbeats 1000000
namespace TP
open PySem PySem.Spec PyProof.Rows L2
section
variable {α β γ δ ι : Type} {te ta tb tc : TE} {Γ : TP.Env} {T : Ty α} {U : Ty β} {K : PySem.W.Frag}
structure FTy (β : Type) where
  rp : Hp → List (Str × V) → β → Prop
  mono : ∀ {H H' : Hp} {fs : List (Str × V)} {x : β}, Ex H H' → rp H fs x → rp H' fs x
def fN : FTy Unit := ⟨fun _ _ _ => True, fun _ h => h⟩
def fC {α β : Type} (n : Str) (T : Ty α) (F : FTy β) : FTy (α × β) :=
  ⟨fun H fs x => (∃ v, fs.lookup n = some v ∧ T.rp H v x.1) ∧ F.rp H fs x.2, fun e ⟨⟨v, h1, h2⟩, h3⟩ => ⟨⟨v, h1, T.mono e h2⟩, F.mono e h3⟩⟩
def tyO {β : Type} (C : Addr) (F : FTy β) : Ty β :=
  ⟨fun H v x => ∃ a dx fs, v = .ref a ∧ H a = some (.ins C dx fs) ∧ F.rp H fs x, fun e ⟨a, dx, fs, h1, h2, h3⟩ => ⟨a, dx, fs, h1, e _ _ h2, F.mono e h3⟩⟩
def Fld {β : Type} (F : FTy β) (f : Str) (T : Ty α) (g : β → α) : Prop := ∀ H fs x, F.rp H fs x → ∃ v, fs.lookup f = some v ∧ T.rp H v (g x)
theorem fld0 {n : Str} {F : FTy β} : Fld (fC n T F) n T (fun x => x.1) := fun H fs x h => h.1
theorem fldS {n f : Str} {W : Ty γ} {F : FTy β} {g : β → γ} (h : Fld F f W g) : Fld (fC n T F) f W (fun x => g x.2) := fun H fs x q => h H fs x.2 q.2
theorem ev_fld {C : Addr} {F : FTy β} {f : Str} {g : β → α} {m : Option β} (hc : Cls K C) (hn : NoAttr K C f) (hf : Fld F f T g) (h : Ev ta Γ (tyO C F) m) : Ev (tFld K ta f) Γ T (m.bind fun x => some (g x)) := fun z e H0 G H σ S Q q => by
  obtain ⟨x, ea, e⟩ := bind_inv e
  cases e
  refine h x ea H0 G H σ S _ fun v G1 H1 s1 r1 => ?_
  obtain ⟨a, dx, fs, rfl, ha, r⟩ := r1
  obtain ⟨w, ew, rw'⟩ := hf _ _ _ r
  exact ⟨a, C, dx, fs, w, rfl, s1.m _ _ ha, hc, hn, ew, q w G1 H1 s1 rw'⟩
theorem ev_prop {C : Addr} {F : FTy β} {f : β × Unit → Option α} {m : Option β} {E : XK} (h : Ev ta Γ (tyO C F) m) : Ev (tProp C (spOf (aC (tyO C F) aN) T f) [] E ta) Γ T (m.bind fun x => f (x, ())) := fun z e H0 G H σ S Q q => by
  obtain ⟨x, ea, e⟩ := bind_inv e
  refine h x ea H0 G H σ S _ fun v G1 H1 s1 r1 => ?_
  obtain ⟨a, dx, fs, rfl, ha, r⟩ := id r1
  exact ⟨a, dx, fs, rfl, s1.m _ _ ha, (x, ()), z, G1, e, s1.m, ⟨.ref a, [], rfl, r1, rfl⟩, fun w G2 H2 s2 r2 => q w G2 H2 (s1.trans s2) r2⟩
theorem ev_meth {C : Addr} {F : FTy β} {A : ATy γ} {mth : Str} {f : β × γ → Option α} {m : Option β} {t : TA} {mp : Option γ} {E : XK} (hnf : ∀ H fs x, F.rp H fs x → fs.lookup mth = none) (h : Ev ta Γ (tyO C F) m) (ha : EvA t Γ A mp) :
    Ev (tMeth C mth (spOf (aC (tyO C F) A) T f) [] E ta t) Γ T (m.bind fun x => mp.bind fun p => f (x, p)) := fun z e H0 G H σ S Q q => by
  obtain ⟨x, ea, e⟩ := bind_inv e
  obtain ⟨p, eb, e⟩ := bind_inv e
  refine h x ea H0 G H σ S _ fun v G1 H1 s1 r1 => ?_
  obtain ⟨a, dx, fs, rfl, h1, r⟩ := id r1
  refine ⟨a, dx, fs, rfl, s1.m _ _ h1, hnf _ _ _ r, ?_⟩
  refine ha p eb H0 G1 H1 σ (S.step s1) _ fun vs G2 H2 s2 r2 => ?_
  exact ⟨(x, p), z, G2, e, s2.m, ⟨.ref a, _, rfl, Ty.mono _ s2.g r1, by rw [List.append_nil]; exact r2⟩, fun w G3 H3 s3 r3 => q w G3 H3 ((s1.trans s2).trans s3) r3⟩
abbrev HouseM := List Int × Int × Int × Unit
def fHouse (K : PySem.W.Frag) : FTy HouseM := fC "limits" (tyU K tyI) (fC "channels" tyI (fC "wide_limit" tyI fN))
def tyHouse (K : PySem.W.Frag) (C : Addr) : Ty HouseM := tyO C (fHouse K)
def spHouse (K : PySem.W.Frag) (C : Addr) (keeps : HouseM → Option Bool) : Sp := fun vs H Q _ => ∃ (p dx : Addr) (lv : V) (x : HouseM) (G : Hp), vs = [.ref p, lv, .int x.2.1, .int x.2.2.1] ∧ H p = some (.ins C dx []) ∧ Ex G H ∧ G p = none ∧
  ((tyL tyI).rp G lv x.1 ∨ (tyU K tyI).rp G lv x.1) ∧ keeps x = some true ∧
  ∀ (G' H' : Hp) (fs : List (Str × V)), (∀ b o, b ≠ p → H b = some o → H' b = some o) → Ex G G' → Ex G' H' → G' p = none → (∀ a, H a ≠ none → G a = none → G' a = none) → H' p = some (.ins C dx fs) → (fHouse K).rp G' fs x → Q .non H'
def mkHouse (keeps : HouseM → Option Bool) (l : Option (List Int)) (c w : Option Int) : Option HouseM := l.bind fun l => c.bind fun c => w.bind fun w => (keeps (l, c, w, ())).bind fun b => gd b (l, c, w, ())
theorem ev_house {C : Addr} {keeps : HouseM → Option Bool} {t tk : TA} {E : XK} {l : Option (List Int)} {c w : Option Int} {TLi : Ty (List Int)} (hT : TLi = tyL tyI ∨ TLi = tyU K tyI)
    (ha : EvA t Γ (aC TLi aN) (aPair l (some ()))) (hk : EvA tk Γ (aC tyI (aC tyI aN)) (aPair c (aPair w (some ())))) :
    Ev (tMakeK C 1 2 (spHouse K C keeps) (fun vs zs => vs ++ zs) E t tk) Γ (tyHouse K C) (mkHouse keeps l c w) := fun z e H0 G H σ S Q q => by
  obtain ⟨l, e1, e⟩ := bind_inv e
  obtain ⟨c, e2, e⟩ := bind_inv e
  obtain ⟨w, e3, e⟩ := bind_inv e
  obtain ⟨b, e4, e⟩ := bind_inv e
  obtain ⟨hb, rfl⟩ := gd_inv e
  subst e1; subst e2; subst e3; subst hb
  refine ha (l, ()) rfl H0 G H σ S _ fun vs G1 H1 s1 r1 => ?_
  refine hk (c, w, ()) rfl H0 G1 H1 σ (S.step s1) _ fun zs G2 H2 s2 r2 => ?_
  obtain ⟨lv, rfl, hl⟩ := one_arg r1
  obtain ⟨v1, v2, rfl, h1, h2⟩ := two_arg r2
  cases h1; cases h2
  refine ⟨rfl, rfl, fun x dx nx ndx nex => ?_⟩
  have s12 := s1.trans s2
  have hl2 : TLi.rp G2 lv l := TLi.mono s2.g hl
  have xg : G2 x = none := s2.m.non nx
  have dg : G2 dx = none := s2.m.non ndx
  refine ⟨x, dx, lv, (l, c, w, ()), G2, rfl, upd_same, ?_, xg, ?_, e4, fun G' H' fs k eg em gx pr hx rf => ⟨rfl, ?_⟩⟩
  · exact (s2.m.right dg).right xg
  · rcases hT with rfl | rfl
    · exact .inl hl2
    · exact .inr hl2
  · have sx : Stp G2 H2 (upd G' x (.ins C dx fs)) H' := by
      refine ⟨fun a u ea => ?_, fun a u ea => ?_, fun a u ea => ?_, fun a ha hg => ?_⟩
      · rw [upd_ne (ne_of_none ea xg)]; exact eg _ _ ea
      · have n1 : a ≠ x := ne_of_none ea nx
        have n2 : a ≠ dx := ne_of_none ea ndx
        exact k a u n1 (by rw [upd_ne n1, upd_ne n2]; exact ea)
      · by_cases qx : a = x
        · subst qx; rw [upd_same] at ea; rw [hx]; exact ea
        · rw [upd_ne qx] at ea; exact em _ _ ea
      · have n1 : a ≠ x := fun z => ha (by rw [z]; exact nx)
        have n2 : a ≠ dx := fun z => ha (by rw [z]; exact ndx)
        rw [upd_ne n1]
        exact pr a (by rw [upd_ne n1, upd_ne n2]; exact ha) hg
    exact q _ _ _ (s12.trans sx) ⟨x, dx, fs, rfl, upd_same, FTy.mono _ (Ex.new gx) rf⟩
end
end TP
set_option maxHeartbeats 1000000
namespace TP
open PySem PySem.Spec PyProof.Rows L2
inductive Ft where
  | fa (f : He.Fa)
  | prop (C f : Str)
  | tup (x : Str) (vs : List He.Dv)
  | slf (C : Str)
  | oex (C : Str)
  | exk (C : Str)
  | kit (C D : Str) (b : Bool)
  | kitB (C : Str) (n : String) (b : Bool)
  | iso (C : Str)
  | tupA (p : PySem.W.Frag → Addr) (vs : List He.Dv)
def kwAt (f : PySem.W.Frag → Addr) (x : Str) (K : PySem.W.Frag) : Addr := match K.lookup (f K) with
  | some ⟨_, _, .func fd, _⟩ => (match fd.kwdefaults with
    | .ref D => (match PySem.W.nsIn K D x with
      | some (some (.ref a)) => a
      | _ => 0)
    | _ => 0)
  | _ => 0
def tupBA (K : PySem.W.Frag) (a : Addr) (vs : List He.Dv) : Bool := match K.lookup a with
  | some ⟨.type c, _, .seq its _, _⟩ => decide (c = "tuple") && (decide (its.size ≤ sizeLine) && He.relAll (vs.map (He.Dv.v K)) its.toList)
  | _ => false
theorem tupBA_ok {K : PySem.W.Frag} {a : Addr} {vs : List He.Dv} (h : tupBA K a vs = true) (H : Hp) : SqT K H a (vs.map (He.Dv.v K)) := by
  unfold tupBA at h
  cases q : K.lookup a with
  | none =>
    rw [q] at h
    cases h
  | some o =>
    obtain ⟨oc, od, dt, osl⟩ := o
    rw [q] at h
    cases oc with
    | type c =>
      cases dt with
      | seq its n =>
        obtain ⟨h1, h2⟩ := He.ba (show (decide (c = "tuple") && (decide (its.size ≤ sizeLine) && He.relAll (vs.map (He.Dv.v K)) its.toList)) = true from h)
        obtain ⟨h3, h4⟩ := He.ba h2
        exact .inr ⟨_, its, n, q, congrArg Value.type (of_decide_eq_true h1), rfl, of_decide_eq_true h3, He.relAll_ok h4⟩
      | _ => cases h
    | _ => cases dt <;> cases h
def maA (K : PySem.W.Frag) (C m : Str) : Addr := He.ma K (He.ga K C) m
def pgA (K : PySem.W.Frag) (C f : Str) : Addr := match PySem.W.recIn K (maA K C f) "property" with
  | some (.ref g :: _) => g
  | _ => 0
def isRec (o : Option (List Value)) : Bool := match o with
  | some (.ref _ :: _) => true
  | _ => false
def oexB (K : PySem.W.Frag) (a i : Addr) : Bool := (match K.lookup a with
  | some ⟨.type "type", _, .cls cd, sl⟩ => (match cd.mro, sl.toList with
    | .ref b :: bm, [_, _, _, _, some (.builtin n), _] => decide (b = a) && (decide (n = "ValueError.__new__") && (!cd.hasDel && (cd.hasDict && PySem.HandSPX.refsVE bm)))
    | _, _ => false)
  | _ => false) && (He.eqO (PySem.W.findIn K (.ref a) "__setattr__") (some (some (.builtin "object.__setattr__"))) && (decide (PySem.W.subIn K (.ref a) (.type "BaseException") = some true) && (decide (PySem.W.typeIn K (.ref a) = some (.type "type")) &&
    (PySem.W.keepIn K (.ref a) && (He.eqO (PySem.W.findIn K (.ref a) "__init__") (some (some (.ref i))) && decide (PySem.W.typeIn K (.ref i) = some (.type "function")))))))
def exkB (K : PySem.W.Frag) (a : Addr) : Bool := He.eqO (PySem.W.findIn K (.ref a) "__getattribute__") (some (some (.builtin "BaseException.__getattribute__"))) && (He.eqO (PySem.W.findIn K (.ref a) "__getattr__") (some none) &&
  (decide (PySem.W.subIn K (.ref a) (.type "BaseException") = some true) && (PySem.W.hasDictIn K a && (He.eqO (PySem.W.findIn K (.ref a) "__class__") (some (some (.builtin "object.__class__"))) &&
    (He.eqO (PySem.W.specialIn K (.builtin "object.__class__") "__get__") (some (some (.builtin "getset_descriptor.__get__"))) && (decide (PySem.W.takesIn K (.builtin "object.__class__") = some true) && decide (PySem.W.mroIn K a (.type "object") = some true)))))))
def isoB (K : PySem.W.Frag) (a : Addr) : Bool := He.eqO (PySem.W.findIn K (.ref a) "__class__") (some (some (.builtin "object.__class__"))) && (He.eqO (PySem.W.specialIn K (.builtin "object.__class__") "__get__") (some (some (.builtin "getset_descriptor.__get__"))) &&
  (decide (PySem.W.takesIn K (.builtin "object.__class__") = some true) && (decide (PySem.W.mroIn K a (.type "object") = some true) && decide (PySem.W.kitOne K (.ref a) (.ref a) = some true))))
def Ft.ok (K : PySem.W.Frag) : Ft → Bool
  | .iso C => isoB K (He.ga K C)
  | .oex C => oexB K (He.ga K C) (maA K C "__init__")
  | .exk C => exkB K (He.ga K C)
  | .kit C D b => decide (PySem.W.kitOne K (.ref (He.ga K C)) (.ref (He.ga K D)) = some b)
  | .kitB C n b => decide (PySem.W.kitOne K (.ref (He.ga K C)) (.type n) = some b)
  | .fa f => f.ok K
  | .tup x vs => He.tupB K x vs
  | .tupA p vs => tupBA K (p K) vs
  | .slf C => PySem.W.selfFirst K (He.ga K C)
  | .prop C f => He.eqO (PySem.W.findIn K (.ref (He.ga K C)) f) (some (some (.ref (maA K C f)))) && (He.eqO (PySem.W.specialIn K (.ref (maA K C f)) "__get__") (some (some (.builtin "property.__get__"))) &&
      (decide (PySem.W.takesIn K (.ref (maA K C f)) = some true) && isRec (PySem.W.recIn K (maA K C f) "property")))
theorem prop_ok {K : PySem.W.Frag} {C f : Str} (c : (Ft.prop C f).ok K = true) : PropOf K (He.ga K C) f (maA K C f) (pgA K C f) := by
  obtain ⟨h1, c⟩ := He.ba c
  obtain ⟨h2, c⟩ := He.ba c
  obtain ⟨h3, h4⟩ := He.ba c
  refine ⟨He.eqO_ok h1, He.eqO_ok h2, of_decide_eq_true h3, ?_⟩
  unfold pgA
  unfold isRec at h4
  split at h4
  · rename_i g rest e
    exact ⟨rest, by rw [e]⟩
  · cases h4
def obsP (ft : List Ft) (fn : List He5.DefA) (K : PySem.W.Frag) : He.AlD := ((ft.all fun f => f.ok K) && fn.all fun d => d.ok K, fn.map fun d => He5.fnA K (d.at_ K))
def valP (fn : List He5.DefA) : He.AlD := (true, fn.map He5.DefA.val)
def SaysP (ft : List Ft) (fn : List He5.DefA) (K : PySem.W.Frag) : Prop := obsP ft fn K = valP fn
def obsPG (n : Nat) (ft : List Ft) (fn : List He5.DefA) (g : Addr → Option Obj) : He.AlD := obsP ft fn (He.frG g (He.asD g n))
def hookP (n : Nat) (ft : List Ft) (fn : List He5.DefA) : PySem.W.Hook where
  α := He.AlD
  obs := fun s => obsPG n ft fn s.heap.get?
  val := fun _ => valP fn
  says := fun _ h => ∃ K : PySem.W.Frag, K.In h ∧ SaysP ft fn K
  of := fun _ _ e => ⟨_, He.frG_in, e⟩
  keeps := fun _ _ _ ⟨K, hK, c⟩ k => ⟨K, PySem.W.Frag.In.keeps hK k, c⟩
theorem obsPG_eq {n : Nat} {ft : List Ft} {fn : List He5.DefA} {g : Addr → Option Obj} {s : Shared} (h : ∀ a, g a = s.heap.get? a) : obsPG n ft fn g = (hookP n ft fn).obs s := by
  have e : g = s.heap.get? := funext h
  rw [e] <;> rfl
section
variable {ft : List Ft} {fn : List He5.DefA} {K : PySem.W.Frag} {mg : Str → Option Value}
theorem SaysP.fact (c : SaysP ft fn K) (i : Nat) {f : Ft} (h : ft[i]? = some f) : f.ok K = true := by
  have c1 := (He.ba (show ((ft.all fun f => f.ok K) && fn.all fun d => d.ok K) = true from congrArg (fun z : He.AlD => z.1) c)).1
  exact List.all_eq_true.mp c1 f (List.mem_of_getElem? h)
theorem SaysP.def_ (c : SaysP ft fn K) (i : Nat) {d : He5.DefA} (h : fn[i]? = some d) : ∃ fd, FunD K d.name d.qual d.params d.body d.scope (d.dvs K) (d.kws K) (d.at_ K) fd := by
  have c2 := (He.ba (show ((ft.all fun f => f.ok K) && fn.all fun d => d.ok K) = true from congrArg (fun z : He.AlD => z.1) c)).2
  have e : fn.map (fun d => He5.fnA K (d.at_ K)) = fn.map He5.DefA.val := congrArg (fun z : He.AlD => z.2) c
  have e2 : (fn.map fun d => He5.fnA K (d.at_ K))[i]? = (fn.map He5.DefA.val)[i]? := by rw [e]
  rw [List.getElem?_map, List.getElem?_map, h] at e2
  exact He5.DefA.funD (Option.some.inj e2) (List.all_eq_true.mp c2 d (List.mem_of_getElem? h))
structure Cn (ft : List Ft) (fn : List He5.DefA) (K : PySem.W.Frag) (mg : Str → Option Value) : Prop where
  says : SaysP ft fn K
  env : ∃ h : Heap, K.In h ∧ h.Ns mainGlobals mg
theorem Cn.glo (T : Cn ft fn K mg) (i : Nat) {x : Str} (h : ft[i]? = some (.fa (.glo x)) := by rfl) : mg x = some (.ref (He.ga K x)) := by
  obtain ⟨hp, X, G⟩ := T.env
  exact He.glo_ok X G (T.says.fact i h)
theorem Cn.free (T : Cn ft fn K mg) (i : Nat) {x : Str} (h : ft[i]? = some (.fa (.free x)) := by rfl) : mg x = none := by
  obtain ⟨hp, X, G⟩ := T.env
  exact He.free_ok X G (T.says.fact i h)
theorem Cn.int (T : Cn ft fn K mg) (n : Nat) {x : Str} {i : Int} (h : ft[n]? = some (.fa (.int x i)) := by rfl) : ∃ t, mg x = some (.int i t) := by
  obtain ⟨hp, X, G⟩ := T.env
  exact He.int_ok X G (T.says.fact n h)
theorem Cn.cls (T : Cn ft fn K mg) (i : Nat) {x : Str} (h : ft[i]? = some (.fa (.cls x)) := by rfl) : Cls K (He.ga K x) := He.cls_ok (T.says.fact i h)
theorem Cn.noat (T : Cn ft fn K mg) (i : Nat) {x f : Str} (h : ft[i]? = some (.fa (.noat x f)) := by rfl) : NoAttr K (He.ga K x) f := He.noat_ok (T.says.fact i h)
theorem Cn.meth (T : Cn ft fn K mg) (i : Nat) {x m : Str} (h : ft[i]? = some (.fa (.meth x m)) := by rfl) : Meth K (He.ga K x) m (maA K x m) := He.meth_ok (T.says.fact i h)
theorem Cn.mkr (T : Cn ft fn K mg) (i : Nat) {x : Str} (h : ft[i]? = some (.fa (.mkr x)) := by rfl) : Mk K (He.ga K x) (maA K x "__init__") := He.mkr_ok (T.says.fact i h)
theorem Cn.prop (T : Cn ft fn K mg) (i : Nat) {C f : Str} (h : ft[i]? = some (.prop C f) := by rfl) : PropOf K (He.ga K C) f (maA K C f) (pgA K C f) := prop_ok (T.says.fact i h)
theorem Cn.tup (T : Cn ft fn K mg) (i : Nat) {x : Str} {vs : List He.Dv} (h : ft[i]? = some (.tup x vs) := by rfl) (H : Hp) : SqT K H (He.ga K x) (vs.map (He.Dv.v K)) := He.tupB_ok (T.says.fact i h) H
theorem Cn.tupA (T : Cn ft fn K mg) (i : Nat) {p : PySem.W.Frag → Addr} {vs : List He.Dv} (h : ft[i]? = some (.tupA p vs) := by rfl) (H : Hp) : SqT K H (p K) (vs.map (He.Dv.v K)) := tupBA_ok (T.says.fact i h) H
theorem Cn.slf (T : Cn ft fn K mg) (i : Nat) {C : Str} (h : ft[i]? = some (.slf C) := by rfl) : PySem.W.selfFirst K (He.ga K C) = true := T.says.fact i h
theorem Cn.def_ (T : Cn ft fn K mg) (i : Nat) {d : He5.DefA} (h : fn[i]? = some d := by rfl) : ∃ fd, FunD K d.name d.qual d.params d.body d.scope (d.dvs K) (d.kws K) (d.at_ K) fd := T.says.def_ i h
end
def Lk (K : PySem.W.Frag) (f : Addr) (fd : FuncData) : Prop := ∃ oc od osl, K.lookup f = some ⟨oc, od, .func fd, osl⟩
theorem Lk.uniq {K : PySem.W.Frag} {f : Addr} {fd fd' : FuncData} (h : Lk K f fd) (h' : Lk K f fd') : fd = fd' := by
  obtain ⟨oc, od, osl, e⟩ := h
  obtain ⟨oc', od', osl', e'⟩ := h'
  rw [e] at e'
  cases e'
  rfl
theorem FunD.lk {K : PySem.W.Frag} {x qual : Str} {params : Arguments} {body : List Stmt} {scope : Scope} {dvs : List V} {kws : List (Str × V)} {f : Addr} {fd : FuncData} (F : FunD K x qual params body scope dvs kws f fd) : Lk K f fd := by
  obtain ⟨oc, od, dV, kV, doc, pm, an, cdv, ct, osl, e, l, _⟩ := F.ex
  exact ⟨oc, od, osl, l⟩
structure Ok (P : Program) (w : World) (K : PySem.W.Frag) (mg : Str → Option Value) (base : Heap) (k : Nat) (f : Addr) (ps : List Str) (sp : Sp) : Prop where
  ex : ∃ fd, FnOk P w K mg base CX0 k f fd ps sp ∧ Binds K fd ps [] ∧ Lk K f fd
  kp : PySem.W.keepIn K (.ref f) = true
section
variable {X : Cx} {k : Nat} {f C : Addr} {ps : List Str} {sp : Sp} {x : Str} {p pos apos : Pos} {e o : Expr} {es : List Expr} {t : TA} {ta : TE}
theorem pe_callF (F : Ok X.prog X.w X.K X.mg X.base k f ps sp) (hr : Room k X.A) (hg : Gl X x) (hm : X.mg x = some (.ref f)) (ha : PA X (e :: es) t) (hdb : (x == ("__debug__" : Str)) = false := by decide)
    (he : starEach (e :: es) X.env = (false, eval e X.env) :: starEach es X.env := by rfl) (hpl : (backTo pos (starEach es X.env)).any (·.1) = false := by rfl) : PE X (.Call (.Name x p) (e :: es) [] pos) (tCall sp [] E0 t) := by
  obtain ⟨fd, G, b, _⟩ := F.ex
  exact pe_call G hr hg hm F.kp b .nil pass0 ha hdb he hpl
theorem pe_propF {f' : Str} {g q : Addr} (he : PE X e ta) (c : Cls X.K C) (hp : PropOf X.K C f' q g) (F : Ok X.prog X.w X.K X.mg X.base k g ps sp) (hr : Room (k + 1) X.A) (hab : attributeBase e f' X.env (eval e X.env) = eval e X.env) : PE X (.Attribute e f' pos) (tProp C sp [] E0 ta) := by
  obtain ⟨fd, G, b, _⟩ := F.ex
  exact pe_prop he c hp G hr b .nil (fun _ _ _ _ _ _ _ h => h.elim) hab
theorem pe_methF {m : Str} {pl : Sem Bool} (he : PE X o ta) (c : Cls X.K C) (hm : Meth X.K C m f) (F : Ok X.prog X.w X.K X.mg X.base k f ps sp) (hr : Room k X.A) (ha : PA X (e :: es) t)
    (hst : starEach (e :: es) X.env = (false, eval e X.env) :: starEach es X.env := by rfl) (hpl : (backTo pos (starEach es X.env)).any (·.1) = false := by rfl)
    (ht : eval (.Call (.Attribute o m apos) (e :: es) [] pos) X.env = (do
      let ov ← eval o X.env
      standAt apos.atName
      let (f, first) ← holding [ov] (getMethod ov m pl)
      callWith pos f first (backTo pos (starEach (e :: es) X.env)) (backToKw pos (keywordEach [] X.env))) := by rfl) :
    PE X (.Call (.Attribute o m apos) (e :: es) [] pos) (tMeth C m sp [] E0 ta t) := by
  obtain ⟨fd, G, b, _⟩ := F.ex
  exact pe_meth he c hm G hr b .nil pass0 ha hst hpl ht
end
def NoL {α : Type} (T : Ty α) : Prop := ∀ (G : Hp) (p : Addr) (vs : List V) (v : V) (x : α), G p = none → T.rp (upd G p (.lst vs)) v x → T.rp G v x
def NoLA {β : Type} (A : ATy β) : Prop := ∀ (G : Hp) (p : Addr) (vs us : List V) (x : β), G p = none → A.rp (upd G p (.lst vs)) us x → A.rp G us x
section
variable {α β γ δ ι : Type} {te ta tb tc : TE} {Γ : TP.Env} {T : Ty α} {U : Ty β} {W : Ty γ} {K : PySem.W.Frag}
theorem nol_I : NoL tyI := fun _ _ _ _ _ _ h => h
theorem nol_B : NoL tyB := fun _ _ _ _ _ _ h => h
theorem nol_N : NoL tyN := fun _ _ _ _ _ _ h => h
theorem nol_S : NoL tyS := fun _ _ _ _ _ _ h => h
theorem sqt_nol {G : Hp} {p a : Addr} {vs us : List V} (h : SqT K (upd G p (.lst vs)) a us) : SqT K G a us := by
  rcases h with (h | ⟨o, h⟩) | h
  · by_cases q : a = p
    · subst q; rw [upd_same] at h; cases h
    · rw [upd_ne q] at h; exact .inl (.inl h)
  · by_cases q : a = p
    · subst q; rw [upd_same] at h; cases h
    · rw [upd_ne q] at h; exact .inl (.inr ⟨o, h⟩)
  · exact .inr h
theorem nol_U (h : NoL T) : NoL (tyU K T) := fun G p vs v x hg ⟨a, us, e, ha, r⟩ => ⟨a, us, e, sqt_nol ha, r.mono fun v x q => h G p vs v x hg q⟩
theorem nola_N : NoLA aN := fun _ _ _ _ _ _ h => h
theorem nola_C {A : ATy β} (h : NoL T) (hA : NoLA A) : NoLA (aC T A) := fun G p vs us x hg ⟨v, r, e, h1, h2⟩ => ⟨v, r, e, h G p vs v x.1 hg h1, hA G p vs r x.2 hg h2⟩
theorem nol_H {A : ATy β} (h : NoLA A) : NoL (tyH K A) := fun G p vs v x hg ⟨a, us, e, ha, r⟩ => ⟨a, us, e, sqt_nol ha, h G p vs us x hg r⟩
theorem ev_lend' {i : Nat} {xs : List β} {m : Option α} (hi : Γ[i]? = some (.ow U xs)) (hf : NoL T) (h : Ev te (Γ.set i (.pu (tyL U) xs)) T m) : Ev te Γ T m := fun z e H0 G H σ S Q q => by
  obtain ⟨p, vs, ep, hp, hg, h0, r, S'⟩ := S.lend hi
  refine h z e H0 _ H σ S' Q fun v G' H' s rv => ?_
  have gp : G' p = some (.lst vs) := s.g _ _ upd_same
  have eG : G' = upd (fun a => if a = p then none else G' a) p (.lst vs) := funext fun a => by
    by_cases c : a = p
    · subst c; rw [upd_same]; exact gp
    · rw [upd_ne c]; show _ = if a = p then none else G' a; rw [if_neg c]
  have nop : (fun a => if a = p then none else G' a) p = none := if_pos rfl
  refine q v (fun a => if a = p then none else G' a) H' ⟨fun a o ea => ?_, s.h, fun a o ea => ?_, fun a ha hga => ?_⟩ (hf _ p vs v z nop (by rw [← eG]; exact rv))
  · have c : a ≠ p := ne_of_none ea hg
    show (if a = p then none else G' a) = _
    rw [if_neg c]
    exact s.g _ _ (by rw [upd_ne c]; exact ea)
  · by_cases c : a = p
    · have ea' : (if a = p then none else G' a) = some o := ea
      rw [if_pos c] at ea'; cases ea'
    · have ea' : (if a = p then none else G' a) = some o := ea
      rw [if_neg c] at ea'
      exact s.m _ _ ea'
  · show (if a = p then none else G' a) = none
    by_cases c : a = p
    · rw [if_pos c]
    · rw [if_neg c]
      exact s.p a ha (by rw [upd_ne c]; exact hga)
theorem evn_lend' {i : Nat} {xs : List β} {m : Option (List α)} (hi : Γ[i]? = some (.ow U xs)) (hf : NoL T) (h : EvN te (Γ.set i (.pu (tyL U) xs)) T m) : EvN te Γ T m := fun z e H0 G H σ S Q q => by
  obtain ⟨p, vs, ep, hp, hg, h0, r, S'⟩ := S.lend hi
  refine h z e H0 _ H σ S' Q fun a ws G' H' s hn hga ha rv => ?_
  have gp : G' p = some (.lst vs) := s.g _ _ upd_same
  have eG : G' = upd (fun a => if a = p then none else G' a) p (.lst vs) := funext fun a => by
    by_cases c : a = p
    · subst c; rw [upd_same]; exact gp
    · rw [upd_ne c]; show _ = if a = p then none else G' a; rw [if_neg c]
  have nop : (fun a => if a = p then none else G' a) p = none := if_pos rfl
  refine q a ws (fun a => if a = p then none else G' a) H' ⟨fun a o ea => ?_, s.h, fun a o ea => ?_, fun a ha hga => ?_⟩ hn ?_ ha (rv.mono fun v x q => hf _ p vs v x nop (by rw [← eG]; exact q))
  · have c : a ≠ p := ne_of_none ea hg
    show (if a = p then none else G' a) = _
    rw [if_neg c]
    exact s.g _ _ (by rw [upd_ne c]; exact ea)
  · by_cases c : a = p
    · have ea' : (if a = p then none else G' a) = some o := ea
      rw [if_pos c] at ea'; cases ea'
    · have ea' : (if a = p then none else G' a) = some o := ea
      rw [if_neg c] at ea'
      exact s.m _ _ ea'
  · show (if a = p then none else G' a) = none
    by_cases c : a = p
    · rw [if_pos c]
    · rw [if_neg c]
      exact s.p a ha (by rw [upd_ne c]; exact hga)
  · show (if a = p then none else G' a) = none
    by_cases c : a = p
    · rw [if_pos c]
    · rw [if_neg c]; exact hga
def tNoE : TE := fun _ _ _ => False
theorem pe_never {X : Cx} {e : Expr} : PE X e tNoE := ⟨fun _ _ _ _ _ _ h => h.elim⟩
theorem ev_never {T : Ty α} : Ev tNoE Γ T none := fun _ e => by cases e
theorem sd_dead {env : β → TP.Env} {W : Rt γ} : Sd tNever Γ W env none := fun o e => by cases e
def maskE : TP.Env → List Bool → TP.Env
  | [], _ => []
  | t :: Γ, [] => t :: maskE Γ []
  | t :: Γ, true :: m => t :: maskE Γ m
  | _ :: Γ, false :: m => .no :: maskE Γ m
theorem wk_mask : ∀ (Γ : TP.Env) (m : List Bool), Wk Γ (maskE Γ m)
  | [], _ => .nil
  | _ :: Γ, [] => .same (wk_mask Γ [])
  | _ :: Γ, true :: m => .same (wk_mask Γ m)
  | _ :: Γ, false :: m => .drop (wk_mask Γ m)
theorem wk_m {Γ Δ : TP.Env} (m : List Bool) (h : maskE Γ m = Δ) : Wk Γ Δ := h ▸ wk_mask Γ m
def fL {β : Type} (fs : β → List FV) : FTy β := ⟨fun H vs y => FVs H vs (fs y), fun e h => FVs.mono e h⟩
def lookN (ns : List Str) (f : Str) : Option Nat := ns.findIdx? (fun n => n == f)
theorem fvs_lookup {G : Hp} {f : Str} : ∀ {vs : List (Str × V)} {fs : List FV} {i : Nat} {u : FV}, FVs G vs fs → lookN (fs.map (·.n)) f = some i → fs[i]? = some u → ∃ v, vs.lookup f = some v ∧ u.T.rp G v u.x
  | [], [], i, u, _, _, h => by simp at h
  | v :: vs, g :: fs, i, u, q, hl, hi => by
    obtain ⟨⟨e, r⟩, q⟩ := q
    unfold lookN at hl
    rw [List.map_cons, List.findIdx?_cons] at hl
    obtain ⟨vn, vv⟩ := v
    have e : vn = g.n := e
    by_cases c : (g.n == f) = true
    · rw [if_pos c] at hl
      cases hl
      have eu : g = u := by simpa using hi
      subst eu
      have cf : (f == vn) = true := by rw [e, beq_iff_eq.mp c]; exact beq_self_eq_true f
      exact ⟨vv, by simp only [List.lookup, cf], r⟩
    · rw [if_neg c] at hl
      have cf : (f == vn) = false := by
        have : (g.n == f) = false := by simpa using c
        rw [e]
        cases h : (f == g.n) with
        | false => rfl
        | true => rw [beq_iff_eq.mp h] at this; simp at this
      cases j : (fs.map (·.n)).findIdx? (fun n => n == f) with
      | none => rw [j] at hl; cases hl
      | some k =>
        rw [j] at hl
        have ei : k + 1 = i := by simpa using hl
        subst ei
        obtain ⟨w, h1, h2⟩ := fvs_lookup (f := f) (i := k) q j (by simpa using hi)
        exact ⟨w, by simp only [List.lookup, cf]; exact h1, h2⟩
  | [], _ :: _, _, _, q, _, _ => q.elim
  | _ :: _, [], _, _, q, _, _ => q.elim
theorem fvs_none {G : Hp} {f : Str} : ∀ {vs : List (Str × V)} {fs : List FV}, FVs G vs fs → lookN (fs.map (·.n)) f = none → vs.lookup f = none
  | [], [], _, _ => rfl
  | v :: vs, g :: fs, q, hl => by
    obtain ⟨⟨e, r⟩, q⟩ := q
    unfold lookN at hl
    rw [List.map_cons, List.findIdx?_cons] at hl
    obtain ⟨vn, vv⟩ := v
    have e : vn = g.n := e
    by_cases c : (g.n == f) = true
    · rw [if_pos c] at hl; cases hl
    · rw [if_neg c] at hl
      have cf : (f == vn) = false := by
        have : (g.n == f) = false := by simpa using c
        rw [e]
        cases h : (f == g.n) with
        | false => rfl
        | true => rw [beq_iff_eq.mp h] at this; simp at this
      have j : (fs.map (·.n)).findIdx? (fun n => n == f) = none := by
        cases j : (fs.map (·.n)).findIdx? (fun n => n == f) with
        | none => rfl
        | some k => rw [j] at hl; cases hl
      simp only [List.lookup, cf]
      exact fvs_none q j
  | [], _ :: _, q, _ => q.elim
  | _ :: _, [], q, _ => q.elim
theorem fvs_put {G : Hp} {f : Str} {w : V} {T : Ty α} {x : α} : ∀ {vs : List (Str × V)} {fs : List FV}, FVs G vs fs → lookN (fs.map (·.n)) f = none → T.rp G w x → FVs G (putF f w vs) (fs ++ [⟨f, T, x⟩])
  | [], [], _, _, r => ⟨⟨rfl, r⟩, trivial⟩
  | v :: vs, g :: fs, q, hl, r => by
    obtain ⟨⟨e, r0⟩, q⟩ := q
    unfold lookN at hl
    rw [List.map_cons, List.findIdx?_cons] at hl
    obtain ⟨vn, vv⟩ := v
    have e : vn = g.n := e
    by_cases c : (g.n == f) = true
    · rw [if_pos c] at hl; cases hl
    · rw [if_neg c] at hl
      have j : (fs.map (·.n)).findIdx? (fun n => n == f) = none := by
        cases j : (fs.map (·.n)).findIdx? (fun n => n == f) with
        | none => rfl
        | some k => rw [j] at hl; cases hl
      have ne : ¬ vn = f := fun z => c (by rw [← e, z]; simp)
      unfold putF
      rw [if_neg ne]
      exact ⟨⟨e, r0⟩, fvs_put q j r⟩
  | [], _ :: _, q, _, _ => q.elim
  | _ :: _, [], q, _, _ => q.elim
theorem fld_at {fs : β → List FV} {ns : List Str} {f : Str} {g : β → α} (i : Nat) (hn : ∀ y, (fs y).map (·.n) = ns) (hi : ∀ y, (fs y)[i]? = some ⟨f, T, g y⟩) (hl : lookN ns f = some i) : Fld (fL fs) f T g := fun H vs y h => by
  have h : FVs H vs (fs y) := h
  exact fvs_lookup h (by rw [hn y]; exact hl) (hi y)
theorem nofld {fs : β → List FV} {ns : List Str} {f : Str} (hn : ∀ y, (fs y).map (·.n) = ns) (hl : lookN ns f = none) : ∀ H vs y, (fL fs).rp H vs y → vs.lookup f = none := fun H vs y h => by
  have h : FVs H vs (fs y) := h
  exact fvs_none h (by rw [hn y]; exact hl)
def NoLF {β : Type} (F : FTy β) : Prop := ∀ (G : Hp) (p : Addr) (vs : List V) (fs : List (Str × V)) (x : β), G p = none → F.rp (upd G p (.lst vs)) fs x → F.rp G fs x
theorem nol_O {C : Addr} {F : FTy β} (h : NoLF F) : NoL (tyO C F) := fun G p vs v x hg ⟨a, dx, fs, e, ha, r⟩ => by
  have c : a ≠ p := fun z => by rw [z, upd_same] at ha; cases ha
  rw [upd_ne c] at ha
  exact ⟨a, dx, fs, e, ha, h G p vs fs x hg r⟩
def NoLFs : List FV → Prop
  | [] => True
  | f :: fs => NoL f.T ∧ NoLFs fs
theorem nolf_L {fs : β → List FV} (h : ∀ y, NoLFs (fs y)) : NoLF (fL fs) := fun G p vs ws y hg r => by
  have key : ∀ (l : List FV) (ws : List (Str × V)), NoLFs l → FVs (upd G p (.lst vs)) ws l → FVs G ws l := by
    intro l
    induction l with
    | nil => intro ws _ q; cases ws with
      | nil => exact trivial
      | cons => exact q.elim
    | cons f l ih => intro ws hn q; cases ws with
      | nil => exact q.elim
      | cons w ws => exact ⟨⟨q.1.1, hn.1 G p vs w.2 f.x hg q.1.2⟩, ih ws hn.2 q.2⟩
  exact key (fs y) ws (h y) r
theorem ev_fldOb {i j : Nat} {b C : Addr} {fs : List FV} {f : Str} {x : α} (hi : Γ[i]? = some (.ob b C fs)) (hc : Cls K C) (hn : NoAttr K C f) (hj : fs[j]? = some ⟨f, T, x⟩) (hl : lookN (fs.map (·.n)) f = some j) : Ev (tFld K (tVar i) f) Γ T (some x) := fun z e H0 G H σ S Q q => by
  cases e
  obtain ⟨o, eo, dx, vs, e, ha, hg, h0, r⟩ := S.at_ i _ hi
  subst e
  obtain ⟨v, hv, rv⟩ := fvs_lookup r hl hj
  exact ⟨.ref b, eo, b, C, dx, vs, v, rfl, ha, hc, hn, hv, q v G H (Stp.refl S.m) rv⟩
variable {env : β → TP.Env} {rest : TS}
theorem Slots.turnOb {H0 G H : Hp} {σ : L2.St} {i : Nat} {p dx C : Addr} {fs gs : List FV} {vs : List (Str × V)} (S : Slots H0 G H σ Γ) (hi : Γ[i]? = some (.ob p C fs)) (hp : σ[i]? = some (some (.ref p))) (hg : G p = none) (h0 : H0 p = none) (r : FVs G vs gs) :
    Slots H0 G (upd H p (.ins C dx vs)) σ (Γ.set i (.ob p C gs)) := by
  refine ⟨S.m.right hg, by rw [List.length_set, S.len], fun j t hj => ?_, fun j k a t u ne hj hk ht hu ej ek => ?_⟩
  · rcases set_get hj with ⟨rfl, rfl, hl⟩ | ⟨ne, hj⟩
    · exact ⟨some (.ref p), hp, dx, vs, rfl, upd_same, hg, h0, r⟩
    · obtain ⟨o, e, q⟩ := S.at_ j t hj
      refine ⟨o, e, ?_⟩
      cases t with
      | no => trivial
      | pu => exact q
      | ow U zs =>
        obtain ⟨b, ws, eo, hb, gb, b0, rb⟩ := q
        have nb : b ≠ p := fun z => S.dis i j p _ _ ne hi hj rfl rfl hp (by rw [e, eo, z])
        exact ⟨b, ws, eo, by rw [upd_ne nb]; exact hb, gb, b0, rb⟩
      | ob b C zs =>
        obtain ⟨dx, ws, eo, hb, gb, b0, rb⟩ := q
        have nb : b ≠ p := fun z => S.dis i j p _ _ ne hi hj rfl rfl hp (by rw [e, eo, z])
        exact ⟨dx, ws, eo, by rw [upd_ne nb]; exact hb, gb, b0, rb⟩
  · have hj' : ∃ t', Γ[j]? = some t' ∧ t'.isOw = true := by
      rcases set_get hj with ⟨rfl, _, _⟩ | ⟨_, hj⟩
      · exact ⟨_, hi, rfl⟩
      · exact ⟨t, hj, ht⟩
    have hk' : ∃ t', Γ[k]? = some t' ∧ t'.isOw = true := by
      rcases set_get hk with ⟨rfl, _, _⟩ | ⟨_, hk⟩
      · exact ⟨_, hi, rfl⟩
      · exact ⟨u, hk, hu⟩
    obtain ⟨t', h1, h2⟩ := hj'
    obtain ⟨u', h3, h4⟩ := hk'
    exact S.dis j k a t' u' ne h1 h3 h2 h4 ej ek
theorem sd_fld {W : Rt γ} {i : Nat} {a C : Addr} {fs : List FV} {f : Str} {m : Option α} {g : α → Option (Fl γ β)} (hi : Γ[i]? = some (.ob a C fs)) (hc : Cls K C) (hn : NoAttr K C f) (hl : lookN (fs.map (·.n)) f = none) (hz : fs.length < 1000) (h : Ev te Γ T m)
    (hr : ∀ x, Sd rest (Γ.set i (.ob a C (fs ++ [⟨f, T, x⟩]))) W env (g x)) : Sd (tSeq (sFld K (tVar i) te f) rest) Γ W env (m.bind g) := fun o e H0 G0 G H σ S s D k => by
  obtain ⟨x, ea, e⟩ := bind_inv e
  obtain ⟨o', eo, dx, vs, ea', ha, hg, h0, r⟩ := S.at_ i _ hi
  subst ea'
  refine h x ea H0 G H σ S _ fun v G1 H1 s1 r1 => ?_
  have ha1 := s1.h _ _ ha
  have hg1 := s1.p a (ne_none_of ha) hg
  refine ⟨.ref a, eo, a, C, dx, vs, rfl, ha1, hc, hn, by rw [r.len]; exact hz, ?_⟩
  exact hr x o e H0 G0 G1 _ σ ((S.step s1).turnOb hi eo hg1 h0 (fvs_put (r.mono s1.g) hl r1)) ((s.trans s1).turn h0 hg1) D (k.mono s1.g)
end
def outN {δ : Type} (m : Option (Fl Unit δ)) : Option Unit := m.bind fun _ => some ()
@[simp] theorem outN_ret {δ : Type} (r : Unit) : outN (some (.ret r) : Option (Fl Unit δ)) = some () := rfl
@[simp] theorem outN_nx {δ : Type} (b : δ) : outN (some (.nx b) : Option (Fl Unit δ)) = some () := rfl
section
variable {α β γ δ ι : Type} {K : PySem.W.Frag} {P : Program} {w : World} {mg : Str → Option Value} {base : Heap}
def noE (n : Nat) : Unit → TP.Env := fun _ => List.replicate n .no
theorem ok_pure {x qual : Str} {params : Arguments} {body : List Stmt} {scope : Scope} {fa : Addr} {N ps : List Str} {k : Nat} {A : ATy β} {T : Ty γ} {f : β → Option γ} {sl : β → TP.Env} (F : ∃ fd, FunD K x qual params body scope [] [] fa fd) (S : FnScope N ps scope) (hs : ASl A sl) (hn : A.n = ps.length) (hN : A.n ≤ N.length)
    (hb : ∀ (kV doc pm : Value) (an : Option Addr) (cdv ct : Value) (us : List Value), us.length = ps.length → bindArgs (PySem.W.fnOf x qual params body scope .none kV doc pm an cdv ct) ⟨us, []⟩ = pure (ps.zip us))
    (h : ∀ (cdv : Value) (Ar : Around) (outer : List PySem.Env) (s : Shared) (H : Hp) (E : XK), Room k (Ar.deeper (envOfC qual scope s.heap.objs.size fa cdv)) →
      ∃ t, PSs (cxOf CX0 P w K mg base N qual scope fa cdv Ar outer s H E).nox body t ∧ ∀ p, ∃ m : Option (Fl γ Unit), f p = outF m ∧ Sd t (sl p ++ List.replicate (N.length - A.n) .no) (pureR T) (noE N.length) m) :
    Ok P w K mg base (k + 1) fa ps (spOf A T f) := by
  obtain ⟨fd, F⟩ := F
  refine ⟨⟨fd, F.ok S (fun vs H Q E q => ?_) (fun cdv Ar outer s H vs Q E hr q => ?_), F.bindsN hb, FunD.lk F⟩, F.kp⟩
  · obtain ⟨p, r, G, _, _, ra, _⟩ := q
    rw [A.len ra, hn]
  · obtain ⟨p, r, G, ef, eG, ra, q⟩ := q
    obtain ⟨t, d, m⟩ := h cdv Ar outer s H E hr
    refine ⟨t, d.nox, ?_⟩
    obtain ⟨m, em, sd⟩ := m p
    rw [em] at ef
    obtain ⟨o, eo, e⟩ := bind_inv ef
    refine sd o eo H G G H _ (start_slots hs ra eG hN) (Stp.refl eG) _ ?_
    cases o with
    | ret r' => cases e; exact fun v G' H' s' rv => q v G' H' s' rv
    | nx b => cases e
theorem ok_new {x qual : Str} {params : Arguments} {body : List Stmt} {scope : Scope} {fa : Addr} {N ps : List Str} {k : Nat} {A : ATy β} {T : Ty α} {f : β → Option (List α)} {sl : β → TP.Env} (F : ∃ fd, FunD K x qual params body scope [] [] fa fd) (S : FnScope N ps scope) (hs : ASl A sl) (hn : A.n = ps.length) (hN : A.n ≤ N.length)
    (hb : ∀ (kV doc pm : Value) (an : Option Addr) (cdv ct : Value) (us : List Value), us.length = ps.length → bindArgs (PySem.W.fnOf x qual params body scope .none kV doc pm an cdv ct) ⟨us, []⟩ = pure (ps.zip us))
    (h : ∀ (cdv : Value) (Ar : Around) (outer : List PySem.Env) (s : Shared) (H : Hp) (E : XK), Room k (Ar.deeper (envOfC qual scope s.heap.objs.size fa cdv)) →
      ∃ t, PSs (cxOf CX0 P w K mg base N qual scope fa cdv Ar outer s H E).nox body t ∧ ∀ p, ∃ m : Option (Fl (List α) Unit), f p = outF m ∧ Sd t (sl p ++ List.replicate (N.length - A.n) .no) (newR T) (noE N.length) m) :
    Ok P w K mg base (k + 1) fa ps (spOfN A T f) := by
  obtain ⟨fd, F⟩ := F
  refine ⟨⟨fd, F.ok S (fun vs H Q E q => ?_) (fun cdv Ar outer s H vs Q E hr q => ?_), F.bindsN hb, FunD.lk F⟩, F.kp⟩
  · obtain ⟨p, r, G, _, _, ra, _⟩ := q
    rw [A.len ra, hn]
  · obtain ⟨p, r, G, ef, eG, ra, q⟩ := q
    obtain ⟨t, d, m⟩ := h cdv Ar outer s H E hr
    refine ⟨t, d.nox, ?_⟩
    obtain ⟨m, em, sd⟩ := m p
    rw [em] at ef
    obtain ⟨o, eo, e⟩ := bind_inv ef
    refine sd o eo H G G H _ (start_slots hs ra eG hN) (Stp.refl eG) _ ?_
    cases o with
    | ret r' =>
      cases e
      intro v G' H' s' rv
      obtain ⟨p, ws, rfl, h0, hg, hp, rr⟩ := rv
      exact q p ws G' H' s' h0 hg hp rr
    | nx b => cases e
theorem ok_none {x qual : Str} {params : Arguments} {body : List Stmt} {scope : Scope} {fa : Addr} {N ps : List Str} {k : Nat} {A : ATy β} {f : β → Option Unit} {sl : β → TP.Env} (F : ∃ fd, FunD K x qual params body scope [] [] fa fd) (S : FnScope N ps scope) (hs : ASl A sl) (hn : A.n = ps.length) (hN : A.n ≤ N.length)
    (hb : ∀ (kV doc pm : Value) (an : Option Addr) (cdv ct : Value) (us : List Value), us.length = ps.length → bindArgs (PySem.W.fnOf x qual params body scope .none kV doc pm an cdv ct) ⟨us, []⟩ = pure (ps.zip us))
    (h : ∀ (cdv : Value) (Ar : Around) (outer : List PySem.Env) (s : Shared) (H : Hp) (E : XK), Room k (Ar.deeper (envOfC qual scope s.heap.objs.size fa cdv)) →
      ∃ t, PSs (cxOf CX0 P w K mg base N qual scope fa cdv Ar outer s H E).nox body t ∧ ∀ p, ∃ m : Option (Fl Unit Unit), f p = outN m ∧ Sd t (sl p ++ List.replicate (N.length - A.n) .no) (pureR tyN) (noE N.length) m) :
    Ok P w K mg base (k + 1) fa ps (spOf A tyN f) := by
  obtain ⟨fd, F⟩ := F
  refine ⟨⟨fd, F.ok S (fun vs H Q E q => ?_) (fun cdv Ar outer s H vs Q E hr q => ?_), F.bindsN hb, FunD.lk F⟩, F.kp⟩
  · obtain ⟨p, r, G, _, _, ra, _⟩ := q
    rw [A.len ra, hn]
  · obtain ⟨p, r, G, ef, eG, ra, q⟩ := q
    obtain ⟨t, d, m⟩ := h cdv Ar outer s H E hr
    refine ⟨t, d.nox, ?_⟩
    obtain ⟨m, em, sd⟩ := m p
    rw [em] at ef
    obtain ⟨o, eo, e⟩ := bind_inv ef
    refine sd o eo H G G H _ (start_slots hs ra eG hN) (Stp.refl eG) _ ?_
    cases o with
    | ret r' => exact fun v G' H' s' rv => q v G' H' s' rv
    | nx b => exact fun σ G' H' S' s' _ => q .non G' H' s' rfl
def spInit (C : Addr) (A : ATy β) (F : FTy γ) (f : β → Option γ) : Sp := fun vs H Q _ => ∃ (p dx : Addr) (r : List V) (x : β) (y : γ) (G : Hp), vs = .ref p :: r ∧ H p = some (.ins C dx []) ∧ Ex G H ∧ G p = none ∧ A.rp G r x ∧ f x = some y ∧
  ∀ (G' H' : Hp) (fs : List (Str × V)), (∀ b o, b ≠ p → H b = some o → H' b = some o) → Ex G G' → Ex G' H' → G' p = none → (∀ a, H a ≠ none → G a = none → G' a = none) → (∃ dx, H' p = some (.ins C dx fs)) → F.rp G' fs y → Q .non H'
def outI {γ : Type} (m : Option (Fl Unit γ)) : Option γ := m.bind fun x => match x with
  | .ret _ => none
  | .nx y => some y
@[simp] theorem outI_nx {γ : Type} (y : γ) : outI (some (.nx y)) = some y := rfl
@[simp] theorem outI_none {γ : Type} : outI (none : Option (Fl Unit γ)) = none := rfl
def obE (a C : Addr) (fs : γ → List FV) (n : Nat) : γ → TP.Env := fun y => .ob a C (fs y) :: List.replicate n .no
theorem ok_init {x qual : Str} {params : Arguments} {body : List Stmt} {scope : Scope} {kws : List (Str × V)} {fa C : Addr} {N ps : List Str} {k : Nat} {A : ATy β} {fs : γ → List FV} {f : β → Option γ} {sl : β → TP.Env} (F : ∃ fd, FunD K x qual params body scope [] kws fa fd) (S : FnScope N ps scope) (hs : ASl A sl) (hn : A.n + 1 = ps.length) (hN : A.n + 1 ≤ N.length)
    (h : ∀ (cdv : Value) (Ar : Around) (outer : List PySem.Env) (s : Shared) (H : Hp) (E : XK), Room k (Ar.deeper (envOfC qual scope s.heap.objs.size fa cdv)) →
      ∃ t, PSs (cxOf CX0 P w K mg base N qual scope fa cdv Ar outer s H E).nox body t ∧ ∀ a p, ∃ m : Option (Fl Unit γ), f p = outI m ∧ Sd t (.ob a C [] :: (sl p ++ List.replicate (N.length - 1 - A.n) .no)) (pureR tyN) (obE a C fs (N.length - 1)) m) :
    ∃ fd, FnOk P w K mg base CX0 (k + 1) fa fd ps (spInit C A (fL fs) f) ∧ FunD K x qual params body scope [] kws fa fd := by
  obtain ⟨fd, F⟩ := F
  refine ⟨fd, F.ok S (fun vs H Q E q => ?_) (fun cdv Ar outer s H vs Q E hr q => ?_), F⟩
  · obtain ⟨p, dx, r, x, y, G, rfl, _, _, _, ra, _⟩ := q
    rw [List.length_cons, A.len ra, hn]
  · obtain ⟨p, dx, r, x, y, G, rfl, hp, eG, gp, ra, ef, q⟩ := q
    obtain ⟨t, d, m⟩ := h cdv Ar outer s H E hr
    refine ⟨t, d.nox, ?_⟩
    obtain ⟨m, em, sd⟩ := m p x
    rw [em] at ef
    obtain ⟨o, eo, e⟩ := bind_inv ef
    let H0 : Hp := fun a => if a = p then none else H a
    have e0 : Ex H0 H := fun a u ea => by
      by_cases c : a = p
      · have ea' : (if a = p then none else H a) = some u := ea
        rw [if_pos c] at ea'; cases ea'
      · have ea' : (if a = p then none else H a) = some u := ea
        rw [if_neg c] at ea'; exact ea'
    have hp0 : H0 p = none := if_pos rfl
    have nl : (L2.start N (.ref p :: r)) = some (.ref p) :: L2.start (N.drop 1) r := by
      unfold L2.start
      rw [List.map_cons, List.cons_append]
      congr 3
      simp only [List.length_cons, List.length_drop]
      omega
    have S1 : Slots H G H (L2.start (N.drop 1) r) (sl x ++ List.replicate ((N.drop 1).length - A.n) .no) := start_slots hs ra eG (by rw [List.length_drop]; omega)
    have el : (N.drop 1).length - A.n = N.length - 1 - A.n := by rw [List.length_drop]
    rw [el] at S1
    have S2 : Slots H0 G H (L2.start N (.ref p :: r)) (.ob p C [] :: (sl x ++ List.replicate (N.length - 1 - A.n) .no)) := by
      have noow : ∀ (i : Nat) (u : Slot), (sl x ++ List.replicate (N.length - 1 - A.n) .no)[i]? = some u → u.isOw = false := fun i u hu => by
        by_cases hi : i < (sl x).length
        · rw [List.getElem?_append_left hi] at hu
          exact ((hs G r x ra).2 i u hu).1
        · rw [List.getElem?_append_right (by omega)] at hu
          have := (List.mem_replicate.mp (List.mem_of_getElem? hu)).2
          rw [this]; rfl
      rw [nl]
      refine ⟨eG, by rw [List.length_cons, List.length_cons, S1.len], fun i u hu => ?_, fun i j a u v ne hi hj hu hv _ _ => ?_⟩
      · cases i with
        | zero =>
          have eu : Slot.ob p C [] = u := by simpa using hu
          subst eu
          exact ⟨_, rfl, dx, [], rfl, hp, gp, hp0, trivial⟩
        | succ i =>
          have hu : (sl x ++ List.replicate (N.length - 1 - A.n) .no)[i]? = some u := by simpa using hu
          obtain ⟨o', eo', q'⟩ := S1.at_ i u hu
          refine ⟨o', by simpa using eo', ?_⟩
          have nu := noow i u hu
          cases u with
          | no => trivial
          | pu => exact q'
          | ow => cases nu
          | ob => cases nu
      · cases i with
        | zero => cases j with
          | zero => exact ne rfl
          | succ j =>
            have := noow j v (by simpa using hj)
            rw [this] at hv; cases hv
        | succ i =>
          have := noow i u (by simpa using hi)
          rw [this] at hu; cases hu
    have s0 : Stp G H0 G H := ⟨Ex.refl _, e0, eG, fun _ _ z => z⟩
    refine sd o eo H0 G G H _ S2 s0 _ ?_
    cases o with
    | ret r' => cases e
    | nx b =>
      cases e
      intro σ' G' H' S' s' _
      obtain ⟨o', eo', dx', vs, ea, ha, ga, h0a, rf⟩ := S'.at_ 0 (.ob p C (fs y)) rfl
      refine q G' H' vs (fun b u hb hu => s'.h b u (by show (if b = p then none else H b) = _; rw [if_neg hb]; exact hu)) s'.g s'.m ga (fun b hb hgb => ?_) ⟨dx', ha⟩ rf
      by_cases cb : b = p
      · rw [cb]; exact ga
      · exact s'.p b (by show (if b = p then none else H b) ≠ none; rw [if_neg cb]; exact hb) hgb
end
end TP
set_option maxHeartbeats 4000000
namespace Q01
open PySem PySem.Spec PyProof.Rows L2 TP
def top (i : Nat) : Stmt := PySem.Challenge.pw_unmovedways_k01_house_numbers.main.body.getD i (.Pass ⟨0, 0, 0, 0⟩)
abbrev s_law_cell : Stmt := (top 11)
def N_law_cell : List PySem.Str := ["script", "k"]
theorem sc_law_cell : FnScope N_law_cell ["script", "k"] (defScope s_law_cell) := ⟨rfl, rfl, rfl, by decide +kernel, rfl, by decide +kernel, by decide +kernel⟩
def d_law_cell : He5.DefA := ⟨fun K => He.ga K "_law_cell", "_law_cell", "_law_cell", defArgs s_law_cell, defBody s_law_cell, defScope s_law_cell, [], []⟩
abbrev s_law_draw : Stmt := (top 12)
def N_law_draw : List PySem.Str := ["cell", "k", "size", "mixed", "rest", "step"]
theorem sc_law_draw : FnScope N_law_draw ["cell", "k", "size"] (defScope s_law_draw) := ⟨rfl, rfl, rfl, by decide +kernel, rfl, by decide +kernel, by decide +kernel⟩
def d_law_draw : He5.DefA := ⟨fun K => He.ga K "_law_draw", "_law_draw", "_law_draw", defArgs s_law_draw, defBody s_law_draw, defScope s_law_draw, [], []⟩
abbrev s_law_within : Stmt := (top 15)
def N_law_within : List PySem.Str := ["cell", "k", "low", "high", "drawn"]
theorem sc_law_within : FnScope N_law_within ["cell", "k", "low", "high"] (defScope s_law_within) := ⟨rfl, rfl, rfl, by decide +kernel, rfl, by decide +kernel, by decide +kernel⟩
def d_law_within : He5.DefA := ⟨fun K => He.ga K "_law_within", "_law_within", "_law_within", defArgs s_law_within, defBody s_law_within, defScope s_law_within, [], []⟩
abbrev s_law_beyond : Stmt := (top 16)
def N_law_beyond : List PySem.Str := ["cell", "k", "low", "high"]
theorem sc_law_beyond : FnScope N_law_beyond ["cell", "k", "low", "high"] (defScope s_law_beyond) := ⟨rfl, rfl, rfl, by decide +kernel, rfl, by decide +kernel, by decide +kernel⟩
def d_law_beyond : He5.DefA := ⟨fun K => He.ga K "_law_beyond", "_law_beyond", "_law_beyond", defArgs s_law_beyond, defBody s_law_beyond, defScope s_law_beyond, [], []⟩
abbrev s_law_numbers : Stmt := (top 17)
def N_law_numbers : List PySem.Str := ["cell", "many", "flaw", "bounds", "width", "most_wide", "place", "at"]
theorem sc_law_numbers : FnScope N_law_numbers ["cell"] (defScope s_law_numbers) := ⟨rfl, rfl, rfl, by decide +kernel, rfl, by decide +kernel, by decide +kernel⟩
def d_law_numbers : He5.DefA := ⟨fun K => He.ga K "_law_numbers", "_law_numbers", "_law_numbers", defArgs s_law_numbers, defBody s_law_numbers, defScope s_law_numbers, [], []⟩
abbrev s_keeps_bounds : Stmt := (top 9)
def N_keeps_bounds : List PySem.Str := ["limits", "channels", "wide_limit", "limit"]
theorem sc_keeps_bounds : FnScope N_keeps_bounds ["limits", "channels", "wide_limit"] (defScope s_keeps_bounds) := ⟨rfl, rfl, rfl, by decide +kernel, rfl, by decide +kernel, by decide +kernel⟩
def d_keeps_bounds : He5.DefA := ⟨fun K => He.ga K "_keeps_bounds", "_keeps_bounds", "_keeps_bounds", defArgs s_keeps_bounds, defBody s_keeps_bounds, defScope s_keeps_bounds, [], []⟩
abbrev s_House_init : Stmt := (inClass (top 8) 0)
def N_House_init : List PySem.Str := ["self", "limits", "channels", "wide_limit"]
theorem sc_House_init : FnScope N_House_init ["self", "limits", "channels", "wide_limit"] (defScope s_House_init) := ⟨rfl, rfl, rfl, by decide +kernel, rfl, by decide +kernel, by decide +kernel⟩
def d_House_init : He5.DefA := ⟨fun K => maA K "House" "__init__", "__init__", "House.__init__", defArgs s_House_init, defBody s_House_init, defScope s_House_init, [], [("channels", .int 8), ("wide_limit", .int 20)]⟩
abbrev s_law_made : Stmt := (top 21)
def N_law_made : List PySem.Str := ["bounds", "width", "most_wide", "e"]
theorem sc_law_made : FnScope N_law_made ["bounds", "width", "most_wide"] (defScope s_law_made) := ⟨rfl, rfl, rfl, by decide +kernel, rfl, by decide +kernel, by decide +kernel⟩
def d_law_made : He5.DefA := ⟨fun K => He.ga K "_law_made", "_law_made", "_law_made", defArgs s_law_made, defBody s_law_made, defScope s_law_made, [], []⟩
abbrev s_law_good : Stmt := (top 19)
def N_law_good : List PySem.Str := ["numbers", "bounds"]
theorem sc_law_good : FnScope N_law_good ["numbers"] (defScope s_law_good) := ⟨rfl, rfl, rfl, by decide +kernel, rfl, by decide +kernel, by decide +kernel⟩
def d_law_good : He5.DefA := ⟨fun K => He.ga K "_law_good", "_law_good", "_law_good", defArgs s_law_good, defBody s_law_good, defScope s_law_good, [], []⟩
abbrev s_law_int : Stmt := (top 13)
def N_law_int : List PySem.Str := ["value"]
theorem sc_law_int : FnScope N_law_int ["value"] (defScope s_law_int) := ⟨rfl, rfl, rfl, by decide +kernel, rfl, by decide +kernel, by decide +kernel⟩
def d_law_int : He5.DefA := ⟨fun K => He.ga K "_law_int", "_law_int", "_law_int", defArgs s_law_int, defBody s_law_int, defScope s_law_int, [], []⟩
abbrev s_law_ints : Stmt := (top 14)
def N_law_ints : List PySem.Str := ["value", "due", "at"]
theorem sc_law_ints : FnScope N_law_ints ["value", "due"] (defScope s_law_ints) := ⟨rfl, rfl, rfl, by decide +kernel, rfl, by decide +kernel, by decide +kernel⟩
def d_law_ints : He5.DefA := ⟨fun K => He.ga K "_law_ints", "_law_ints", "_law_ints", defArgs s_law_ints, defBody s_law_ints, defScope s_law_ints, [], []⟩
abbrev s_House_cells : Stmt := (inClass (top 8) 1)
def N_House_cells : List PySem.Str := ["self"]
theorem sc_House_cells : FnScope N_House_cells ["self"] (defScope s_House_cells) := ⟨rfl, rfl, rfl, by decide +kernel, rfl, by decide +kernel, by decide +kernel⟩
def d_House_cells : He5.DefA := ⟨fun K => pgA K "House" "cells", "cells", "House.cells", defArgs s_House_cells, defBody s_House_cells, defScope s_House_cells, [], []⟩
abbrev s_House_greatest : Stmt := (inClass (top 8) 2)
def N_House_greatest : List PySem.Str := ["self"]
theorem sc_House_greatest : FnScope N_House_greatest ["self"] (defScope s_House_greatest) := ⟨rfl, rfl, rfl, by decide +kernel, rfl, by decide +kernel, by decide +kernel⟩
def d_House_greatest : He5.DefA := ⟨fun K => pgA K "House" "greatest", "greatest", "House.greatest", defArgs s_House_greatest, defBody s_House_greatest, defScope s_House_greatest, [], []⟩
abbrev s_House_least : Stmt := (inClass (top 8) 3)
def N_House_least : List PySem.Str := ["self"]
theorem sc_House_least : FnScope N_House_least ["self"] (defScope s_House_least) := ⟨rfl, rfl, rfl, by decide +kernel, rfl, by decide +kernel, by decide +kernel⟩
def d_House_least : He5.DefA := ⟨fun K => pgA K "House" "least", "least", "House.least", defArgs s_House_least, defBody s_House_least, defScope s_House_least, [], []⟩
abbrev s_House_total : Stmt := (inClass (top 8) 4)
def N_House_total : List PySem.Str := ["self"]
theorem sc_House_total : FnScope N_House_total ["self"] (defScope s_House_total) := ⟨rfl, rfl, rfl, by decide +kernel, rfl, by decide +kernel, by decide +kernel⟩
def d_House_total : He5.DefA := ⟨fun K => pgA K "House" "total", "total", "House.total", defArgs s_House_total, defBody s_House_total, defScope s_House_total, [], []⟩
abbrev s_House_wide_bound : Stmt := (inClass (top 8) 5)
def N_House_wide_bound : List PySem.Str := ["self"]
theorem sc_House_wide_bound : FnScope N_House_wide_bound ["self"] (defScope s_House_wide_bound) := ⟨rfl, rfl, rfl, by decide +kernel, rfl, by decide +kernel, by decide +kernel⟩
def d_House_wide_bound : He5.DefA := ⟨fun K => pgA K "House" "wide_bound", "wide_bound", "House.wide_bound", defArgs s_House_wide_bound, defBody s_House_wide_bound, defScope s_House_wide_bound, [], []⟩
abbrev s_law_is_house : Stmt := (top 20)
def N_law_is_house : List PySem.Str := ["house", "numbers", "bounds", "told", "due"]
theorem sc_law_is_house : FnScope N_law_is_house ["house", "numbers"] (defScope s_law_is_house) := ⟨rfl, rfl, rfl, by decide +kernel, rfl, by decide +kernel, by decide +kernel⟩
def d_law_is_house : He5.DefA := ⟨fun K => He.ga K "_law_is_house", "_law_is_house", "_law_is_house", defArgs s_law_is_house, defBody s_law_is_house, defScope s_law_is_house, [], []⟩
abbrev s_law_as_due : Stmt := (top 23)
def N_law_as_due : List PySem.Str := ["made", "numbers"]
theorem sc_law_as_due : FnScope N_law_as_due ["made", "numbers"] (defScope s_law_as_due) := ⟨rfl, rfl, rfl, by decide +kernel, rfl, by decide +kernel, by decide +kernel⟩
def d_law_as_due : He5.DefA := ⟨fun K => He.ga K "_law_as_due", "_law_as_due", "_law_as_due", defArgs s_law_as_due, defBody s_law_as_due, defScope s_law_as_due, [], []⟩
abbrev s_law_near : Stmt := (top 18)
def N_law_near : List PySem.Str := ["numbers", "bounds", "limit"]
theorem sc_law_near : FnScope N_law_near ["numbers"] (defScope s_law_near) := ⟨rfl, rfl, rfl, by decide +kernel, rfl, by decide +kernel, by decide +kernel⟩
def d_law_near : He5.DefA := ⟨fun K => He.ga K "_law_near", "_law_near", "_law_near", defArgs s_law_near, defBody s_law_near, defScope s_law_near, [], []⟩
abbrev s_law_defaults : Stmt := (top 25)
def N_law_defaults : List PySem.Str := ["bounds", "width", "most_wide"]
theorem sc_law_defaults : FnScope N_law_defaults ["bounds", "width", "most_wide"] (defScope s_law_defaults) := ⟨rfl, rfl, rfl, by decide +kernel, rfl, by decide +kernel, by decide +kernel⟩
def d_law_defaults : He5.DefA := ⟨fun K => He.ga K "_law_defaults", "_law_defaults", "_law_defaults", defArgs s_law_defaults, defBody s_law_defaults, defScope s_law_defaults, [], []⟩
abbrev s_law_bit : Stmt := (top 24)
def N_law_bit : List PySem.Str := ["number", "k"]
theorem sc_law_bit : FnScope N_law_bit ["number", "k"] (defScope s_law_bit) := ⟨rfl, rfl, rfl, by decide +kernel, rfl, by decide +kernel, by decide +kernel⟩
def d_law_bit : He5.DefA := ⟨fun K => He.ga K "_law_bit", "_law_bit", "_law_bit", defArgs s_law_bit, defBody s_law_bit, defScope s_law_bit, [], []⟩
abbrev s_House_changed : Stmt := (inClass (top 8) 6)
def N_House_changed : List PySem.Str := ["self", "limits", "channels", "wide_limit"]
theorem sc_House_changed : FnScope N_House_changed ["self", "limits", "channels", "wide_limit"] (defScope s_House_changed) := ⟨rfl, rfl, rfl, by decide +kernel, rfl, by decide +kernel, by decide +kernel⟩
def d_House_changed : He5.DefA := ⟨fun K => maA K "House" "changed", "changed", "House.changed", defArgs s_House_changed, defBody s_House_changed, defScope s_House_changed, [], [("limits", .non), ("channels", .non), ("wide_limit", .non)]⟩
abbrev s_law_changed : Stmt := (top 22)
def N_law_changed : List PySem.Str := ["house", "form", "bounds", "width", "most_wide", "e"]
theorem sc_law_changed : FnScope N_law_changed ["house", "form", "bounds", "width", "most_wide"] (defScope s_law_changed) := ⟨rfl, rfl, rfl, by decide +kernel, rfl, by decide +kernel, by decide +kernel⟩
def d_law_changed : He5.DefA := ⟨fun K => He.ga K "_law_changed", "_law_changed", "_law_changed", defArgs s_law_changed, defBody s_law_changed, defScope s_law_changed, [], []⟩
abbrev s_law_change : Stmt := (top 26)
def N_law_change : List PySem.Str := ["house", "near", "cell", "news", "form", "blank", "after", "k", "handed", "made", "newer"]
theorem sc_law_change : FnScope N_law_change ["house", "near", "cell"] (defScope s_law_change) := ⟨rfl, rfl, rfl, by decide +kernel, rfl, by decide +kernel, by decide +kernel⟩
def d_law_change : He5.DefA := ⟨fun K => He.ga K "_law_change", "_law_change", "_law_change", defArgs s_law_change, defBody s_law_change, defScope s_law_change, [], []⟩
abbrev s_law : Stmt := (top 27)
def N_law : List PySem.Str := ["script", "numbers", "near", "handed", "made"]
theorem sc_law : FnScope N_law ["script"] (defScope s_law) := ⟨rfl, rfl, rfl, by decide +kernel, rfl, by decide +kernel, by decide +kernel⟩
def d_law : He5.DefA := ⟨fun K => He.ga K "law", "law", "law", defArgs s_law, defBody s_law, defScope s_law, [], []⟩
def fn : List He5.DefA := [d_law_cell, d_law_draw, d_law_within, d_law_beyond, d_law_numbers, d_keeps_bounds, d_House_init, d_law_made, d_law_good, d_law_int, d_law_ints, d_House_cells, d_House_greatest, d_House_least, d_House_total, d_House_wide_bound, d_law_is_house, d_law_as_due, d_law_near, d_law_defaults, d_law_bit, d_House_changed, d_law_changed, d_law_change, d_law]
def ft : List Ft := [.fa (.free "len"),
  .fa (.free "int"),
  .fa (.free "range"),
  .fa (.glo "_law_draw"),
  .fa (.glo "_law_within"),
  .fa (.glo "_law_beyond"),
  .fa (.int "MOST_CELLS" 5),
  .fa (.int "MOST_LIMIT" 20),
  .fa (.int "MOST_CHANNELS" 24),
  .fa (.free "tuple"),
  .fa (.cls "House"),
  .fa (.noat "House" "limits"),
  .fa (.glo "_keeps_bounds"),
  .fa (.exc "InvalidHouse"),
  .fa (.glo "InvalidHouse"),
  .fa (.noat "House" "wide_limit"),
  .fa (.noat "House" "channels"),
  .fa (.mkr "House"),
  .fa (.glo "House"),
  .exk "InvalidHouse",
  .kit "InvalidHouse" "UnmovedError" true,
  .fa (.glo "UnmovedError"),
  .fa (.free "isinstance"),
  .kitB "InvalidHouse" "ValueError" true,
  .fa (.free "ValueError"),
  .kit "InvalidHouse" "InvalidNet" false,
  .fa (.glo "InvalidNet"),
  .fa (.exm "InvalidHouse" "InvalidHouse" true),
  .fa (.free "min"),
  .fa (.free "max"),
  .fa (.free "bool"),
  .fa (.free "list"),
  .fa (.glo "_law_int"),
  .fa (.free "sum"),
  .iso "House",
  .fa (.glo "_law_ints"),
  .prop "House" "cells",
  .prop "House" "greatest",
  .prop "House" "least",
  .prop "House" "total",
  .prop "House" "wide_bound",
  .fa (.glo "_law_good"),
  .fa (.glo "_law_is_house"),
  .fa (.meth "House" "changed"),
  .fa (.glo "_law_numbers"),
  .fa (.glo "_law_bit"),
  .fa (.glo "_law_changed"),
  .fa (.glo "_law_as_due"),
  .fa (.glo "_law_near"),
  .fa (.glo "_law_cell"),
  .fa (.glo "_law_made"),
  .fa (.glo "_law_defaults"),
  .fa (.glo "_law_change"),
  .fa (.glo "law")]
end Q01
set_option maxHeartbeats 0
namespace Q01
open PySem PySem.Spec PyProof.Rows L2 TP
abbrev Rr : PySem.W.OpenRow := PySem.W.OpenLaw.row PySem.Challenge.rw_unmovedways_k01_house_numbers
abbrev hk : PySem.W.Hook := hookP 8 ft fn
def ob (s : PySem.W.SharedT) : He.AlD := obsPG 8 ft fn (HandSHeadRun.getT s)
theorem ob_eq (s : PySem.W.SharedT) : ob s = hk.obs s.abs := obsPG_eq (HandSHeadRun.getT_eq s)
def loose0 : List PySem.Str := ["UnmovedError", "InvalidHouse", "InvalidNet", "MOST_CELLS", "MOST_LIMIT", "MOST_CHANNELS", "House", "_keeps_bounds", "_law_cell", "_law_draw", "_law_int", "_law_ints", "_law_within", "_law_beyond", "_law_numbers", "_law_near", "_law_good", "_law_is_house", "_law_made", "_law_changed"]
def loose1 : List PySem.Str := ["_law_as_due", "_law_bit", "_law_defaults", "_law_change"]
abbrev loose : List PySem.Str := loose0 ++ loose1
theorem run (w : World) : HandSHeadRun.RunEq Rr (PySem.W.view Rr.prog [27]) hk ob 6000 loose w := by
  intro os
  kernel_rfl
end Q01
set_option maxHeartbeats 1000000
namespace TP
open PySem PySem.Spec PyProof.Rows L2
section
variable {α β β' γ δ ι : Type} {te ta tb tc : TE} {Γ : TP.Env} {T : Ty α} {U : Ty β} {K : PySem.W.Frag} {P : Program} {w : World} {mg : Str → Option Value} {base : Heap}
theorem made_at {C : Addr} {A : ATy β} {F : FTy γ} {f : β → Option γ} {G H : Hp} {r : List V} {x : β} {y : γ} {Q : VK} {E : XK} (m : Ex G H) (ra : A.rp G r x) (ef : f x = some y) (q : ∀ v G' H', Stp G H G' H' → (tyO C F).rp G' v y → Q v H') {p dx : Addr} (np : H p = none) (nd : H dx = none) (ne : dx ≠ p) :
    spInit C A F f (.ref p :: r) (upd (upd H dx (.own p)) p (.ins C dx [])) (fun v H3 => v = .non ∧ Q (.ref p) H3) E := by
  have xg : G p = none := m.non np
  have dg : G dx = none := m.non nd
  refine ⟨p, dx, r, x, y, G, rfl, upd_same, (m.right dg).right xg, xg, ra, ef, fun G' H' fs k eg em gx pr hx rf => ⟨rfl, ?_⟩⟩
  obtain ⟨dx', hx⟩ := hx
  have sx : Stp G H (upd G' p (.ins C dx' fs)) H' := by
    refine ⟨fun a u ea => ?_, fun a u ea => ?_, fun a u ea => ?_, fun a ha hg => ?_⟩
    · rw [upd_ne (ne_of_none ea xg)]; exact eg _ _ ea
    · have n1 : a ≠ p := ne_of_none ea np
      have n2 : a ≠ dx := ne_of_none ea nd
      exact k a u n1 (by rw [upd_ne n1, upd_ne n2]; exact ea)
    · by_cases qx : a = p
      · subst qx; rw [upd_same] at ea; rw [hx]; exact ea
      · rw [upd_ne qx] at ea; exact em _ _ ea
    · have n1 : a ≠ p := fun z => ha (by rw [z]; exact np)
      have n2 : a ≠ dx := fun z => ha (by rw [z]; exact nd)
      rw [upd_ne n1]
      exact pr a (by rw [upd_ne n1, upd_ne n2]; exact ha) hg
  exact q _ _ _ sx ⟨p, dx', fs, rfl, upd_same, FTy.mono _ (Ex.new gx) rf⟩
def Fit (A1 : ATy β') (A2 : ATy ι) (A : ATy β) (g : List V → List V → List V) (j : β' → ι → β) : Prop := ∀ G vs zs x y, A1.rp G vs x → A2.rp G zs y → ∃ r, (∀ p, g (p :: vs) zs = p :: r) ∧ A.rp G r (j x y)
theorem ev_makeK {A1 : ATy β'} {A2 : ATy ι} {A : ATy β} {g : List V → List V → List V} {j : β' → ι → β} {C : Addr} {F : FTy γ} {f : β → Option γ} {t tk : TA} {E : XK} {n m : Nat} {ma : Option β'} {mk : Option ι} (hg : Fit A1 A2 A g j) (h1 : A1.n = n) (h2 : A2.n = m)
    (ha : EvA t Γ A1 ma) (hk : EvA tk Γ A2 mk) : Ev (tMakeK C n m (spInit C A F f) g E t tk) Γ (tyO C F) (ma.bind fun x => mk.bind fun y => f (j x y)) := fun z e H0 G H σ S Q q => by
  obtain ⟨x, e1, e⟩ := bind_inv e
  obtain ⟨y, e2, e⟩ := bind_inv e
  refine ha x e1 H0 G H σ S _ fun vs G1 H1 s1 r1 => ?_
  refine hk y e2 H0 G1 H1 σ (S.step s1) _ fun zs G2 H2 s2 r2 => ?_
  refine ⟨by rw [A1.len r1, h1], by rw [A2.len r2, h2], fun p dx np nd ne => ?_⟩
  obtain ⟨r, er, ra⟩ := hg G2 vs zs x y (A1.mono s2.g r1) r2
  rw [er]
  exact made_at s2.m ra e (fun v G' H' s rv => q v G' H' ((s1.trans s2).trans s) rv) np nd ne
theorem ev_make {A1 : ATy β'} {A : ATy β} {dvs : List V} {j : β' → β} {C : Addr} {F : FTy γ} {f : β → Option γ} {t : TA} {E : XK} {ma : Option β'} (hg : ∀ G vs x, A1.rp G vs x → A.rp G (vs ++ dvs) (j x)) (ha : EvA t Γ A1 ma) : Ev (tMake C (spInit C A F f) dvs E t) Γ (tyO C F) (ma.bind fun x => f (j x)) := fun z e H0 G H σ S Q q => by
  obtain ⟨x, e1, e⟩ := bind_inv e
  refine ha x e1 H0 G H σ S _ fun vs G1 H1 s1 r1 => fun p dx np nd ne => ?_
  exact made_at s1.m (hg _ _ _ r1) e (fun v G' H' s rv => q v G' H' (s1.trans s) rv) np nd ne
structure OkI (P : Program) (w : World) (K : PySem.W.Frag) (mg : Str → Option Value) (base : Heap) (k : Nat) (x qual : Str) (params : Arguments) (body : List Stmt) (scope : Scope) (kws : List (Str × V)) (f : Addr) (ps : List Str) (sp : Sp) : Prop where
  ex : ∃ fd, FnOk P w K mg base CX0 k f fd ps sp ∧ FunD K x qual params body scope [] kws f fd
variable {X : Cx} {k n : Nat} {f C : Addr} {ps ks : List Str} {sp : Sp} {x q qual : Str} {p pos : Pos} {e : Expr} {es : List Expr} {t tk : TA} {kw : List Keyword} {params : Arguments} {body : List Stmt} {scope : Scope} {kws : List (Str × V)}
theorem pe_makeKF {g : {α : Type} → List α → List α → List α → List α} {ms : List (Str × V)} (F : OkI X.prog X.w X.K X.mg X.base k q qual params body scope kws f ps sp) (M : Mk X.K C f) (hr : Room (k + 1) X.A) (hg : Gl X x) (hm : X.mg x = some (.ref C))
    (hk : kws ≠ []) (hms : ∀ q ∈ ms, q ∈ kws) (hrel : ∀ {vs mz zs : List V} {us mv ws : List Value}, Vals vs us → Vals mz mv → Vals zs ws → Vals (g vs mz zs) (g us mv ws))
    (h : ∀ (D : Addr) (doc pm : Value) (an : Option Addr) (cdv ct : Value) (us mv ws : List Value), us.length = n + 1 → mv.length = ms.length → ws.length = ks.length →
      KwChain D ((ms.map (·.1)).zip mv) (bindArgs (PySem.W.fnOf q qual params body scope .none (.ref D) doc pm an cdv ct) ⟨us, ks.zip ws⟩) (ps.zip (g us mv ws)))
    (ha : PA X (e :: es) t) (hkw : PK X kw tk) (hall : (backToKw pos (keywordEach kw X.env)).all (·.1.isSome) = true := by rfl) (hks : (backToKw pos (keywordEach kw X.env)).filterMap (·.1) = ks := by rfl) (hdb : (x == ("__debug__" : Str)) = false := by decide)
    (he : starEach (e :: es) X.env = (false, eval e X.env) :: starEach es X.env := by rfl) (hpl : ((backTo pos (starEach (e :: es) X.env)).any (·.1) || (backToKw pos (keywordEach kw X.env)).any (·.1.isNone)) = false := by rfl) :
    PE X (.Call (.Name x p) (e :: es) kw pos) (tMakeK C n ks.length sp (fun vs zs => g vs (ms.map (·.2)) zs) E0 t tk) := by
  obtain ⟨fd, G, D⟩ := F.ex
  obtain ⟨mv, hb⟩ := D.kbinds0 (n + 1) ks ms g hk hms hrel h
  exact pe_makeK M G hr hg hm hb pass0 ha hkw hall hks hdb he hpl
theorem pe_makeF0 (F : OkI X.prog X.w X.K X.mg X.base k q qual params body scope kws f ps sp) (M : Mk X.K C f) (hr : Room (k + 1) X.A) (hg : Gl X x) (hm : X.mg x = some (.ref C)) (hk : kws ≠ []) (hn : n + kws.length = ps.length)
    (h : ∀ (D : Addr) (doc pm : Value) (an : Option Addr) (cdv ct : Value) (us ks : List Value), us.length = n → ks.length = kws.length →
      KwChain D ((kws.map (·.1)).zip ks) (bindArgs (PySem.W.fnOf q qual params body scope .none (.ref D) doc pm an cdv ct) ⟨us, []⟩) (ps.zip (us ++ ks)))
    (ha : PA X (e :: es) t) (hdb : (x == ("__debug__" : Str)) = false := by decide) (he : starEach (e :: es) X.env = (false, eval e X.env) :: starEach es X.env := by rfl) (hpl : (backTo pos (starEach es X.env)).any (·.1) = false := by rfl) :
    PE X (.Call (.Name x p) (e :: es) [] pos) (tMake C sp (kws.map (·.2)) E0 t) := by
  obtain ⟨fd, G, D⟩ := F.ex
  obtain ⟨ds, hd, hb⟩ := D.binds0 n hk hn h
  exact pe_make M G hr hg hm hb hd pass0 ha hdb he hpl
theorem pe_makeF (F : OkI X.prog X.w X.K X.mg X.base k q qual params body scope [] f ps sp) (M : Mk X.K C f) (hr : Room (k + 1) X.A) (hg : Gl X x) (hm : X.mg x = some (.ref C))
    (h : ∀ (kV doc pm : Value) (an : Option Addr) (cdv ct : Value) (us : List Value), us.length = ps.length → bindArgs (PySem.W.fnOf q qual params body scope .none kV doc pm an cdv ct) ⟨us, []⟩ = pure (ps.zip us))
    (ha : PA X (e :: es) t) (hdb : (x == ("__debug__" : Str)) = false := by decide) (he : starEach (e :: es) X.env = (false, eval e X.env) :: starEach es X.env := by rfl) (hpl : (backTo pos (starEach es X.env)).any (·.1) = false := by rfl) :
    PE X (.Call (.Name x p) (e :: es) [] pos) (tMake C sp [] E0 t) := by
  obtain ⟨fd, G, D⟩ := F.ex
  exact pe_make M G hr hg hm (D.bindsN h) .nil pass0 ha hdb he hpl
end
def pk0 {γ : Type} (f : Option γ) : Unit → Option γ := fun _ => f
def pk1 {a γ : Type} (f : a → Option γ) : a × Unit → Option γ := fun p => f p.1
def pk2 {a b γ : Type} (f : a → b → Option γ) : a × b × Unit → Option γ := fun p => f p.1 p.2.1
def pk3 {a b c γ : Type} (f : a → b → c → Option γ) : a × b × c × Unit → Option γ := fun p => f p.1 p.2.1 p.2.2.1
def pk4 {a b c d γ : Type} (f : a → b → c → d → Option γ) : a × b × c × d × Unit → Option γ := fun p => f p.1 p.2.1 p.2.2.1 p.2.2.2.1
def pk5 {a b c d e γ : Type} (f : a → b → c → d → e → Option γ) : a × b × c × d × e × Unit → Option γ := fun p => f p.1 p.2.1 p.2.2.1 p.2.2.2.1 p.2.2.2.2.1
def pk6 {a b c d e g γ : Type} (f : a → b → c → d → e → g → Option γ) : a × b × c × d × e × g × Unit → Option γ := fun p => f p.1 p.2.1 p.2.2.1 p.2.2.2.1 p.2.2.2.2.1 p.2.2.2.2.2.1
def pk7 {a b c d e g h γ : Type} (f : a → b → c → d → e → g → h → Option γ) : a × b × c × d × e × g × h × Unit → Option γ := fun p => f p.1 p.2.1 p.2.2.1 p.2.2.2.1 p.2.2.2.2.1 p.2.2.2.2.2.1 p.2.2.2.2.2.2.1
@[simp] theorem pk1_ {a γ : Type} (f : a → Option γ) (x : a) : pk1 f (x, ()) = f x := rfl
@[simp] theorem pk2_ {a b γ : Type} (f : a → b → Option γ) (x : a) (y : b) : pk2 f (x, y, ()) = f x y := rfl
@[simp] theorem pk3_ {a b c γ : Type} (f : a → b → c → Option γ) (x : a) (y : b) (z : c) : pk3 f (x, y, z, ()) = f x y z := rfl
@[simp] theorem pk4_ {a b c d γ : Type} (f : a → b → c → d → Option γ) (x : a) (y : b) (z : c) (u : d) : pk4 f (x, y, z, u, ()) = f x y z u := rfl
@[simp] theorem pk5_ {a b c d e γ : Type} (f : a → b → c → d → e → Option γ) (x : a) (y : b) (z : c) (u : d) (v : e) : pk5 f (x, y, z, u, v, ()) = f x y z u v := rfl
@[simp] theorem pk6_ {a b c d e g γ : Type} (f : a → b → c → d → e → g → Option γ) (x : a) (y : b) (z : c) (u : d) (v : e) (w : g) : pk6 f (x, y, z, u, v, w, ()) = f x y z u v w := rfl
@[simp] theorem pk7_ {a b c d e g h γ : Type} (f : a → b → c → d → e → g → h → Option γ) (x : a) (y : b) (z : c) (u : d) (v : e) (w : g) (s : h) : pk7 f (x, y, z, u, v, w, s, ()) = f x y z u v w s := rfl
section
variable {α β γ δ ι : Type} {te ta tb tc : TE} {Γ : TP.Env} {T : Ty α} {U : Ty β} {W : Ty γ} {K : PySem.W.Frag} {X : Cx}
def mAnd2 (x y : Int) : Option Int := some (Builtin.bitAnd x y)
theorem opv_and : OpV (rI0 fun i j => .int (Builtin.bitAnd i j)) tyI tyI tyI mAnd2 := opv_I0
def tTru (K : PySem.W.Frag) (ta : TE) : L2.TT := fun σ H Q => ta σ H fun x H' => ∃ k, TruV K x H' k ∧ Q k H'
theorem pt_tru {a : Expr} (ha : PE X a ta) (he : ∀ whole, isTrue a X.env whole = (do let v ← whole; standAt a.pos; holding [v] (truthy v)) := by intro _; rfl) : PT X a (tTru X.K ta) := pt_truth ha he
theorem evt_truI {m : Option Int} (h : Ev ta Γ tyI m) : EvT (tTru K ta) Γ (m.bind fun x => some (!decide (x = 0))) := fun x e H0 G H σ S Q q => by
  obtain ⟨i, ea, e⟩ := bind_inv e
  cases e
  refine h i ea H0 G H σ S _ fun v G' H' s r => ?_
  cases r
  refine ⟨_, ?_, q G' H' s⟩
  show _ = (i != 0)
  by_cases c : i = 0 <;> simp [c]
theorem evt_truB {m : Option Bool} (h : Ev ta Γ tyB m) : EvT (tTru K ta) Γ m := fun x e H0 G H σ S Q q => by
  refine h x e H0 G H σ S _ fun v G' H' s r => ?_
  cases r
  exact ⟨_, rfl, q G' H' s⟩
theorem opv_isB : OpV (fun x y H Q => ∃ a b, x = .bl a ∧ y = .bl b ∧ Q (.bl (decide (a = b))) H) tyB tyB tyB mEq := fun x y z e G H v u eG rv ru Q q => by
  cases e; cases rv; cases ru
  exact ⟨_, _, rfl, rfl, q _ G H (Stp.refl eG) rfl⟩
def SomeT (T : Ty α) : Prop := ∀ G v x, T.rp G v x → v ≠ .non
theorem some_I : SomeT tyI := fun _ _ _ h z => by cases h; cases z
theorem some_B : SomeT tyB := fun _ _ _ h z => by cases h; cases z
theorem some_S : SomeT tyS := fun _ _ _ h z => by cases h; cases z
theorem some_L : SomeT (tyL T) := fun _ _ _ ⟨_, _, e, _⟩ z => by rw [e] at z; cases z
theorem some_U : SomeT (tyU K T) := fun _ _ _ ⟨_, _, e, _⟩ z => by rw [e] at z; cases z
theorem some_H {A : ATy β} : SomeT (tyH K A) := fun _ _ _ ⟨_, _, e, _⟩ z => by rw [e] at z; cases z
theorem some_HL {A : ATy β} : SomeT (tyHL A) := fun _ _ _ ⟨_, _, e, _⟩ z => by rw [e] at z; cases z
theorem some_O {C : Addr} {F : FTy β} : SomeT (tyO C F) := fun _ _ _ ⟨_, _, _, e, _⟩ z => by rw [e] at z; cases z
theorem opv_isNf (h : SomeT T) : OpV (fun x y H Q => y = .non ∧ Q (.bl (decide (x = .non))) H) T tyN tyB (fun _ _ => some false) := fun x y z e G H v u eG rv ru Q q => by
  cases e; cases ru
  exact ⟨rfl, q _ G H (Stp.refl eG) (by rw [decide_eq_false (h _ _ _ rv)]; rfl)⟩
theorem opv_isNt : OpV (fun x y H Q => y = .non ∧ Q (.bl (decide (x = .non))) H) tyN tyN tyB (fun _ _ => some true) := fun x y z e G H v u eG rv ru Q q => by
  cases e; cases ru; cases rv
  exact ⟨rfl, q _ G H (Stp.refl eG) rfl⟩
theorem opv_notNf (h : SomeT T) : OpV (fun x y H Q => y = .non ∧ Q (.bl (!decide (x = .non))) H) T tyN tyB (fun _ _ => some true) := fun x y z e G H v u eG rv ru Q q => by
  cases e; cases ru
  exact ⟨rfl, q _ G H (Stp.refl eG) (by rw [decide_eq_false (h _ _ _ rv)]; rfl)⟩
theorem opv_notNt : OpV (fun x y H Q => y = .non ∧ Q (.bl (!decide (x = .non))) H) tyN tyN tyB (fun _ _ => some false) := fun x y z e G H v u eG rv ru Q q => by
  cases e; cases ru; cases rv
  exact ⟨rfl, q _ G H (Stp.refl eG) rfl⟩
end
end TP
set_option maxHeartbeats 1000000
namespace TP
open PySem PySem.Spec PyProof.Rows L2
section
variable {α β γ δ ι : Type} {te ta tb tc : TE} {Γ : TP.Env} {T : Ty α} {U : Ty β} {W : Ty γ} {K : PySem.W.Frag} {X : Cx} {env : β → TP.Env} {rest : TS}
theorem ev_fldOb' {i j : Nat} {b C : Addr} {fs : List FV} {f : Str} {x : α} (ns : List Str) (hi : Γ[i]? = some (.ob b C fs)) (hc : Cls K C) (hn : NoAttr K C f) (hm : fs.map (·.n) = ns) (hj : fs[j]? = some ⟨f, T, x⟩) (hl : lookN ns f = some j) : Ev (tFld K (tVar i) f) Γ T (some x) := ev_fldOb hi hc hn hj (by rw [hm]; exact hl)
theorem sd_fld' {W : Rt γ} {i : Nat} {a C : Addr} {fs : List FV} {f : Str} {m : Option α} {g : α → Option (Fl γ β)} (ns : List Str) (hi : Γ[i]? = some (.ob a C fs)) (hc : Cls K C) (hn : NoAttr K C f) (hm : fs.map (·.n) = ns) (hl : lookN ns f = none) (hz : ns.length < 1000) (h : Ev te Γ T m)
    (hr : ∀ x, Sd rest (Γ.set i (.ob a C (fs ++ [⟨f, T, x⟩]))) W env (g x)) : Sd (tSeq (sFld K (tVar i) te f) rest) Γ W env (m.bind g) := sd_fld hi hc hn (by rw [hm]; exact hl) (by rw [← List.length_map (f := fun v : FV => v.n), hm]; exact hz) h hr
theorem sd_any {W : Rt γ} {ts : TS} : Sd ts Γ W env none := fun o e => by cases e
theorem pe_gint {x : Str} {i : Int} {pos : Pos} (hg : Gl X x) (h : ∃ t, X.mg x = some (.int i t)) (hd : (x == ("__debug__" : Str)) = false := by decide) : PE X (.Name x pos) (tC (.int i)) := by
  obtain ⟨t, h⟩ := h
  exact pe_glob hg h ⟨t, rfl⟩ hd
theorem sd_end {W : Rt γ} {n : Nat} (h : Γ.length = n) : Sd tNext Γ W (noE n) (some (.nx ())) := fun o e H0 G0 G H σ S s D k => by
  cases e
  refine k σ G H (S.wk ?_) s (Ex.refl _)
  show Wk Γ (List.replicate n .no)
  subst h
  clear S s k
  induction Γ with
  | nil => exact .nil
  | cons t Γ ih => rw [List.length_cons, List.replicate_succ]; exact .drop ih
end
theorem bo_len : bootBuiltins "len" = some (.builtin "len") := by decide +kernel
theorem bo_max : bootBuiltins "max" = some (.builtin "max") := by decide +kernel
theorem bo_min : bootBuiltins "min" = some (.builtin "min") := by decide +kernel
theorem bo_sum : bootBuiltins "sum" = some (.builtin "sum") := by decide +kernel
theorem bo_sorted : bootBuiltins "sorted" = some (.builtin "sorted") := by decide +kernel
theorem bo_isinstance : bootBuiltins "isinstance" = some (.builtin "isinstance") := by decide +kernel
theorem bo_all : bootBuiltins "all" = some (.builtin "all") := by decide +kernel
theorem bo_int : bootBuiltins "int" = some (.type "int") := by decide +kernel
theorem bo_bool : bootBuiltins "bool" = some (.type "bool") := by decide +kernel
theorem bo_str : bootBuiltins "str" = some (.type "str") := by decide +kernel
theorem bo_list : bootBuiltins "list" = some (.type "list") := by decide +kernel
theorem bo_tuple : bootBuiltins "tuple" = some (.type "tuple") := by decide +kernel
def spLawT (K : PySem.W.Frag) (f : List Int × Unit → Option Bool) : Sp := spOf (aC (tyLs K tyI) aN) tyB f
theorem law_end {l : PySem.W.OpenLaw} {q : Program} {loose : List Str} {ft : List Ft} {fn : List He5.DefA} {XP : (Str → Option Value) → Heap → Prop} {YP : World → Heap → Prop} {d : DefRec} {k n : Nat} {x : Str} {f : List Int × Unit → Option Bool} {qual : Str} {params : Arguments} {body : List Stmt} {scope : Scope}
    (hn : l.most = some n) (hn2 : n ≤ sizeLine) (hdf : d.params.defaults = []) (hr : Room k callerA) (hd : d.name = qual) (hY : ∀ w h, YP w h → ∃ K : PySem.W.Frag, K.In h ∧ SaysP ft fn K)
    (hb : ∀ (kV doc pm : Value) (an : Option Addr) (cdv ct : Value) (us : List Value), us.length = 1 → bindArgs (PySem.W.fnOf qual qual params body scope .none kV doc pm an cdv ct) ⟨us, []⟩ = pure ([x].zip us))
    (hg : ∀ {K : PySem.W.Frag} {mg : Str → Option Value}, Cn ft fn K mg → mg qual = some (.ref (He.ga K qual)) ∧ ∃ fd, FunD K qual qual params body scope [] [] (He.ga K qual) fd)
    (F : ∀ (w : World) (K : PySem.W.Frag) (mg : Str → Option Value) (base : Heap), Cn ft fn K mg → Ok l.prog w K mg base k (He.ga K qual) [x] (spLawT K f))
    (hf : ∀ ns : List Int, ns.length ≤ n → f (ns, ()) = some true) :
    PySem.W.WalkO q loose XP YP l.row.toRowW d [] (fun f vs => PySem.call f vs) := by
  refine L2.walk_ofE (l := l) (n := n) (k := k) (x := x) (CX := CX0) hn hn2 hdf hr ?_ (fun _ _ _ _ z => z)
  intro w mg fa h Y G hmg0
  obtain ⟨K, KX, c⟩ := hY w h Y
  have T : Cn ft fn K mg := ⟨c, h, KX, G⟩
  obtain ⟨hm, fd, FD⟩ := hg T
  have e : Value.ref fa = .ref (He.ga K qual) := by
    rw [hd] at hmg0
    exact Option.some.inj (hmg0.symm.trans hm)
  cases e
  refine ⟨K, fd, spLawT K f, KX, fun s u => FD.bindsA (ps := [x]) hb s [u] rfl, fun H a ns hl _ hS => ?_, fun base _ _ => by
    obtain ⟨fd', h1, _, h2⟩ := (F w K mg base T).ex
    rw [(FunD.lk FD).uniq h2]
    exact h1⟩
  refine ⟨(ns, ()), true, H, hf ns hl, Ex.refl _, ⟨.ref a, [], rfl, ⟨a, _, rfl, hS, L2.ints_all2⟩, rfl⟩, fun v G' H' s rv => rv⟩
end TP
set_option maxHeartbeats 1000000
namespace TP
open PySem PySem.Spec PyProof.Rows L2
section
variable {α β γ δ ι : Type} {te ta tb tc : TE} {Γ : TP.Env} {T : Ty α} {U : Ty β} {W : Ty γ} {K : PySem.W.Frag} {X : Cx}
def tNoT : L2.TT := fun _ _ _ => False
theorem pw_never {e : Expr} : PW X e tNoT := ⟨fun _ _ _ _ _ _ _ h => h.elim⟩
theorem evt_never : EvT tNoT Γ none := fun _ e => by cases e
theorem pe_tyc {x : Str} {n : String} {pos : Pos} (hg : Gl X x) (hm : X.mg x = none) (hv : bootBuiltins x = some (.type n)) (hn : x ≠ "__name__" := by decide) (hd : (x == ("__debug__" : Str)) = false := by decide) : PE X (.Name x pos) (tC (.ty n)) := pe_bltn hg hm hv (show RelV (.ty n) (.type n) from rfl) hn hd
end
section
variable {a b c d e g h γ : Type}
theorem pk0_app (f : Option γ) (p : Unit) : pk0 f p = f := rfl
theorem pk1_app (f : a → Option γ) (p : a × Unit) : pk1 f p = f p.1 := rfl
theorem pk2_app (f : a → b → Option γ) (p : a × b × Unit) : pk2 f p = f p.1 p.2.1 := rfl
theorem pk3_app (f : a → b → c → Option γ) (p : a × b × c × Unit) : pk3 f p = f p.1 p.2.1 p.2.2.1 := rfl
theorem pk4_app (f : a → b → c → d → Option γ) (p : a × b × c × d × Unit) : pk4 f p = f p.1 p.2.1 p.2.2.1 p.2.2.2.1 := rfl
theorem pk5_app (f : a → b → c → d → e → Option γ) (p : a × b × c × d × e × Unit) : pk5 f p = f p.1 p.2.1 p.2.2.1 p.2.2.2.1 p.2.2.2.2.1 := rfl
theorem pk6_app (f : a → b → c → d → e → g → Option γ) (p : a × b × c × d × e × g × Unit) : pk6 f p = f p.1 p.2.1 p.2.2.1 p.2.2.2.1 p.2.2.2.2.1 p.2.2.2.2.2.1 := rfl
theorem pk7_app (f : a → b → c → d → e → g → h → Option γ) (p : a × b × c × d × e × g × h × Unit) : pk7 f p = f p.1 p.2.1 p.2.2.1 p.2.2.2.1 p.2.2.2.2.1 p.2.2.2.2.2.1 p.2.2.2.2.2.2.1 := rfl
end
end TP
set_option maxHeartbeats 1000000
namespace TP
open PySem L2
section
variable {α β γ δ ι κ : Type}
@[simp] theorem bind_some' (x : α) (f : α → Option β) : (some x).bind f = f x := rfl
@[simp] theorem bind_none' (f : α → Option β) : (none : Option α).bind f = none := rfl
@[simp] theorem bind_ite (c : Prop) [Decidable c] (a b : Option α) (f : α → Option β) : (if c then a else b).bind f = if c then a.bind f else b.bind f := by split <;> rfl
@[simp] theorem thenF_ite (c : Prop) [Decidable c] (a b : Option (Fl γ δ)) (f : δ → Option (Fl γ β)) : thenF (if c then a else b) f = if c then thenF a f else thenF b f := by split <;> rfl
@[simp] theorem thenF_none (f : δ → Option (Fl γ β)) : thenF (none : Option (Fl γ δ)) f = none := rfl
@[simp] theorem outF_ite (c : Prop) [Decidable c] (a b : Option (Fl γ δ)) : outF (if c then a else b) = if c then outF a else outF b := by split <;> rfl
@[simp] theorem outF_nx (b : δ) : outF (some (.nx b) : Option (Fl γ δ)) = none := rfl
@[simp] theorem outI_ite {γ : Type} (c : Prop) [Decidable c] (a b : Option (Fl Unit γ)) : outI (if c then a else b) = if c then outI a else outI b := by split <;> rfl
@[simp] theorem thenF_assoc {ε : Type} (a : Option (Fl γ δ)) (f : δ → Option (Fl γ ε)) (g : ε → Option (Fl γ β)) : thenF (thenF a f) g = thenF a (fun b => thenF (f b) g) := by
  cases a with
  | none => rfl
  | some o => cases o <;> rfl
@[simp] theorem thenF_nxid (a : Option (Fl γ δ)) : thenF a (fun b => some (.nx b)) = a := by
  cases a with
  | none => rfl
  | some o => cases o <;> rfl
@[simp] theorem mAdd_ (x y : Int) : mAdd x y = some (x + y) := rfl
@[simp] theorem mSub_ (x y : Int) : mSub x y = some (x - y) := rfl
@[simp] theorem mLt_ (x y : Int) : mLt x y = some (decide (x < y)) := rfl
@[simp] theorem mLe_ (x y : Int) : mLe x y = some (decide (x ≤ y)) := rfl
@[simp] theorem mGt_ (x y : Int) : mGt x y = some (decide (y < x)) := rfl
@[simp] theorem mGe_ (x y : Int) : mGe x y = some (decide (y ≤ x)) := rfl
@[simp] theorem mEq_ [DecidableEq α] (x y : α) : mEq x y = some (decide (x = y)) := rfl
@[simp] theorem mNe_ [DecidableEq α] (x y : α) : mNe x y = some (!decide (x = y)) := rfl
@[simp] theorem mIn_ (x : Int) (xs : List Int) : mIn x xs = some (decide (x ∈ xs)) := rfl
@[simp] theorem mNi_ (x : Int) (xs : List Int) : mNi x xs = some (!decide (x ∈ xs)) := rfl
@[simp] theorem mLen_ (x : List α) : mLen (x, ()) = some (x.length : Int) := rfl
@[simp] theorem mId_ (x : α) : mId (x, ()) = some x := rfl
@[simp] theorem mIntB_ (b : Bool) : mIntB (b, ()) = some (if b then 1 else 0) := rfl
@[simp] theorem mMax2_ (x y : Int) : mMax2 (x, y, ()) = some (max x y) := by
  show some (if y > x then y else x) = _
  congr 1
  by_cases h : y > x
  · rw [if_pos h, Int.max_eq_right (Int.le_of_lt h)]
  · rw [if_neg h, Int.max_eq_left (by omega)]
@[simp] theorem mMin2_ (x y : Int) : mMin2 (x, y, ()) = some (min x y) := by
  show some (if y < x then y else x) = _
  congr 1
  by_cases h : y < x
  · rw [if_pos h, Int.min_eq_right (Int.le_of_lt h)]
  · rw [if_neg h, Int.min_eq_left (by omega)]
@[simp] theorem mSum_ (x : List Int) : mSum (x, ()) = some x.sum := rfl
@[simp] theorem mSortI_ (x : List Int) : mSortI (x, ()) = some (isort x) := rfl
@[simp] theorem mCon_ (b : Bool) (x : α) : mCon b x = some b := rfl
@[simp] theorem mEnum_ (x : List α) : mEnum (x, ()) = some (enumL 0 x) := rfl
theorem mMul_r {x y : Int} (h : -(2 ^ 64) < y ∧ y < 2 ^ 64) : mMul x y = some (x * y) := by
  unfold mMul gd
  rw [if_pos (show gMul x y = true from Bool.or_eq_true_iff.mpr (Or.inr (gS_of (by omega) (by omega))))]
theorem mMul_l {x y : Int} (h : -(2 ^ 64) < x ∧ x < 2 ^ 64) : mMul x y = some (x * y) := by
  unfold mMul gd
  rw [if_pos (show gMul x y = true from Bool.or_eq_true_iff.mpr (Or.inl (gS_of (by omega) (by omega))))]
theorem mDiv_ {x y : Int} (h : 0 < y ∧ y < 1073741824) : mDiv x y = some (x / y) := by
  unfold mDiv gd
  rw [if_pos (show gDiv x y = true from Bool.and_eq_true_iff.mpr ⟨gP_of h.1, gS_of (by omega) (by omega)⟩)]
theorem mMod_ {x y : Int} (h : 0 < y) : mMod x y = some (x % y) := by
  unfold mMod gd
  rw [if_pos (show gMod x y = true from gP_of h)]
theorem gR_of {i : Int} (h : -(2 ^ 62) < i) (k : i < 2 ^ 62) : gR i = true := gS_of (n := 4611686018427387903) (by omega) (by omega)
theorem mRng1_ {n : Int} (h : -(2 ^ 62) < n ∧ n < 2 ^ 62) : mRng1 (n, ()) = some (rngL 0 n.toNat) := by
  unfold mRng1 gd
  rw [if_pos (show gR n = true from gR_of h.1 h.2)]
theorem mRng1_s {n : Int} (h : 0 ≤ n) (k : n ≤ 1000000) : mRng1 (n, ()) = some (rngL 0 n.toNat) := mRng1_ ⟨by omega, by omega⟩
theorem mRng1_n {n : Nat} (k : n ≤ lim) : mRng1 ((n : Int), ()) = some (rngL 0 n) := mRng1_s (n := (n : Int)) (by omega) (by unfold lim at k; omega)
theorem mRng2_ {a b : Int} (h : -(2 ^ 62) < a ∧ a < 2 ^ 62) (k : -(2 ^ 62) < b ∧ b < 2 ^ 62) : mRng2 (a, b, ()) = some (rngL a (b - a).toNat) := by
  unfold mRng2 gd
  rw [if_pos (show (gR a && gR b) = true from Bool.and_eq_true_iff.mpr ⟨gR_of h.1 h.2, gR_of k.1 k.2⟩)]
theorem mCat_ {x y : List α} (h : x.length + y.length ≤ lim) : mCat x y = some (x ++ y) := by
  unfold mCat gd
  rw [if_pos (decide_eq_true h)]
theorem lmt_ {x : List α} (h : x.length ≤ lim) : lmt (some x) = some x := by
  unfold lmt
  show gd _ x = _
  unfold gd
  rw [if_pos (decide_eq_true h)]
@[simp] theorem lmt1 (x : α) : lmt (some [x]) = some [x] := rfl
@[simp] theorem lmt2 (x y : α) : lmt (some [x, y]) = some [x, y] := rfl
@[simp] theorem lmt3 (x y z : α) : lmt (some [x, y, z]) = some [x, y, z] := rfl
theorem atI_ {xs : List α} {i : Int} (h : 0 ≤ i ∧ i < xs.length) : ∃ x, atI xs i = some x ∧ xs[i.toNat]? = some x := by
  have hl : i.toNat < xs.length := by omega
  refine ⟨xs[i.toNat], ?_, List.getElem?_eq_getElem hl⟩
  unfold atI ixN
  rw [if_pos h.1, if_pos (by omega)]
  exact List.getElem?_eq_getElem hl
theorem atI_get {xs : List α} {i : Int} (h0 : 0 ≤ i) (h : i < xs.length) : atI xs i = some (xs[i.toNat]'(by omega)) := by
  unfold atI ixN
  rw [if_pos h0, if_pos (by omega)]
  exact List.getElem?_eq_getElem (by omega)
theorem mSet_ {xs : List α} {i : Int} {x : α} (h : 0 ≤ i ∧ i < xs.length) : mSet xs i x = some (xs.set i.toNat x) := by
  unfold mSet ixN
  rw [if_pos h.1, if_pos (by omega)]
  rfl
theorem mMaxL_ {xs : List Int} (h : xs ≠ []) : ∃ m, mMaxL (xs, ()) = some m ∧ m ∈ xs ∧ ∀ x ∈ xs, x ≤ m := by
  cases xs with
  | nil => exact absurd rfl h
  | cons x xs => exact ⟨_, rfl, foldl_max_mem xs x, fun y hy => foldl_max_ge xs x y hy⟩
theorem mMinL_ {xs : List Int} (h : xs ≠ []) : ∃ m, mMinL (xs, ()) = some m ∧ m ∈ xs ∧ ∀ x ∈ xs, m ≤ x := by
  cases xs with
  | nil => exact absurd rfl h
  | cons x xs => exact ⟨_, rfl, foldl_min_mem xs x, fun y hy => foldl_min_le xs x y hy⟩
def maxZ : List Int → Int
  | [] => 0
  | x :: xs => xs.foldl max x
def minZ : List Int → Int
  | [] => 0
  | x :: xs => xs.foldl min x
theorem mMaxL_eq {xs : List Int} (h : xs ≠ []) : mMaxL (xs, ()) = some (maxZ xs) := by
  cases xs with
  | nil => exact absurd rfl h
  | cons x xs => rfl
theorem mMinL_eq {xs : List Int} (h : xs ≠ []) : mMinL (xs, ()) = some (minZ xs) := by
  cases xs with
  | nil => exact absurd rfl h
  | cons x xs => rfl
theorem maxZ_mem {xs : List Int} (h : xs ≠ []) : maxZ xs ∈ xs := by
  cases xs with
  | nil => exact absurd rfl h
  | cons x xs => exact foldl_max_mem xs x
theorem le_maxZ {xs : List Int} {y : Int} (h : y ∈ xs) : y ≤ maxZ xs := by
  cases xs with
  | nil => cases h
  | cons x xs => exact foldl_max_ge xs x y h
theorem minZ_mem {xs : List Int} (h : xs ≠ []) : minZ xs ∈ xs := by
  cases xs with
  | nil => exact absurd rfl h
  | cons x xs => exact foldl_min_mem xs x
theorem minZ_le {xs : List Int} {y : Int} (h : y ∈ xs) : minZ xs ≤ y := by
  cases xs with
  | nil => cases h
  | cons x xs => exact foldl_min_le xs x y h
theorem maxZ_uniq {xs : List Int} {m : Int} (h : m ∈ xs) (k : ∀ x ∈ xs, x ≤ m) : maxZ xs = m := by
  have hn : xs ≠ [] := fun e => by rw [e] at h; cases h
  exact Int.le_antisymm (k _ (maxZ_mem hn)) (le_maxZ h)
theorem minZ_uniq {xs : List Int} {m : Int} (h : m ∈ xs) (k : ∀ x ∈ xs, m ≤ x) : minZ xs = m := by
  have hn : xs ≠ [] := fun e => by rw [e] at h; cases h
  exact Int.le_antisymm (minZ_le h) (k _ (minZ_mem hn))
theorem lcGo_eq {p : ι → Option Bool} {f : ι → Option α} {P : ι → Bool} {F : ι → α} : ∀ {xs : List ι}, (∀ x ∈ xs, p x = some (P x)) → (∀ x ∈ xs, P x = true → f x = some (F x)) → lcGo p f xs = some ((xs.filter P).map F)
  | [], _, _ => rfl
  | x :: xs, hp, hf => by
    have ih := lcGo_eq (xs := xs) (fun y hy => hp y (List.mem_cons_of_mem _ hy)) (fun y hy => hf y (List.mem_cons_of_mem _ hy))
    unfold lcGo
    rw [hp x List.mem_cons_self]
    show (if P x = true then _ else _) = _
    by_cases c : P x = true
    · rw [if_pos c, hf x List.mem_cons_self c, ih, List.filter_cons_of_pos c]
      rfl
    · rw [if_neg c, ih, List.filter_cons_of_neg c]
theorem lcM_eq {p : ι → Option Bool} {f : ι → Option α} {xs : List ι} (P : ι → Bool) (F : ι → α) (hl : xs.length ≤ lim) (hp : ∀ x ∈ xs, p x = some (P x)) (hf : ∀ x ∈ xs, P x = true → f x = some (F x)) : lcM p f xs = some ((xs.filter P).map F) := by
  unfold lcM
  rw [if_pos hl, lcGo_eq hp hf]
theorem lcM_map {f : ι → Option α} {xs : List ι} (F : ι → α) (hl : xs.length ≤ lim) (hf : ∀ x ∈ xs, f x = some (F x)) : lcM (fun _ => some true) f xs = some (xs.map F) := by
  rw [lcM_eq (fun _ => true) F hl (fun _ _ => rfl) (fun x hx _ => hf x hx), List.filter_eq_self.mpr fun _ _ => rfl]
theorem lcGo_ex {f : ι → Option α} {R : ι → α → Prop} : ∀ {xs : List ι}, (∀ x ∈ xs, ∃ y, f x = some y ∧ R x y) → ∃ ys, lcGo (fun _ => some true) f xs = some ys ∧ ys.length = xs.length ∧ ∀ (i : Nat) x y, xs[i]? = some x → ys[i]? = some y → R x y
  | [], _ => ⟨[], rfl, rfl, fun i x y h => by simp at h⟩
  | x :: xs, h => by
    obtain ⟨y, e, r⟩ := h x List.mem_cons_self
    obtain ⟨ys, e2, hl, hr⟩ := lcGo_ex (xs := xs) (R := R) fun z hz => h z (List.mem_cons_of_mem _ hz)
    refine ⟨y :: ys, ?_, by simp [hl], fun i u v hu hv => ?_⟩
    · unfold lcGo
      rw [bind_some', if_pos rfl, e, e2]; rfl
    · cases i with
      | zero =>
        have e1 : x = u := by simpa using hu
        have e2 : y = v := by simpa using hv
        rw [← e1, ← e2]; exact r
      | succ i => exact hr i u v (by simpa using hu) (by simpa using hv)
theorem lcM_ex {f : ι → Option α} {R : ι → α → Prop} {xs : List ι} (hl : xs.length ≤ lim) (h : ∀ x ∈ xs, ∃ y, f x = some y ∧ R x y) : ∃ ys, lcM (fun _ => some true) f xs = some ys ∧ ys.length = xs.length ∧ ∀ (i : Nat) x y, xs[i]? = some x → ys[i]? = some y → R x y := by
  unfold lcM
  rw [if_pos hl]
  exact lcGo_ex h
theorem mem_of_get2 {xs : List ι} {ys : List α} {R : ι → α → Prop} (hl : ys.length = xs.length) (h : ∀ (i : Nat) x y, xs[i]? = some x → ys[i]? = some y → R x y) {y : α} (hy : y ∈ ys) : ∃ x ∈ xs, R x y := by
  obtain ⟨i, hi, e⟩ := List.mem_iff_getElem.mp hy
  have hx : i < xs.length := by omega
  exact ⟨xs[i], List.getElem_mem hx, h i _ _ (List.getElem?_eq_getElem hx) (by rw [List.getElem?_eq_getElem hi, e])⟩
theorem forF_inv {step : δ → ι → Option (Fl γ δ)} (I : List ι → δ → Prop) {xs : List ι} {b0 : δ} (h0 : I [] b0) (hs : ∀ pre x b, x ∈ xs → I pre b → (∃ post, xs = pre ++ x :: post) → ∃ b', step b x = some (.nx b') ∧ I (pre ++ [x]) b') : ∃ b, forF step xs b0 = some (.nx b) ∧ I xs b := by
  have key : ∀ (post pre : List ι) (b : δ), xs = pre ++ post → I pre b → ∃ b', forF step post b = some (.nx b') ∧ I xs b' := by
    intro post
    induction post with
    | nil => intro pre b e hI; rw [List.append_nil] at e; exact ⟨b, rfl, by rw [e]; exact hI⟩
    | cons x post ih =>
      intro pre b e hI
      obtain ⟨b1, e1, I1⟩ := hs pre x b (by rw [e]; simp) hI ⟨post, e⟩
      obtain ⟨b2, e2, I2⟩ := ih (pre ++ [x]) b1 (by rw [e]; simp) I1
      refine ⟨b2, ?_, I2⟩
      unfold forF
      rw [e1]
      exact e2
  exact key xs [] b0 rfl h0
theorem out_forF_inv {step : δ → ι → Option (Fl γ δ)} {g : δ → Option (Fl γ β)} {P : γ → Prop} (I : List ι → δ → Prop) {xs : List ι} {b0 : δ} (h0 : I [] b0) (hs : ∀ pre x b, x ∈ xs → I pre b → (∃ post, xs = pre ++ x :: post) → ∃ b', step b x = some (.nx b') ∧ I (pre ++ [x]) b') (hg : ∀ b, I xs b → ∃ r, outF (g b) = some r ∧ P r) : ∃ r, outF (thenF (forF step xs b0) g) = some r ∧ P r := by
  obtain ⟨b, e, hb⟩ := forF_inv I h0 hs
  rw [e]
  exact hg b hb
theorem forF_find {step : Unit → ι → Option (Fl γ Unit)} {r : γ} (P : ι → Bool) : ∀ {xs : List ι}, (∀ x ∈ xs, step () x = if P x = true then some (.ret r) else some (.nx ())) → forF step xs () = if xs.any P = true then some (.ret r) else some (.nx ())
  | [], _ => rfl
  | x :: xs, h => by
    have ih := forF_find (r := r) P (xs := xs) fun y hy => h y (List.mem_cons_of_mem _ hy)
    unfold forF
    rw [h x List.mem_cons_self]
    by_cases c : P x = true
    · rw [if_pos c, List.any_cons, c]; rfl
    · rw [if_neg c, List.any_cons]
      have : P x = false := by simpa using c
      rw [this, Bool.false_or]
      exact ih
theorem forF_pass {step : Unit → ι → Option (Fl γ Unit)} {xs : List ι} (h : ∀ x ∈ xs, step () x = some (.nx ())) : forF step xs () = some (.nx ()) := by
  induction xs with
  | nil => rfl
  | cons x xs ih =>
    unfold forF
    rw [h x List.mem_cons_self]
    exact ih fun y hy => h y (List.mem_cons_of_mem _ hy)
theorem forF_fold {step : δ → ι → Option (Fl γ δ)} (g : δ → ι → δ) : ∀ {xs : List ι} {b : δ}, (∀ x ∈ xs, ∀ b, step b x = some (.nx (g b x))) → forF step xs b = some (.nx (xs.foldl g b))
  | [], _, _ => rfl
  | x :: xs, b, h => by
    unfold forF
    rw [h x List.mem_cons_self]
    exact forF_fold g fun y hy => h y (List.mem_cons_of_mem _ hy)
theorem rngL_mem {lo x : Int} {n : Nat} : x ∈ rngL lo n ↔ lo ≤ x ∧ x < lo + n := by
  unfold rngL
  rw [List.mem_map]
  constructor
  · rintro ⟨i, hi, rfl⟩
    have := List.mem_range.mp hi
    omega
  · rintro ⟨h1, h2⟩
    exact ⟨(x - lo).toNat, List.mem_range.mpr (by omega), by omega⟩
theorem rngL_nodup (lo : Int) (n : Nat) : (rngL lo n).Nodup := by
  unfold rngL
  exact List.Pairwise.map _ (fun a b h => by omega) List.nodup_range
theorem rngL_pw (lo : Int) (n : Nat) : (rngL lo n).Pairwise (· < ·) := by
  unfold rngL
  rw [List.pairwise_map]
  exact List.pairwise_lt_range.imp fun h => by omega
end
end TP
set_option maxHeartbeats 1000000
namespace TP
open PySem PySem.Spec PyProof.Rows L2
section
variable {α β γ δ ι : Type} {te ta tb tc : TE} {Γ : TP.Env} {T : Ty α} {U : Ty β} {W : Ty γ} {K : PySem.W.Frag} {X : Cx}
theorem cr_min3 (hc : X.calm = true) : CallR X (.builtin "min") (rNuC3 nuMin3) := call_min3Nu hc
theorem cr_max3 (hc : X.calm = true) : CallR X (.builtin "max") (rNuC3 nuMax3) := call_max3Nu hc
def mMin3 (p : Int × Int × Int × Unit) : Option Int := some (let m := if p.2.1 < p.1 then p.2.1 else p.1; if p.2.2.1 < m then p.2.2.1 else m)
def mMax3 (p : Int × Int × Int × Unit) : Option Int := some (let m := if p.1 < p.2.1 then p.2.1 else p.1; if m < p.2.2.1 then p.2.2.1 else m)
theorem nuMin2_int (a b : Int) : nuMin2 (.int a) (.int b) = some (.int (if b < a then b else a)) := by
  show (some (decide (b < a))).map (fun c => if c = true then V.int b else V.int a) = _
  by_cases h : b < a <;> simp [h]
theorem nuMax2_int (a b : Int) : nuMax2 (.int a) (.int b) = some (.int (if a < b then b else a)) := by
  show (some (decide (a < b))).map (fun c => if c = true then V.int b else V.int a) = _
  by_cases h : a < b <;> simp [h]
theorem cv_min3 : CallV (rNuC3 nuMin3) (aC tyI (aC tyI (aC tyI aN))) tyI mMin3 := fun p z e G H vs eG r Q q => by
  cases e
  obtain ⟨v, r1, rfl, h1, h2⟩ := r
  obtain ⟨u, r2, rfl, h3, h4⟩ := h2
  obtain ⟨w, r3, rfl, h5, h6⟩ := h4
  cases h1; cases h3; cases h5; cases h6
  refine ⟨_, _, _, _, rfl, ?_, q _ G H (Stp.refl eG) rfl⟩
  unfold nuMin3
  rw [nuMin2_int]
  show nuMin2 _ _ = _
  rw [nuMin2_int]
theorem cv_max3 : CallV (rNuC3 nuMax3) (aC tyI (aC tyI (aC tyI aN))) tyI mMax3 := fun p z e G H vs eG r Q q => by
  cases e
  obtain ⟨v, r1, rfl, h1, h2⟩ := r
  obtain ⟨u, r2, rfl, h3, h4⟩ := h2
  obtain ⟨w, r3, rfl, h5, h6⟩ := h4
  cases h1; cases h3; cases h5; cases h6
  refine ⟨_, _, _, _, rfl, ?_, q _ G H (Stp.refl eG) rfl⟩
  unfold nuMax3
  rw [nuMax2_int]
  show nuMax2 _ _ = _
  rw [nuMax2_int]
@[simp] theorem mMin3_ (a b c : Int) : mMin3 (a, b, c, ()) = some (min a (min b c)) := by
  unfold mMin3
  simp only
  congr 1
  omega
@[simp] theorem mMax3_ (a b c : Int) : mMax3 (a, b, c, ()) = some (max a (max b c)) := by
  unfold mMax3
  simp only
  congr 1
  omega
def rng3L (a c : Int) (n : Nat) : List Int := (List.range n).map fun (i : Nat) => a + (i : Int) * c
def gC (c : Int) : Bool := !decide (c = 0) && gS 1073741823 c
def mRng3 (p : Int × Int × Int × Unit) : Option (List Int) := gd (gC p.2.2.1 && Builtin.Range.small p.1 p.2.1 p.2.2.1) (rng3L p.1 p.2.2.1 (Builtin.Range.rangeSize p.1 p.2.1 p.2.2.1).toNat)
theorem rng3_get {a c : Int} {n i : Nat} {x : Int} (h : (rng3L a c n)[i]? = some x) : i < n ∧ x = a + i * c := by
  unfold rng3L at h
  rw [List.getElem?_map] at h
  by_cases hi : i < n
  · rw [List.getElem?_range hi] at h
    cases h
    exact ⟨hi, rfl⟩
  · rw [List.getElem?_eq_none (by rw [List.length_range]; omega)] at h
    cases h
theorem yld_rng3 {G : Hp} {a c : Int} {n : Nat} : Yld G (Itc a c n) tyI (rng3L a c n) := fun i G1 H1 e1 e2 => ⟨fun x ex => by
    obtain ⟨hi, rfl⟩ := rng3_get ex
    exact ⟨hi, fun v H2 y => by obtain ⟨rfl, rfl⟩ := y; exact ⟨G1, Stp.refl e2, rfl⟩⟩, fun hi => by
    have : (rng3L a c n).length = n := by unfold rng3L; rw [List.length_map, List.length_range]
    rw [this] at hi; exact hi⟩
theorem rangeSize_nn (a b c : Int) (hc : c ≠ 0) : 0 ≤ Builtin.Range.rangeSize a b c := by
  unfold Builtin.Range.rangeSize
  split
  · split
    · have := Int.ediv_nonneg (a := b - a - 1) (b := c) (by omega) (by omega); omega
    · omega
  · split
    · have := Int.ediv_nonneg (a := a - b - 1) (b := -c) (by omega) (by omega); omega
    · omega
theorem evi_rng3 {tA : TA} {mp : Option (Int × Int × Int × Unit)} (h : EvA tA Γ (aC tyI (aC tyI (aC tyI aN))) mp) : EvI (iRng3 tA) Γ tyI (mp.bind mRng3) := fun xs e H0 G H σ S R q => by
  obtain ⟨p, ea, ef⟩ := bind_inv e
  obtain ⟨c, rfl⟩ := gd_inv ef
  refine h p ea H0 G H σ S _ fun vs G1 H1 s1 r1 => ?_
  obtain ⟨v, r1, rfl, h1, h2⟩ := r1
  obtain ⟨u, r2, rfl, h3, h4⟩ := h2
  obtain ⟨w, r3, rfl, h5, h6⟩ := h4
  cases h1; cases h3; cases h5; cases h6
  obtain ⟨c1, c2⟩ := Bool.and_eq_true_iff.mp c
  obtain ⟨c3, c4⟩ := Bool.and_eq_true_iff.mp c1
  have c3 : p.2.2.1 ≠ 0 := by simpa using c3
  have c4 := gS_ok c4
  have hn := rangeSize_nn p.1 p.2.1 p.2.2.1 c3
  exact ⟨_, _, _, _, rfl, ⟨c3, by omega, c2, by omega⟩, q _ G1 H1 s1 yld_rng3⟩
end
def tMethK (C : Addr) (m : Str) (n : Nat) (sp : Sp) (gV : List V → List V → List V) (E : XK) (ta : TE) (tk : TA) : TE := fun σ H Q => ta σ H fun x H1 => ∃ a dx fs, x = .ref a ∧ H1 a = some (.ins C dx fs) ∧ fs.lookup m = none ∧ tk σ H1 fun zs H2 => zs.length = n ∧ sp (gV [.ref a] zs) H2 Q E
structure OkK (P : Program) (w : World) (K : PySem.W.Frag) (mg : Str → Option Value) (base : Heap) (k : Nat) (x qual : Str) (params : Arguments) (body : List Stmt) (scope : Scope) (kws : List (Str × V)) (f : Addr) (ps : List Str) (sp : Sp) : Prop where
  ex : ∃ fd, FnOk P w K mg base CX0 k f fd ps sp ∧ FunD K x qual params body scope [] kws f fd
section
variable {α β β' γ δ ι : Type} {te ta tb tc : TE} {Γ : TP.Env} {T : Ty α} {K : PySem.W.Frag} {X : Cx} {P : Program} {w : World} {mg : Str → Option Value} {base : Heap}
theorem pe_methKF {k : Nat} {f C : Addr} {m q qual : Str} {ps ks : List Str} {sp : Sp} {o : Expr} {kw : List Keyword} {tk : TA} {params : Arguments} {body : List Stmt} {scope : Scope} {kws : List (Str × V)} {pos apos : Pos} {pl : Sem Bool} {g : {α : Type} → List α → List α → List α → List α} {ms : List (Str × V)}
    (he : PE X o ta) (c : Cls X.K C) (hm : Meth X.K C m f) (F : OkK X.prog X.w X.K X.mg X.base k q qual params body scope kws f ps sp) (hr : Room k X.A) (hk : kws ≠ []) (hms : ∀ q ∈ ms, q ∈ kws) (hrel : ∀ {vs mz zs : List V} {us mv ws : List Value}, Vals vs us → Vals mz mv → Vals zs ws → Vals (g vs mz zs) (g us mv ws))
    (h : ∀ (D : Addr) (doc pm : Value) (an : Option Addr) (cdv ct : Value) (us mv ws : List Value), us.length = 1 → mv.length = ms.length → ws.length = ks.length →
      KwChain D ((ms.map (·.1)).zip mv) (bindArgs (PySem.W.fnOf q qual params body scope .none (.ref D) doc pm an cdv ct) ⟨us, ks.zip ws⟩) (ps.zip (g us mv ws)))
    (hkw : PK X kw tk) (hall : (backToKw pos (keywordEach kw X.env)).all (·.1.isSome) = true := by rfl) (hks : (backToKw pos (keywordEach kw X.env)).filterMap (·.1) = ks := by rfl)
    (hpl : ((backTo pos (starEach [] X.env)).any (·.1) || (backToKw pos (keywordEach kw X.env)).any (·.1.isNone)) = false := by rfl)
    (ht : eval (.Call (.Attribute o m apos) [] kw pos) X.env = (do
      let ov ← eval o X.env
      standAt apos.atName
      let (f, first) ← holding [ov] (getMethod ov m pl)
      callWith pos f first (backTo pos (starEach [] X.env)) (backToKw pos (keywordEach kw X.env))) := by rfl) :
    PE X (.Call (.Attribute o m apos) [] kw pos) (tMethK C m ks.length sp (fun vs zs => g vs (ms.map (·.2)) zs) E0 ta tk) := by
  obtain ⟨fd, G, D⟩ := F.ex
  obtain ⟨mv, hb⟩ := D.kbinds0 1 ks ms g hk hms hrel h
  refine ⟨fun pins s σ H Q I h => ?_⟩
  refine PySem.W.methodCall_KW (pl := pl) (thn (he.run pins s σ H _ I h) fun u s1 ⟨x, H1, I1, rx, a, dx, fs, ex, ea, l, q⟩ => ?_) ht
  subst ex
  obtain rfl : u = Value.ref a := rx
  refine getmeth_ok I1 ea c hm l ?_
  refine PySem.W.callWith_KW0 (first := [.ref a]) (h₀ := X.base) I.ok.mod.kin hm.kp hall ?_ hpl
  refine thn (hkw.run pos pins s1 σ H1 _ I1 q) fun ws s2 ⟨zs, H2, I2, rz, l2, q2⟩ => ⟨I2.kIn, ?_⟩
  rw [hks]
  exact run_fnN (us := [.ref a]) (vs := [.ref a]) G hr hb pass0 I2 (.cons rfl .nil) rz rfl l2 q2
theorem ev_methK {C : Addr} {F : FTy γ} {A2 : ATy ι} {A : ATy β} {m : Str} {n : Nat} {g : List V → List V → List V} {j : γ → ι → β} {f : β → Option α} {mo : Option γ} {mk : Option ι} {tk : TA} {E : XK} (hnf : ∀ H fs x, F.rp H fs x → fs.lookup m = none) (hA : ∀ G v zs x y, (tyO C F).rp G v x → A2.rp G zs y → A.rp G (g [v] zs) (j x y)) (h2 : A2.n = n)
    (h : Ev ta Γ (tyO C F) mo) (hk : EvA tk Γ A2 mk) : Ev (tMethK C m n (spOf A T f) g E ta tk) Γ T (mo.bind fun x => mk.bind fun y => f (j x y)) := fun z e H0 G H σ S Q q => by
  obtain ⟨x, ea, e⟩ := bind_inv e
  obtain ⟨y, eb, e⟩ := bind_inv e
  refine h x ea H0 G H σ S _ fun v G1 H1 s1 r1 => ?_
  obtain ⟨a, dx, fs, rfl, h1, r⟩ := id r1
  refine ⟨a, dx, fs, rfl, s1.m _ _ h1, hnf _ _ _ r, ?_⟩
  refine hk y eb H0 G1 H1 σ (S.step s1) _ fun zs G2 H2 s2 r2 => ⟨by rw [A2.len r2, h2], ?_⟩
  exact ⟨j x y, z, G2, e, s2.m, hA G2 _ zs x y (Ty.mono _ s2.g r1) r2, fun w G3 H3 s3 r3 => q w G3 H3 ((s1.trans s2).trans s3) r3⟩
theorem ok_pureK {x qual : Str} {params : Arguments} {body : List Stmt} {scope : Scope} {kws : List (Str × V)} {fa : Addr} {N ps : List Str} {k : Nat} {A : ATy β} {T : Ty γ} {f : β → Option γ} {sl : β → TP.Env} (F : ∃ fd, FunD K x qual params body scope [] kws fa fd) (S : FnScope N ps scope) (hs : ASl A sl) (hn : A.n = ps.length) (hN : A.n ≤ N.length)
    (h : ∀ (cdv : Value) (Ar : Around) (outer : List PySem.Env) (s : Shared) (H : Hp) (E : XK), Room k (Ar.deeper (envOfC qual scope s.heap.objs.size fa cdv)) →
      ∃ t, PSs (cxOf CX0 P w K mg base N qual scope fa cdv Ar outer s H E).nox body t ∧ ∀ p, ∃ m : Option (Fl γ Unit), f p = outF m ∧ Sd t (sl p ++ List.replicate (N.length - A.n) .no) (pureR T) (noE N.length) m) :
    OkK P w K mg base (k + 1) x qual params body scope kws fa ps (spOf A T f) := by
  obtain ⟨fd, F⟩ := F
  refine ⟨fd, F.ok S (fun vs H Q E q => ?_) (fun cdv Ar outer s H vs Q E hr q => ?_), F⟩
  · obtain ⟨p, r, G, _, _, ra, _⟩ := q
    rw [A.len ra, hn]
  · obtain ⟨p, r, G, ef, eG, ra, q⟩ := q
    obtain ⟨t, d, m⟩ := h cdv Ar outer s H E hr
    refine ⟨t, d.nox, ?_⟩
    obtain ⟨m, em, sd⟩ := m p
    rw [em] at ef
    obtain ⟨o, eo, e⟩ := bind_inv ef
    refine sd o eo H G G H _ (start_slots hs ra eG hN) (Stp.refl eG) _ ?_
    cases o with
    | ret r' => cases e; exact fun v G' H' s' rv => q v G' H' s' rv
    | nx b => cases e
end
end TP
namespace TP
open PySem PySem.Spec PyProof.Rows L2
section
variable {prog : Program} {w : World} {A : Around} {E : Value → Shared → Prop} {s : Shared} {l : Addr} {its : List Value} {ns : List Int}
theorem sum_tuple_raw {Q : Value → Shared → Prop} (hh : A.handled = none) (hl : s.heap.IsTuple l its.toArray) (hi : IntsAre its ns)
    (h : ∀ h' tk t', (∀ b o, s.heap.get? b = some o → h'.get? b = some o) → Q (.int ns.sum t') { s with heap := h', toks := tk }) : wpAny (model prog w) A (call (.builtin "sum") [.ref l]) Q E s := by
  obtain ⟨xs, e⟩ := hi.allInts.items
  have hn : numsOf (intItems xs).toList = ns := by rw [← e]; exact hi.numsOf
  rw [nums_intItems] at hn
  rw [e] at hl
  have hlt : l < s.heap.objs.size := by obtain ⟨_, e, _⟩ := hl; exact Heap.lt_size e
  refine call_sum_walkG (wpAny_pyIter_tuple hl ?_)
  refine ⟨_, _, _, _, _, _, numAt xs, rfl, Walks.tuple (A := A.in1) hh _ l (Nat.ne_of_lt hlt) (intItems xs), ⟨⟨_, Heap.get?_push_size _ rfl, rfl, rfl⟩, hl.push _⟩, fun b hb => ?_, (fun _ _ => intItems_at), fun h' tk t' hk => ?_⟩
  · show b < (s.heap.push _).objs.size
    rw [Heap.size_push]
    rcases List.mem_cons.mp hb with rfl | hb
    · exact Nat.lt_succ_self _
    · rcases List.mem_cons.mp hb with rfl | hb
      · exact Nat.lt_succ_of_lt hlt
      · cases hb
  · have := h h' tk t' fun b o eb => hk b o (fun hb => absurd (Heap.lt_size eb) ((List.mem_singleton.mp hb) ▸ Nat.lt_irrefl _)) (Heap.get?_push_of_some _ eb)
    have hz : preSum (numAt xs) (intItems xs).size = ns.sum := by
      rw [preSum_eq, List.take_of_length_le (by simp [intItems]), hn]
    rw [hz]
    exact this
end
section
variable {X : Cx} {K : PySem.W.Frag}
def rSumT (K : PySem.W.Frag) : List V → Hp → VK → Prop := fun vs H Q => ∃ (a : Addr) (ns : List Int), vs = [V.ref a] ∧ SqT K H a (ns.map V.int) ∧ Q (.int ns.sum) H
theorem cr_sumT (hc : X.calm = true) : CallR X (.builtin "sum") (rSumT X.K) := by
  intro pins s σ H vs us Q I r h
  obtain ⟨a, ns, rfl, hs, q⟩ := h
  obtain ⟨its, rv, hl, _⟩ := I.tuple hs
  rw [Vals.ref1 r]
  exact sum_tuple_raw (I.ok.hd hc) hl rv.ints fun h' tk t' hk => ⟨.int _, H, I.kept hk, ⟨_, rfl⟩, q⟩
theorem cv_sumT : CallV (rSumT K) (aC (tyU K tyI) aN) tyI mSum := fun p z e G H vs eG r Q q => by
  cases e
  obtain ⟨v, rfl, a, ws, rfl, ha, rr⟩ := one_arg r
  rw [L2.all2_ints rr] at ha
  exact ⟨a, p.1, rfl, SqT.mono eG ha, q _ G H (Stp.refl eG) rfl⟩
end
end TP
set_option maxHeartbeats 1000000
namespace TP
open PySem PySem.Spec PyProof.Rows L2
def tIxOwn (C : Addr) (sp : Sp) (E : XK) (ta tb : TE) : TE := fun σ H Q => ta σ H fun x H1 => tb σ H1 fun y H2 => ∃ a dx fs, x = .ref a ∧ H2 a = some (.ins C dx fs) ∧ sp [x, y] H2 Q E
theorem Lk.fi {K : PySem.W.Frag} {f : Addr} {fd : FuncData} (h : Lk K f fd) : PySem.W.fnIn K f = true := by
  obtain ⟨oc, od, osl, e⟩ := h
  unfold PySem.W.fnIn
  rw [e]
section
variable {α β β' γ δ ι : Type} {te ta tb tc : TE} {Γ : TP.Env} {T : Ty α} {K : PySem.W.Frag} {X : Cx} {P : Program} {w : World} {mg : Str → Option Value} {base : Heap}
theorem pe_ixOwnF {k : Nat} {g C : Addr} {ps : List Str} {sp : Sp} {a b : Expr} {pos : Pos} (he : PE X a ta) (hb : PE X b tb) (hm : Meth X.K C "__getitem__" g) (F : Ok X.prog X.w X.K X.mg X.base k g ps sp) (hr : Room (k + 1) X.A)
    (hs : ∀ o i, subscripted b true o i = runValue (.builtin "lifetime.subscript" ⟨[o, i], []⟩) := by intros; rfl) : PE X (.Subscript a b pos) (tIxOwn C sp E0 ta tb) := by
  obtain ⟨fd, G, bn, lk⟩ := F.ex
  have R := G.raw bn .nil
  refine ⟨fun pins s σ H Q I h => ?_⟩
  refine Subscript_ (binT he hb I h fun v u s2 x y H2 I2 rx ry q => ?_)
  obtain ⟨a, dx, fs, rfl, ea, q⟩ := q
  cases rx
  obtain ⟨mA, O, r, _, _, _⟩ := ins_get I2.hok ea
  obtain ⟨od, J, hl⟩ := O.look
  obtain ⟨m, hF⟩ := I2.fr
  refine PySem.W.sub_K hF I2.ok.mod.kin J hm.at_ lk.fi hm.fn (wpAny_call (SlX.run_at (us := [.ref a, u]) (ws := [.ref a, y]) R (Room.in1 hr) I2.env0.in1 pass0 I2 (.cons rfl (.cons ry .nil)) q)) (hs _ _)
theorem ev_ixOwn {C : Addr} {F : FTy γ} {U : Ty ι} {f : γ × ι × Unit → Option α} {mo : Option γ} {mi : Option ι} {E : XK} (h : Ev ta Γ (tyO C F) mo) (hi : Ev tb Γ U mi) :
    Ev (tIxOwn C (spOf (aC (tyO C F) (aC U aN)) T f) E ta tb) Γ T (mo.bind fun x => mi.bind fun y => f (x, y, ())) := fun z e H0 G H σ S Q q => by
  obtain ⟨x, ea, e⟩ := bind_inv e
  obtain ⟨y, eb, e⟩ := bind_inv e
  refine h x ea H0 G H σ S _ fun v G1 H1 s1 r1 => ?_
  refine hi y eb H0 G1 H1 σ (S.step s1) _ fun u G2 H2 s2 r2 => ?_
  obtain ⟨a, dx, fs, rfl, h1, r⟩ := id r1
  exact ⟨a, dx, fs, rfl, s2.m _ _ (s2.g _ _ h1), (x, y, ()), z, G2, e, s2.m, ⟨_, _, rfl, Ty.mono _ s2.g r1, ⟨_, _, rfl, r2, rfl⟩⟩, fun w G3 H3 s3 r3 => q w G3 H3 ((s1.trans s2).trans s3) r3⟩
theorem pe_gref {x : Str} {a : Addr} {pos : Pos} (hg : Gl X x) (hm : X.mg x = some (.ref a)) (hd : (x == ("__debug__" : Str)) = false := by decide) : PE X (.Name x pos) (tC (.ref a)) := pe_glob hg hm rfl hd
theorem all2_int_map : ∀ xs : List Int, All2 (fun (v : V) (x : Int) => v = .int x) (xs.map V.int) xs
  | [] => trivial
  | x :: xs => ⟨rfl, all2_int_map xs⟩
theorem ev_gtupI {a : Addr} {xs : List Int} (h : ∀ H, SqT K H a (xs.map V.int)) : Ev (tC (.ref a)) Γ (tyU K tyI) (some xs) := ev_c fun G => ⟨a, _, rfl, h G, all2_int_map xs⟩
theorem get_list : PGet X (rIxL X.K) := by
  intro pins s σ H x y v u Q I rx ry h
  obtain ⟨p, xs, i, z, rfl, rfl, hq, he, q⟩ := h
  cases rx
  obtain ⟨t, rfl⟩ := ry
  obtain ⟨its, r, pl, hz⟩ := I.list hq
  obtain ⟨j, h1, h2, h3, h4, h5⟩ := L2.atI_get he
  obtain ⟨w, ew, rw'⟩ := r.get h2
  have hl := r.length
  have hn := line63
  have fin : EP X pins σ Q w s := ⟨z, H, I, rw', q⟩
  by_cases h0 : 0 ≤ i
  · have hj : i.toNat = j := by
      rw [seqIndex_of h0 h5] at h1
      exact Option.some.inj h1
    exact wpAny_getItem_list pl.isList h0 (by omega) (by rw [hj]; simpa using ew) fin
  · have hj : (i + (its.toArray.size : Int)).toNat = j := by
      rw [seqIndex_neg (by omega) h4] at h1
      rw [List.size_toArray, ← hl]
      exact Option.some.inj h1
    exact wpAny_getItem_list_neg pl.isList (by omega) (by rw [List.size_toArray] <;> omega) (by omega) (by rw [hj]; simpa using ew) fin
end
section
variable {β γ : Type} {te ta : TE} {Γ : TP.Env} {K : PySem.W.Frag} {env : β → TP.Env} {rest : TS} {W : Rt γ}
theorem sd_augItem {i : Nat} {xs : List Int} {m : Option Int} {mi : Option Int} {f : List Int → Option (Fl γ β)} (hi : Γ[i]? = some (.ow tyI xs)) (h2 : Ev ta Γ tyI mi) (h : Ev te Γ tyI m) (hr : ∀ ys, Sd rest (Γ.set i (.ow tyI ys)) W env (f ys)) :
    Sd (tSeq (tAugS (tVar i) ta te (rIxL K) (ipI fun i j => i + j) rSetL) rest) Γ W env (mi.bind fun k => (atI xs k).bind fun x => m.bind fun y => (mSet xs k (x + y)).bind f) := fun o e H0 G0 G H σ S s D k => by
  obtain ⟨j, eb, e⟩ := bind_inv e
  obtain ⟨x0, ex, e⟩ := bind_inv e
  obtain ⟨y, ea, e⟩ := bind_inv e
  obtain ⟨ys, ec, e⟩ := bind_inv e
  obtain ⟨n, ed, ee⟩ := bind_inv ec
  cases ee
  obtain ⟨a, vs, ep, ha, hg, h0, r⟩ := own_at S hi
  refine ⟨.ref a, ep, ?_⟩
  refine h2 j eb H0 G H σ S _ fun w G1 H1 s1 r1 => ?_
  cases r1
  obtain ⟨w0, ew, rw'⟩ := atI_all2 r ex
  cases rw'
  refine ⟨a, vs, j, _, rfl, rfl, SqL.of (s1.h _ _ ha), ew, ?_⟩
  refine h y ea H0 G1 H1 σ (S.step s1) _ fun u G2 H2 s2 r2 => ?_
  cases r2
  have s12 := s1.trans s2
  have ha1 := s12.h _ _ ha
  have hg1 := s12.p a (ne_none_of ha) hg
  refine ⟨x0, y, rfl, rfl, a, vs, j, n, rfl, rfl, ha1, by rw [r.len]; exact ed, ?_⟩
  exact hr _ o e H0 G0 G2 _ σ ((S.step s12).turn hi ep hg1 h0 ((r.mono fun _ _ z => Ty.mono tyI s12.g z).set n rfl)) ((s.trans s12).turn h0 hg1) D (k.mono s12.g)
end
end TP
set_option maxHeartbeats 1000000
namespace TP
open PySem PySem.Spec PyProof.Rows L2
section
variable {α β β' γ δ ι : Type} {te ta tb tc : TE} {Γ : TP.Env} {T : Ty α} {K : PySem.W.Frag} {X : Cx} {P : Program} {w : World} {mg : Str → Option Value} {base : Heap}
def rOwn2 (C : Addr) (sp : Sp) : R2 := fun x y H Q => ∃ a dx fs b dy gs, x = .ref a ∧ y = .ref b ∧ H a = some (.ins C dx fs) ∧ H b = some (.ins C dy gs) ∧ sp [x, y] H Q E0
theorem op_ownF {k : Nat} {g C : Addr} {ps : List Str} {sp : Sp} {op : Operator} {m : Str} (hm : Meth X.K C m g) (hn : PySem.dunder op.info.2 = m) (hc : PySem.W.selfFirst X.K C = true) (F : Ok X.prog X.w X.K X.mg X.base k g ps sp) (hr : Room k X.A) : OpR X (binaryOp op) (rOwn2 C sp) := by
  obtain ⟨fd, G, bn, lk⟩ := F.ex
  have R := G.raw bn .nil
  intro pins s σ H x y v u Q I rx ry h
  obtain ⟨a, dx, fs, b, dy, gs, rfl, rfl, ea, eb, q⟩ := h
  cases (show v = Value.ref a from rx)
  cases (show u = Value.ref b from ry)
  obtain ⟨mA, O, r, _, _, _⟩ := ins_get I.hok ea
  obtain ⟨od, J, hl⟩ := O.look
  obtain ⟨mB, O', r', _, _, _⟩ := ins_get I.hok eb
  obtain ⟨od', J', hl'⟩ := O'.look
  obtain ⟨mm, hF⟩ := I.fr
  refine PySem.W.binop_K hF I.ok.mod.kin J J'.type hc (hn ▸ hm.at_) hm.fn ?_
  refine wpAny_mono (wpAny_call (run_fnR (us := [.ref a, .ref b]) (vs := [.ref a, .ref b]) R hr pass0 I (.cons rfl (.cons rfl .nil)) q)) (fun w s' z => ?_) fun _ _ x => x
  obtain ⟨z', H', I', rz, qz⟩ := z
  exact SlX.cmpback rz ⟨z', H', I', rz, qz⟩
theorem ev_opOwn {C : Addr} {F : FTy γ} {f : γ × γ × Unit → Option α} {mo mi : Option γ} (h : Ev ta Γ (tyO C F) mo) (hi : Ev tb Γ (tyO C F) mi) :
    Ev (tOp (rOwn2 C (spOf (aC (tyO C F) (aC (tyO C F) aN)) T f)) ta tb) Γ T (mo.bind fun x => mi.bind fun y => f (x, y, ())) := fun z e H0 G H σ S Q q => by
  obtain ⟨x, ea, e⟩ := bind_inv e
  obtain ⟨y, eb, e⟩ := bind_inv e
  refine h x ea H0 G H σ S _ fun v G1 H1 s1 r1 => ?_
  refine hi y eb H0 G1 H1 σ (S.step s1) _ fun u G2 H2 s2 r2 => ?_
  obtain ⟨a, dx, fs, rfl, h1, r⟩ := id r1
  obtain ⟨b, dy, gs, rfl, h2, r'⟩ := id r2
  exact ⟨a, dx, fs, b, dy, gs, rfl, rfl, s2.m _ _ (s2.g _ _ h1), s2.m _ _ h2, (x, y, ()), z, G2, e, s2.m, ⟨_, _, rfl, Ty.mono _ s2.g r1, ⟨_, _, rfl, r2, rfl⟩⟩, fun w G3 H3 s3 r3 => q w G3 H3 ((s1.trans s2).trans s3) r3⟩
def zipL {β γ : Type} (xs : List β) (ys : List γ) : List (β × γ × Unit) := (xs.zip ys).map fun p => (p.1, p.2, ())
theorem zipL_get {β γ : Type} {xs : List β} {ys : List γ} {i : Nat} {z : β × γ × Unit} (h : (zipL xs ys)[i]? = some z) : ∃ x y, xs[i]? = some x ∧ ys[i]? = some y ∧ z = (x, y, ()) := by
  unfold zipL at h
  rw [List.getElem?_map] at h
  cases e : (xs.zip ys)[i]? with
  | none => rw [e] at h; cases h
  | some p =>
    rw [e] at h
    cases h
    obtain ⟨h1, h2⟩ := List.getElem?_zip_eq_some.mp e
    exact ⟨p.1, p.2, h1, h2, rfl⟩
theorem zipL_len {β γ : Type} (xs : List β) (ys : List γ) : (zipL xs ys).length = min xs.length ys.length := by
  unfold zipL
  rw [List.length_map, List.length_zip]
def mZip {β γ : Type} (p : List β × List γ × Unit) : Option (List (β × γ × Unit)) := some (zipL p.1 p.2.1)
theorem evi_zipU {U : Ty β} {mp : Option (List α × List β × Unit)} {ta : TA} (h : EvA ta Γ (aC (tyU K T) (aC (tyU K U) aN)) mp) : EvI (RZ.iZipA K ta) Γ (tyH K (aC T (aC U aN))) (mp.bind mZip) := fun xs e H0 G H σ S R q => by
  obtain ⟨p, ea, e⟩ := bind_inv e
  cases e
  refine h p ea H0 G H σ S _ fun vs G1 H1 s1 r1 => ?_
  obtain ⟨v, us, rfl, ⟨a, ws, rfl, ha, rr⟩, u, us', rfl, ⟨b, zs, rfl, hb, rs⟩, hn⟩ := r1
  obtain rfl : us' = [] := hn
  refine ⟨a, b, ws, zs, rfl, .inr ⟨SqT.mono s1.m ha, SqT.mono s1.m hb, q _ G1 H1 s1 fun i G2 H2 e1 e2 => ⟨fun x ex => ?_, fun hi => ?_⟩⟩⟩
  · obtain ⟨y, z, ey, ez, rfl⟩ := zipL_get ex
    obtain ⟨w, ew, hw⟩ := rr.get ey
    obtain ⟨w2, ew2, hw2⟩ := rs.get ez
    have hs : SqT K H2 a ws := SqT.mono (e1.trans e2) ha
    have hs2 : SqT K H2 b zs := SqT.mono (e1.trans e2) hb
    refine ⟨⟨ws, zs, w, w2, hs, hs2, ew, ew2⟩, fun v H3 y' => ?_⟩
    obtain ⟨t, w', w2', rfl, hn, rfl, hw', hw2'⟩ := y'
    have e3 : w = w' := Option.some.inj (ew.symm.trans (hw' _ hs))
    have e4 : w2 = w2' := Option.some.inj (ew2.symm.trans (hw2' _ hs2))
    subst e3
    subst e4
    have sn := Stp.new (o := .tup [w, w2]) e2 hn
    exact ⟨_, sn, t, [w, w2], rfl, SqT.of upd_same, w, [w2], rfl, T.mono (e1.trans sn.g) hw, w2, [], rfl, U.mono (e1.trans sn.g) hw2, rfl⟩
  · refine ⟨ws, zs, SqT.mono (e1.trans e2) ha, SqT.mono (e1.trans e2) hb, ?_⟩
    rw [rr.len, rs.len]
    rw [zipL_len] at hi
    omega
end
end TP
set_option maxHeartbeats 1000000
namespace TP
open PySem PySem.Spec PyProof.Rows L2
section
variable {K : PySem.W.Frag}
theorem all2_bools {vs : List V} {bs : List Bool} {H : Hp} (h : TP.All2 (TP.tyB.rp H) vs bs) : vs = bs.map V.bl := by
  induction vs generalizing bs with
  | nil => cases bs with
    | nil => rfl
    | cons => exact h.elim
  | cons v vs ih => cases bs with
    | nil => exact h.elim
    | cons n ns =>
      have e : v = .bl n := h.1
      rw [e, ih h.2]; rfl
def mAny (p : List Bool × Unit) : Option Bool := some (p.1.any id)
def mAll (p : List Bool × Unit) : Option Bool := some (p.1.all id)
@[simp] theorem mAny_ (bs : List Bool) : mAny (bs, ()) = some (bs.any id) := rfl
@[simp] theorem mAll_ (bs : List Bool) : mAll (bs, ()) = some (bs.all id) := rfl
theorem cv_anyL : CallV (rAny K) (aC (tyL tyB) aN) tyB mAny := fun p z e G H vs eG r Q q => by
  cases e
  obtain ⟨v, rfl, a, ws, rfl, ha, rr⟩ := one_arg r
  rw [all2_bools rr] at ha
  exact ⟨a, p.1, rfl, SqL.of (eG _ _ ha), q _ G H (Stp.refl eG) rfl⟩
theorem cv_allL : CallV (rAll K) (aC (tyL tyB) aN) tyB mAll := fun p z e G H vs eG r Q q => by
  cases e
  obtain ⟨v, rfl, a, ws, rfl, ha, rr⟩ := one_arg r
  rw [all2_bools rr] at ha
  exact ⟨a, p.1, rfl, SqL.of (eG _ _ ha), q _ G H (Stp.refl eG) rfl⟩
theorem bo_any : bootBuiltins "any" = some (.builtin "any") := by decide +kernel
end
end TP
set_option maxHeartbeats 1000000
namespace TP
open PySem PySem.Spec PyProof.Rows L2
inductive Pv | i (x : Int) | s (x : Str)
def Pv.v : Pv → V
  | .i x => .int x
  | .s x => .str x
structure Er where
  c : Str
  fs : List (Str × Pv)
inductive Res (γ : Type) where
  | ok (x : γ) : Res γ
  | er (e : Er) : Res γ
def ErOk (K : PySem.W.Frag) (G : Hp) (cls : Value) (d : Option Addr) (e : Er) : Prop :=
  cls = .ref (He.ga K e.c) ∧ ((e.fs = [] ∧ d = none) ∨ ∃ dd ws, d = some dd ∧ G dd = some (.xd ws) ∧ ∀ f v, e.fs.lookup f = some v → ws.lookup f = some v.v)
theorem ErOk.mono {K : PySem.W.Frag} {G G' : Hp} {cls : Value} {d : Option Addr} {e : Er} (h : Ex G G') (r : ErOk K G cls d e) : ErOk K G' cls d e := by
  obtain ⟨h1, h2 | ⟨dd, ws, h3, h4, h5⟩⟩ := r
  · exact ⟨h1, .inl h2⟩
  · exact ⟨h1, .inr ⟨dd, ws, h3, h _ _ h4, h5⟩⟩
def tyE (K : PySem.W.Frag) (a : Addr) (cls : Value) (d : Option Addr) : Ty Er := ⟨fun G v x => v = .ref a ∧ ErOk K G cls d x, fun e h => ⟨h.1, h.2.mono e⟩⟩
def xW {γ : Type} (W : Rt γ) (K : PySem.W.Frag) (V : WX) (Γx : TP.Env) : Rt (Res γ) := ⟨fun rt bk ct H0 G0 Gs r => match r with
  | .ok r => W.go rt bk ct H0 G0 Gs r
  | .er e => ∀ cls d σ' G H, Slots H0 G H σ' Γx → Stp G0 H0 G H → Ex Gs G → ErOk K G cls d e → V cls d σ' H, fun {rt bk ct H0 G0 Gs G1 r} e h => by
    cases r with
    | ok r => exact W.mono e h
    | er r => exact fun cls d σ' G H S s eg ro => h cls d σ' G H S s (e.trans eg) ro⟩
instance {γ : Type} {W : Rt γ} {K : PySem.W.Frag} {V : WX} {Γx : TP.Env} [FlatR W] : FlatR (xW W K V Γx) := ⟨fun {rt bk ct bk' ct' H0 G0 Gs r} h => by
  cases r with
  | ok r => exact FlatR.flat (W := W) h
  | er r => exact h⟩
def Res.val {γ : Type} : Res γ → Option γ
  | .ok x => some x
  | .er _ => none
@[simp] theorem Res.val_ok {γ : Type} (x : γ) : (Res.ok x).val = some x := rfl
@[simp] theorem Res.val_er {γ : Type} (e : Er) : (Res.er e : Res γ).val = none := rfl
def spX {β γ : Type} (K : PySem.W.Frag) (A : ATy β) (T : Ty γ) (f : β → Option (Res γ)) : Sp := fun vs H Q E => ∃ p r G, f p = some r ∧ Ex G H ∧ A.rp G vs p ∧ (match r with
  | .ok x => ∀ v G' H', Stp G H G' H' → T.rp G' v x → Q v H'
  | .er e => ∀ cls d G' H', Stp G H G' H' → ErOk K G' cls d e → E cls d H')
def spXN {β α : Type} (K : PySem.W.Frag) (A : ATy β) (T : Ty α) (f : β → Option (Res (List α))) : Sp := fun vs H Q E => ∃ p r G, f p = some r ∧ Ex G H ∧ A.rp G vs p ∧ (match r with
  | .ok x => ∀ a ws G' H', Stp G H G' H' → H a = none → G' a = none → H' a = some (.lst ws) → All2 (T.rp G') ws x → Q (.ref a) H'
  | .er e => ∀ cls d G' H', Stp G H G' H' → ErOk K G' cls d e → E cls d H')
structure OkX (P : Program) (w : World) (K : PySem.W.Frag) (mg : Str → Option Value) (base : Heap) (k : Nat) (f : Addr) (ps : List Str) (sp : Sp) : Prop where
  ex : ∃ fd, FnOk P w K mg base (L2N.CX P w) k f fd ps sp ∧ Binds K fd ps [] ∧ Lk K f fd
  kp : PySem.W.keepIn K (.ref f) = true
section
variable {α β γ δ ι : Type} {te ta tb tc : TE} {Γ Γx : TP.Env} {T : Ty α} {U : Ty β} {K : PySem.W.Frag} {P : Program} {w : World} {mg : Str → Option Value} {base : Heap}
theorem fnOk_calm {k : Nat} {f : Addr} {fd : FuncData} {ps : List Str} {sp : Sp} (F : FnOk P w K mg base (L2N.CX P w) k f fd ps sp) : FnOk P w K mg base CX0 k f fd ps (fun vs H Q _ => sp vs H Q E0) :=
  ⟨fun vs H Q E q => F.len vs H Q E0 q, fun A outer s H args us vs Q E hr he hb hv hs => codeAny_mono (F.run A outer s H args us vs Q E0 hr he hb hv hs) fun r s' hq => by
    cases r with
    | ok fl => cases fl <;> exact hq
    | error e =>
      obtain ⟨_, _, _, _, _, _, _, _, _, _, _, _, z⟩ := hq
      exact z.elim⟩
theorem ok_calm {A : ATy β} {k : Nat} {g : Addr} {ps : List Str} {f : β → Option (Res α)} (F : OkX P w K mg base k g ps (spX K A T f)) : Ok P w K mg base k g ps (spOf A T (fun p => (f p).bind Res.val)) := by
  obtain ⟨⟨fd, G, b, l⟩, kp⟩ := F
  refine ⟨⟨fd, (fnOk_calm G).imp fun vs H Q E q => ?_, b, l⟩, kp⟩
  obtain ⟨p, r, G', ef, eG, ra, q⟩ := q
  obtain ⟨z, ez, e⟩ := bind_inv ef
  cases z with
  | er _ => cases e
  | ok x =>
    cases e
    exact ⟨p, .ok r, G', ez, eG, ra, q⟩
theorem ok_calmN {A : ATy β} {k : Nat} {g : Addr} {ps : List Str} {f : β → Option (Res (List α))} (F : OkX P w K mg base k g ps (spXN K A T f)) : Ok P w K mg base k g ps (spOfN A T (fun p => (f p).bind Res.val)) := by
  obtain ⟨⟨fd, G, b, l⟩, kp⟩ := F
  refine ⟨⟨fd, (fnOk_calm G).imp fun vs H Q E q => ?_, b, l⟩, kp⟩
  obtain ⟨p, r, G', ef, eG, ra, q⟩ := q
  obtain ⟨z, ez, e⟩ := bind_inv ef
  cases z with
  | er _ => cases e
  | ok x =>
    cases e
    exact ⟨p, .ok r, G', ez, eG, ra, q⟩
def EvX (te : TE) (V : WX) (Γ Γx : TP.Env) (K : PySem.W.Frag) (T : Ty α) (m : Option (Res α)) : Prop :=
  ∀ z, m = some z → ∀ H0 G H σ, Slots H0 G H σ Γ → ∀ Q : VK, (match z with
    | .ok x => ∀ v G' H', Stp G H G' H' → T.rp G' v x → Q v H'
    | .er e => ∀ cls d σ' G' H', Slots H0 G' H' σ' Γx → Stp G H G' H' → ErOk K G' cls d e → V cls d σ' H') → te σ H Q
def EvXN (te : TE) (V : WX) (Γ Γx : TP.Env) (K : PySem.W.Frag) (T : Ty α) (m : Option (Res (List α))) : Prop :=
  ∀ z, m = some z → ∀ H0 G H σ, Slots H0 G H σ Γ → ∀ Q : VK, (match z with
    | .ok x => ∀ a ws G' H', Stp G H G' H' → H a = none → G' a = none → H' a = some (.lst ws) → All2 (T.rp G') ws x → Q (.ref a) H'
    | .er e => ∀ cls d σ' G' H', Slots H0 G' H' σ' Γx → Stp G H G' H' → ErOk K G' cls d e → V cls d σ' H') → te σ H Q
theorem evx_call {V : WX} {A : ATy β} {f : β → Option (Res α)} {mp : Option β} {t : TA} (wk : Wk Γ Γx) (h : EvA t Γ A mp) : EvX (tCallS (spX K A T f) (WE V) t) V Γ Γx K T (mp.bind f) := fun z e H0 G H σ S Q q => by
  obtain ⟨p, ea, ef⟩ := bind_inv e
  refine h p ea H0 G H σ S _ fun vs G1 H1 s1 r1 => ⟨p, z, G1, ef, s1.m, r1, ?_⟩
  cases z with
  | ok x => exact fun v G2 H2 s2 r2 => q v G2 H2 (s1.trans s2) r2
  | er e => exact fun cls d G2 H2 s2 r2 => q cls d σ G2 H2 ((S.step (s1.trans s2)).wk wk) (s1.trans s2) r2
theorem evxn_call {V : WX} {A : ATy β} {f : β → Option (Res (List α))} {mp : Option β} {t : TA} (wk : Wk Γ Γx) (h : EvA t Γ A mp) : EvXN (tCallS (spXN K A T f) (WE V) t) V Γ Γx K T (mp.bind f) := fun z e H0 G H σ S Q q => by
  obtain ⟨p, ea, ef⟩ := bind_inv e
  refine h p ea H0 G H σ S _ fun vs G1 H1 s1 r1 => ⟨p, z, G1, ef, s1.m, r1, ?_⟩
  cases z with
  | ok x => exact fun a ws G2 H2 s2 hn hg hp r2 => q a ws G2 H2 (s1.trans s2) (s1.h.non hn) hg hp r2
  | er e => exact fun cls d G2 H2 s2 r2 => q cls d σ G2 H2 ((S.step (s1.trans s2)).wk wk) (s1.trans s2) r2
theorem evx_new {V : WX} {m : Option (Res (List α))} (h : EvXN te V Γ Γx K T m) : EvX te V Γ Γx K (tyL T) m := fun z e H0 G H σ S Q q => by
  refine h z e H0 G H σ S Q ?_
  cases z with
  | er e => exact q
  | ok x => exact fun a ws G' H' s hn hg hp r => q (.ref a) _ _ (s.freeze hn hg hp) ⟨a, ws, rfl, upd_same, r.mono fun _ _ z => T.mono (Ex.new hg) z⟩
def xB (m : Option (Res α)) (f : α → Option (Res β)) : Option (Res β) := m.bind fun z => match z with
  | .ok x => f x
  | .er e => some (.er e)
@[simp] theorem xB_ok (x : α) (f : α → Option (Res β)) : xB (some (.ok x)) f = f x := rfl
@[simp] theorem xB_er (e : Er) (f : α → Option (Res β)) : xB (some (.er e) : Option (Res α)) f = some (.er e) := rfl
def xF (m : Option (Res α)) (f : α → Option (Fl (Res γ) β)) : Option (Fl (Res γ) β) := m.bind fun z => match z with
  | .ok x => f x
  | .er e => some (.ret (.er e))
@[simp] theorem xF_ok (x : α) (f : α → Option (Fl (Res γ) β)) : xF (some (.ok x)) f = f x := rfl
@[simp] theorem xF_er (e : Er) (f : α → Option (Fl (Res γ) β)) : xF (some (.er e) : Option (Res α)) f = some (.ret (.er e)) := rfl
def rtX (m : Option α) : Option (Fl (Res α) β) := m.bind fun r => some (.ret (.ok r))
@[simp] theorem rtX_some (r : α) : rtX (some r) = (some (.ret (.ok r)) : Option (Fl (Res α) β)) := rfl
theorem evxn_lst1 {V : WX} {m : Option (Res α)} (h : EvX te V Γ Γx K T m) : EvXN (tLst (tCons te tNil)) V Γ Γx K T (xB m fun x => some (.ok [x])) := fun z e H0 G H σ S Q q => by
  obtain ⟨y, ey, e⟩ := bind_inv e
  refine h y ey H0 G H σ S _ ?_
  cases y with
  | er e1 => cases e; exact q
  | ok x =>
    cases e
    intro v G1 H1 s1 r1
    refine ⟨(by show 1 ≤ sizeLine; rw [sizeLine_eq]; omega), fun p hp => ?_⟩
    exact q p [v] G1 _ (s1.trans (Stp.priv s1.m hp)) (s1.h.non hp) (s1.m.non hp) upd_same (.one r1)
end
section
variable {α β γ δ ι : Type} {te ta tb tc : TE} {Γ Γx : TP.Env} {T : Ty α} {K : PySem.W.Frag} {env : β → TP.Env} {rest t u tbd : TS} {W : Rt γ} {V : WX}
theorem sd_retX {m : Option α} (h : Ev te Γ T m) : Sd (tSeq (tRet te) rest) Γ (xW (pureR T) K V Γx) env (rtX m) := fun o e H0 G0 G H σ S s D k => by
  obtain ⟨r, ea, e⟩ := bind_inv e
  cases e
  exact h r ea H0 G H σ S _ fun v G1 H1 s1 r1 => k v G1 H1 (s.trans s1) r1
theorem sd_retXN {m : Option (List α)} (h : EvN te Γ T m) : Sd (tSeq (tRet te) rest) Γ (xW (newR T) K V Γx) env (rtX m) := fun o e H0 G0 G H σ S s D k => by
  obtain ⟨r, ea, e⟩ := bind_inv e
  cases e
  exact h r ea H0 G H σ S _ fun p vs G1 H1 s1 hn hg hp r1 => k _ G1 H1 (s.trans s1) ⟨p, vs, rfl, s.h.non hn, hg, hp, r1⟩
theorem sd_retXOw {i : Nat} {xs : List α} (hi : Γ[i]? = some (.ow T xs)) : Sd (tSeq (tRet (tVar i)) rest) Γ (xW (newR T) K V Γx) env (rtX (some xs)) := fun o e H0 G0 G H σ S s D k => by
  cases e
  obtain ⟨o, eo, a, vs, e, ha, hg, h0, r⟩ := S.at_ i _ hi
  subst e
  exact ⟨.ref a, eo, k _ G H s ⟨a, vs, rfl, h0, hg, ha, r⟩⟩
theorem sd_retCX {m : Option (Res α)} (h : EvX te V Γ Γx K T m) : Sd (tSeq (tRet te) rest) Γ (xW (pureR T) K V Γx) env (m.bind fun r => some (.ret r)) := fun o e H0 G0 G H σ S s D k => by
  obtain ⟨r, ea, e⟩ := bind_inv e
  cases e
  refine h r ea H0 G H σ S _ ?_
  cases r with
  | ok x => exact fun v G1 H1 s1 r1 => k v G1 H1 (s.trans s1) r1
  | er e => exact fun cls d σ' G1 H1 S1 s1 r1 => k cls d σ' G1 H1 S1 (s.trans s1) s1.g r1
theorem sd_retCXN {m : Option (Res (List α))} (h : EvXN te V Γ Γx K T m) : Sd (tSeq (tRet te) rest) Γ (xW (newR T) K V Γx) env (m.bind fun r => some (.ret r)) := fun o e H0 G0 G H σ S s D k => by
  obtain ⟨r, ea, e⟩ := bind_inv e
  cases e
  refine h r ea H0 G H σ S _ ?_
  cases r with
  | ok x => exact fun p vs G1 H1 s1 hn hg hp r1 => k _ G1 H1 (s.trans s1) ⟨p, vs, rfl, s.h.non hn, hg, hp, r1⟩
  | er e => exact fun cls d σ' G1 H1 S1 s1 r1 => k cls d σ' G1 H1 S1 (s.trans s1) s1.g r1
theorem sd_asgX {i : Nat} {m : Option (Res α)} {f : α → Option (Fl (Res γ) β)} (h : EvX te V Γ Γx K T m) (hr : ∀ x, Sd rest (Γ.set i (.pu T x)) (xW W K V Γx) env (f x)) : Sd (tSeq (tAsg te (gName i)) rest) Γ (xW W K V Γx) env (xF m f) := fun o e H0 G0 G H σ S s D k => by
  obtain ⟨z, ea, e⟩ := bind_inv e
  refine h z ea H0 G H σ S _ ?_
  cases z with
  | ok x => exact fun v G1 H1 s1 r1 => hr x o e H0 G0 G1 H1 _ ((S.step s1).set r1) (s.trans s1) D (k.mono s1.g)
  | er e1 =>
    cases e
    exact fun cls d σ' G1 H1 S1 s1 r1 => k cls d σ' G1 H1 S1 (s.trans s1) s1.g r1
theorem sd_exprX {m : Option (Res α)} {f : Unit → Option (Fl (Res γ) β)} (h : EvX te V Γ Γx K T m) (hr : Sd rest Γ (xW W K V Γx) env (f ())) : Sd (tSeq (tDrop te) rest) Γ (xW W K V Γx) env (xF m fun _ => f ()) := fun o e H0 G0 G H σ S s D k => by
  obtain ⟨z, ea, e⟩ := bind_inv e
  refine h z ea H0 G H σ S _ ?_
  cases z with
  | ok x => exact fun v G1 H1 s1 r1 => hr o e H0 G0 G1 H1 _ (S.step s1) (s.trans s1) D (k.mono s1.g)
  | er e1 =>
    cases e
    exact fun cls d σ' G1 H1 S1 s1 r1 => k cls d σ' G1 H1 S1 (s.trans s1) s1.g r1
def EvMk (K : PySem.W.Frag) (t : L2.St → Hp → XK → Prop) (Γ : TP.Env) (m : Option Er) : Prop :=
  ∀ e, m = some e → ∀ H0 G H σ, Slots H0 G H σ Γ → ∀ Q : XK, (∀ cls d G' H', Stp G H G' H' → ErOk K G' cls d e → Q cls d H') → t σ H Q
def tRs (V : WX) (t : L2.St → Hp → XK → Prop) : TS := fun _ σ H => t σ H fun cls d H' => V cls d σ H'
theorem sd_raise {t : L2.St → Hp → XK → Prop} {m : Option Er} (wk : Wk Γ Γx) (h : EvMk K t Γ m) : Sd (tSeq (tRs V t) rest) Γ (xW W K V Γx) env (m.bind fun e => some (.ret (.er e))) := fun o e H0 G0 G H σ S s D k => by
  obtain ⟨z, ea, e⟩ := bind_inv e
  cases e
  exact h z ea H0 G H σ S _ fun cls d G1 H1 s1 r1 => k cls d σ G1 H1 ((S.step s1).wk wk) (s.trans s1) s1.g r1
def tryF (mb : Option (Fl (Res γ) δ)) (M : Er → Bool) (mh : Er → Option (Fl γ δ)) : Option (Fl γ δ) := mb.bind fun x => match x with
  | .ret (.ok r) => some (.ret r)
  | .ret (.er e) => if M e then mh e else none
  | .nx b => some (.nx b)
@[simp] theorem tryF_ok (r : γ) (M : Er → Bool) (mh : Er → Option (Fl γ δ)) : tryF (some (.ret (.ok r))) M mh = some (.ret r) := rfl
@[simp] theorem tryF_nx (b : δ) (M : Er → Bool) (mh : Er → Option (Fl γ δ)) : tryF (some (.nx b)) M mh = some (.nx b) := rfl
@[simp] theorem tryF_er (e : Er) (M : Er → Bool) (mh : Er → Option (Fl γ δ)) : tryF (some (.ret (.er e))) M mh = if M e then mh e else none := rfl
theorem Slots.unset {H0 G H : Hp} {σ : L2.St} (S : Slots H0 G H σ Γ) (i : Nat) : Slots H0 G H (σ.set i none) (Γ.set i .no) := S.wipe [i]
theorem sd_tryAs [FlatR W] {env1 envh : δ → TP.Env} {i : Nat} {tb : WX → TS} {ts : Addr → Value → Option Addr → TS} {c : Value} {Wout : WX} {mb : Option (Fl (Res γ) δ)} {M : Er → Bool} {mh : Er → Option (Fl γ δ)} {f : δ → Option (Fl γ β)}
    (hb : ∀ V, Sd (tb V) Γ (xW W K V Γx) env1 mb) (hm : ∀ e cls d G, ErOk K G cls d e → M e = true → PySem.W.exmOne K cls c = some true)
    (hs : ∀ a cls d e, M e = true → Sd (ts a cls d) (Γx.set i (.pu (tyE K a cls d) e)) W envh (mh e)) (wk : ∀ b, Wk ((envh b).set i .no) (env1 b)) (hr : ∀ b, Sd rest (env1 b) W env (f b)) :
    Sd (tSeq (fun D σ H => tb (wAs K c i ts Wout D) D σ H) rest) Γ W env (thenF (tryF mb M mh) f) := fun o e H0 G0 G H σ S s D k => by
  obtain ⟨y, ey, e⟩ := bind_inv e
  obtain ⟨z, ez, e2⟩ := bind_inv ey
  have kk : ∀ Gs, Ex G Gs → FlOk { D with nx := rest D } W env1 H0 G0 Gs y := fun Gs eg => by
    cases y with
    | ret r => cases e; exact W.mono eg k
    | nx b => exact fun σ2 G2 H2 S2 s2 e2 => hr b o e H0 G0 G2 H2 σ2 S2 s2 D (k.mono (eg.trans e2))
  refine hb _ z ez H0 G0 G H σ S s _ ?_
  cases z with
  | nx b => cases e2; exact kk G (Ex.refl _)
  | ret r =>
    cases r with
    | ok r => cases e2; exact kk G (Ex.refl _)
    | er e1 =>
      have e2 : (if M e1 = true then mh e1 else none) = some y := e2
      by_cases q : M e1 = true
      case neg => rw [if_neg q] at e2; cases e2
      rw [if_pos q] at e2
      intro cls d σ' G1 H1 S1 s1 eg r1
      refine ⟨true, hm e1 cls d G1 r1 q, fun _ a na => ?_, fun z => by cases z⟩
      refine hs a cls d e1 q y e2 H0 G0 G1 H1 _ (S1.set (T := tyE K a cls d) ⟨rfl, r1⟩) s1 _ ?_
      cases y with
      | ret r => cases e; exact FlatR.flat (W := W) (W.mono eg k)
      | nx b => exact fun σ2 G2 H2 S2 s2 e3 => hr b o e H0 G0 G2 H2 _ ((S2.unset i).wk (wk b)) s2 D (k.mono (eg.trans e3))
end
end TP
set_option maxHeartbeats 2000000
namespace TP
open PySem PySem.Spec PyProof.Rows L2
section
variable {ft : List Ft} {fn : List He5.DefA} {K : PySem.W.Frag} {mg : Str → Option Value}
structure OexT (K : PySem.W.Frag) (C i : Addr) : Prop where
  low : OexC K C
  ini : PySem.W.findIn K (.ref C) "__init__" = some (some (.ref i))
  fun_ : PySem.W.typeIn K (.ref i) = some (.type "function")
theorem oexB_ok {a i : Addr} (h : oexB K a i = true) : OexT K a i := by
  obtain ⟨h0, h⟩ := He.ba h
  obtain ⟨h1, h⟩ := He.ba h
  obtain ⟨h2, h⟩ := He.ba h
  obtain ⟨h3, h⟩ := He.ba h
  obtain ⟨h4, h⟩ := He.ba h
  obtain ⟨h5, h6⟩ := He.ba h
  refine ⟨⟨?_, He.eqO_ok h1, of_decide_eq_true h2, of_decide_eq_true h3, h4⟩, He.eqO_ok h5, of_decide_eq_true h6⟩
  split at h0
  · rename_i dd cd sl ho
    split at h0
    · rename_i b bm k0 k1 k2 k3 n k5 hm hs
      obtain ⟨e1, h0⟩ := He.ba h0
      obtain ⟨e2, h0⟩ := He.ba h0
      obtain ⟨e3, h0⟩ := He.ba h0
      obtain ⟨e4, e5⟩ := He.ba h0
      have e1 : b = a := of_decide_eq_true e1
      have e2 : n = "ValueError.__new__" := of_decide_eq_true e2
      subst e1 e2
      obtain ⟨nm, bs, mro, ns, qn, hd, sn, sub, ab, col, del⟩ := cd
      dsimp only at hm e3 e4 e5
      have e3 : del = false := by simpa using e3
      subst hm e3 e4
      have es : sl = #[k0, k1, k2, k3, some (.builtin "ValueError.__new__"), k5] := by
        obtain ⟨l⟩ := sl
        simp only at hs
        rw [hs]
      subst es
      exact ⟨nm, qn, ns, bs, bm, sn, sub, ab, col, dd, k0, k1, k2, k3, k5, ho, e5⟩
    · cases h0
  · cases h0
theorem Cn.oex (T : Cn ft fn K mg) (i : Nat) {C : Str} (h : ft[i]? = some (.oex C) := by rfl) : OexT K (He.ga K C) (maA K C "__init__") := oexB_ok (T.says.fact i h)
structure ExkT (K : PySem.W.Frag) (C : Addr) : Prop where
  xf : XfC K C
  ec : ExcC K C
theorem exkB_ok {a : Addr} (h : exkB K a = true) : ExkT K a := by
  obtain ⟨h1, h⟩ := He.ba h
  obtain ⟨h2, h⟩ := He.ba h
  obtain ⟨h3, h⟩ := He.ba h
  obtain ⟨h4, h⟩ := He.ba h
  obtain ⟨h5, h⟩ := He.ba h
  obtain ⟨h6, h⟩ := He.ba h
  obtain ⟨h7, h8⟩ := He.ba h
  exact ⟨⟨He.eqO_ok h1, He.eqO_ok h2, of_decide_eq_true h3, h4⟩, ⟨He.eqO_ok h1, He.eqO_ok h2, of_decide_eq_true h3, h4, He.eqO_ok h5, He.eqO_ok h6, of_decide_eq_true h7, of_decide_eq_true h8⟩⟩
theorem Cn.exk (T : Cn ft fn K mg) (i : Nat) {C : Str} (h : ft[i]? = some (.exk C) := by rfl) : ExkT K (He.ga K C) := exkB_ok (T.says.fact i h)
theorem Cn.exm (T : Cn ft fn K mg) (i : Nat) {x y : Str} {b : Bool} (h : ft[i]? = some (.fa (.exm x y b)) := by rfl) : PySem.W.exmOne K (.ref (He.ga K x)) (.ref (He.ga K y)) = some b := He.exm_ok (T.says.fact i h)
structure Ex0T (K : PySem.W.Frag) (C : Addr) : Prop where
  exc : PySem.W.excIn K C He.veBase "ValueError.__new__" = true
  kp : PySem.W.keepIn K (.ref C) = true
  sub : PySem.W.subIn K (.ref C) (.type "BaseException") = some true
  ty : PySem.W.typeIn K (.ref C) = some (.type "type")
theorem Cn.exc0 (T : Cn ft fn K mg) (i : Nat) {C : Str} (h : ft[i]? = some (.fa (.exc C)) := by rfl) : Ex0T K (He.ga K C) := by
  have c : (He.Fa.exc C).ok K = true := T.says.fact i h
  obtain ⟨h1, c⟩ := He.ba c
  obtain ⟨h2, c⟩ := He.ba c
  obtain ⟨h3, h4⟩ := He.ba c
  exact ⟨h1, h2, of_decide_eq_true h3, of_decide_eq_true h4⟩
end
def spEx (C : Addr) (names : List Str) : Sp := fun vs H Q _ => ∃ (a : Addr) (ws : List V), vs = .ref a :: ws ∧ ws.length = names.length ∧ H a = some (exo a C none) ∧
  ∀ (d : Addr) (gs : List (Str × V)), H d = none → d ≠ a → (∀ (i : Nat) (f : Str) (v : V), names[i]? = some f → ws[i]? = some v → gs.lookup f = some v) → Q .non (upd (upd H d (exd d gs)) a (exo a C (some d)))
section
variable {K : PySem.W.Frag} {P : Program} {w : World} {mg : Str → Option Value} {base : Heap}
theorem ok_ex1 {x qual p0 p1 f : Str} {params : Arguments} {body : List Stmt} {scope : Scope} {fa C : Addr} {k : Nat} (F : ∃ fd, FunD K x qual params body scope [] [] fa fd) (S : FnScope [p0, p1] [p0, p1] scope) (T : OexC K C) (hno : PySem.W.findIn K (.ref C) f = some none)
    (h : ∀ (cdv : Value) (Ar : Around) (outer : List PySem.Env) (s : Shared) (H : Hp) (E : XK), PSs (cxOf CX0 P w K mg base [p0, p1] qual scope fa cdv Ar outer s H E).nox body (tSeq (tOst K f (tVar 0) (tVar 1)) tNext)) :
    ∃ fd, FnOk P w K mg base CX0 (k + 1) fa fd [p0, p1] (spEx C [f]) ∧ FunD K x qual params body scope [] [] fa fd := by
  obtain ⟨fd, F⟩ := F
  refine ⟨fd, F.ok S (fun vs H Q E q => ?_) (fun cdv Ar outer s H vs Q E hr q => ⟨_, (h cdv Ar outer s H E).nox, ?_⟩), F⟩
  · obtain ⟨a, ws, rfl, hl, _⟩ := q
    rw [List.length_cons, hl]; rfl
  · obtain ⟨a, ws, rfl, hl, ha, q⟩ := q
    match ws, hl with
    | [y], _ =>
      refine ⟨y, rfl, .ref a, rfl, a, C, rfl, T, hno, .inl ⟨ha, fun dx hd ne => ?_⟩⟩
      refine q dx [(f, y)] hd ne fun i g v hi hv => ?_
      match i with
      | 0 => cases hi; cases hv; simp [List.lookup]
      | i + 1 => cases hi
theorem ok_ex2 {x qual p0 p1 p2 f g : Str} {params : Arguments} {body : List Stmt} {scope : Scope} {fa C : Addr} {k : Nat} (F : ∃ fd, FunD K x qual params body scope [] [] fa fd) (S : FnScope [p0, p1, p2] [p0, p1, p2] scope) (T : OexC K C) (hno : PySem.W.findIn K (.ref C) f = some none) (hno2 : PySem.W.findIn K (.ref C) g = some none) (hfg : (f == g) = false)
    (h : ∀ (cdv : Value) (Ar : Around) (outer : List PySem.Env) (s : Shared) (H : Hp) (E : XK), PSs (cxOf CX0 P w K mg base [p0, p1, p2] qual scope fa cdv Ar outer s H E).nox body (tSeq (tOst K f (tVar 0) (tVar 1)) (tSeq (tOst K g (tVar 0) (tVar 2)) tNext))) :
    ∃ fd, FnOk P w K mg base CX0 (k + 1) fa fd [p0, p1, p2] (spEx C [f, g]) ∧ FunD K x qual params body scope [] [] fa fd := by
  obtain ⟨fd, F⟩ := F
  refine ⟨fd, F.ok S (fun vs H Q E q => ?_) (fun cdv Ar outer s H vs Q E hr q => ⟨_, (h cdv Ar outer s H E).nox, ?_⟩), F⟩
  · obtain ⟨a, ws, rfl, hl, _⟩ := q
    rw [List.length_cons, hl]; rfl
  · obtain ⟨a, ws, rfl, hl, ha, q⟩ := q
    match ws, hl with
    | [y, z], _ =>
      refine ⟨y, rfl, .ref a, rfl, a, C, rfl, T, hno, .inl ⟨ha, fun dx hd ne => ?_⟩⟩
      refine ⟨z, rfl, .ref a, rfl, a, C, rfl, T, hno2, .inr ⟨dx, [(f, y)], upd_same, by rw [upd_ne ne, upd_same], by simp, ?_⟩⟩
      have e : upd (upd (upd H dx (exd dx [(f, y)])) a (exo a C (some dx))) dx (exd dx [(g, z), (f, y)]) = upd (upd H dx (exd dx [(g, z), (f, y)])) a (exo a C (some dx)) := funext fun b => by
        by_cases c1 : b = dx
        · rw [c1, upd_same, upd_ne ne, upd_same]
        · rw [upd_ne c1]
          by_cases c2 : b = a
          · rw [c2, upd_same, upd_same]
          · rw [upd_ne c2, upd_ne c2, upd_ne c1, upd_ne c1]
      show Q .non _
      rw [e]
      refine q dx [(g, z), (f, y)] hd ne fun i n v hi hv => ?_
      match i with
      | 0 => cases hi; cases hv; simp [List.lookup, hfg]
      | 1 => cases hi; cases hv; simp [List.lookup]
      | i + 2 => cases hi
theorem mkN_oex {X : Cx} {x : Str} {e : Expr} {es : List Expr} {ta : TA} {p pos : Pos} {C fI : Addr} {k : Nat} {fd : FuncData} {ps : List Str} {sp : Sp} (T : OexT X.K C fI) (F1 : FnOk X.prog X.w X.K X.mg X.base CX0 k fI fd ps sp) (hr : Room (k + 1) X.A) (hb : Binds X.K fd ps []) (hg : Gl X x) (hm : X.mg x = some (.ref C)) (ha : PA X (e :: es) ta)
    (hdb : (x == ("__debug__" : Str)) = false := by decide) (he : starEach (e :: es) X.env = (false, eval e X.env) :: starEach es X.env := by rfl) (hpl : (backTo pos (starEach es X.env)).any (·.1) = false := by rfl) :
    L2N.PMk X (.Call (.Name x p) (e :: es) [] pos) (tMkO C sp [] ta) := fun pins s0 σ H Q I h => by
  obtain ⟨c1, c2, c3, c4, c5, c6, c7, c8, c9, c10, c11, c12, c13, c14, c15, low, hv⟩ := T.low.cls
  refine wpAny_Call_Name_kw (ld_glob I hg hm ?_ hdb)
  refine PySem.W.callWith_K (h₀ := X.base) I.ok.mod.kin T.low.kC (thn (ha.run pos pins s0 σ H _ I h) fun us sA ⟨vs, HA, IA, rA, small, want⟩ => ⟨IA.kIn, ?_⟩) he hpl
  obtain ⟨hp, gs, dr, tk, os⟩ := sA
  have fresh : HA (hp.objs.size + 1) = none := IA.hok.fresh (Nat.le_succ _)
  have want := want _ fresh
  rw [List.append_nil] at want
  have stay : ∀ b o, hp.get? b = some o → ((hp.push (PySem.W.kdv_tup us)).push (PySem.HandSPX.excO C hp.objs.size)).get? b = some o := fun b o z => Heap.get?_push_of_some _ (Heap.get?_push_of_some _ z)
  have new : ((hp.push (PySem.W.kdv_tup us)).push (PySem.HandSPX.excO C hp.objs.size)).get? (hp.objs.size + 1) = some (PySem.HandSPX.excO C hp.objs.size) := by heap_get
  have IB := IA.laid (t' := tk) (o := exo (hp.objs.size + 1) C none) stay (Nat.le_succ _) (exo_ok new)
  have rB : Vals (V.ref (hp.objs.size + 1) :: vs) (Value.ref (hp.objs.size + 1) :: us) := .cons rfl rA
  have long : (Value.ref (hp.objs.size + 1) :: us ++ []).length = ps.length := by rw [List.append_nil, ← rB.length]; exact F1.len _ _ _ _ want
  have bound := hb _ (Value.ref (hp.objs.size + 1) :: us) IB.kIn long
  rw [List.append_nil] at bound
  have short : us.length ≤ sizeLine := by rw [← Paired.length rA, sizeLine_eq]; omega
  refine wpAny_call (PySem.HandSPX.call_own F.excBase_ValueError (PySem.HandSPX.refsVE_contains · c5 hv) (IA.kIn _ _ low) (PySem.W.looks_findIn IA.kIn T.ini) (PySem.W.bind_fn IA.kIn · T.fun_) short (codeAny_mono (F1.run _ X.stack _ _ _ _ _ _ E0 (hr.make C us []) (IB.env0.make C us []) bound rB want) fun r sC z => ?_))
  match r, z with
  | .error er, z => exact z.elim
  | .ok .next, z => exact z.elim
  | .ok .brk, z => exact z.elim
  | .ok .cont, z => exact z.elim
  | .ok (.ret u), z =>
    obtain ⟨v, HC, osC, bare, un, hok, rv, ev, d, fs, ea, ed, hd1, q2⟩ := z
    subst ev
    obtain ⟨hC, gC, dC, tC, oC⟩ := sC
    obtain ⟨t0, G, J, kG, ge, hoe, na⟩ := mk_end0 (d2 := dC) (t2 := tC) IA (Nat.le_succ _) stay un hok osC bare ea ed hd1
    exact ⟨rv, _, _, _, ⟨G, gC, dC, tC, oC⟩, _, .ref C, some d, rfl, J, kG, ge, hoe, ⟨rfl, rfl, fun vs hv => by cases hv; rfl⟩, rfl, rfl, na, rfl, bare, raises_own T.low.exC T.low.tyC, q2⟩
theorem mkN_0 {X : Cx} {x : Str} {p pos : Pos} {C : Addr} (T : Ex0T X.K C) (hg : Gl X x) (hm : X.mg x = some (.ref C)) (hdb : (x == ("__debug__" : Str)) = false := by decide) : L2N.PMk X (.Call (.Name x p) [] [] pos) (fun _ H Q => Q (.ref C) none H) := fun pins s σ H Q I h => by
  refine wpAny_Call_Name_kw (ld_glob I hg hm ?_ hdb)
  refine PySem.W.callWith_K0 I.kIn T.kp ?_
  obtain ⟨bm, N, nm, qn, bs, hdct, sn, sub, ab, col, dd, k0, k1, k2, k3, k5, mN, hC, hN, hni, tail⟩ := exc_obj I.kIn T.exc
  exact wpAny_call_exc_subT F.excBase_ValueError tail hC hN hni (fun h' e hm => L2N.mk_of I hm (raises_own T.sub T.ty) h (I.hok.gone hm.new)) (by show 0 ≤ sizeLine; omega)
end
section
variable {β γ : Type} {Γ : TP.Env} {K : PySem.W.Frag}
theorem zip_look {f : Str} {v : Pv} : ∀ {names : List Str} {l : List Pv}, (names.zip l).lookup f = some v → ∃ i : Nat, names[i]? = some f ∧ l[i]? = some v
  | [], _, h => by cases h
  | _ :: _, [], h => by cases h
  | n :: ns, y :: l, h => by
    rw [List.zip_cons_cons] at h
    by_cases c : f = n
    · subst c
      have : y = v := by simpa [List.lookup] using h
      exact ⟨0, rfl, by rw [this]; rfl⟩
    · have cb : (f == n) = false := by simpa using c
      have hf2 : (ns.zip l).lookup f = some v := by simpa [List.lookup, cb] using h
      obtain ⟨i, h1, h2⟩ := zip_look hf2
      exact ⟨i + 1, by simpa using h1, by simpa using h2⟩
theorem evmk_oex {A : ATy β} {c : Str} {names : List Str} {g : β → List Pv} {ta : TA} {mp : Option β} (hA : ∀ G vs p, A.rp G vs p → vs = (g p).map Pv.v) (hn : A.n = names.length) (hz : names ≠ []) (hs : names.length ≤ 1000) (h : EvA ta Γ A mp) :
    EvMk K (tMkO (He.ga K c) (spEx (He.ga K c) names) [] ta) Γ (mp.bind fun p => some ⟨c, names.zip (g p)⟩) := fun e ee H0 G H σ S Q q => by
  obtain ⟨p, ea, ef⟩ := bind_inv ee
  cases ef
  refine h p ea H0 G H σ S _ fun vs G1 H1 s1 r1 => ?_
  have ev := hA _ _ _ r1
  have el : vs.length = names.length := by rw [A.len r1, hn]
  refine ⟨by omega, fun a na => ⟨a, vs ++ [], rfl, by rw [List.append_nil]; exact el, upd_same, fun d gs hd ne hl => ⟨rfl, d, gs, upd_same, by rw [upd_ne ne, upd_same], by rw [upd_ne ne] at hd; exact hd, ?_⟩⟩⟩
  rw [upd_ne ne] at hd
  have e1 : upd (del (upd (upd (upd H1 a (exo a (He.ga K c) none)) d (exd d gs)) a (exo a (He.ga K c) (some d))) a) d (.xd gs) = upd H1 d (.xd gs) := funext fun b => by
    by_cases c1 : b = d
    · rw [c1, upd_same, upd_same]
    · rw [upd_ne c1, upd_ne c1]
      by_cases c2 : b = a
      · rw [c2, del_same, na]
      · rw [del_ne c2, upd_ne c2, upd_ne c1, upd_ne c2]
  rw [e1]
  have sn := Stp.new (o := HO.xd gs) s1.m hd
  refine q _ _ _ _ (s1.trans sn) ⟨rfl, .inr ⟨d, gs, rfl, upd_same, fun f v hf => ?_⟩⟩
  rw [List.append_nil] at hl
  subst ev
  have hlen : (g p).length = names.length := by rw [← el, List.length_map]
  obtain ⟨i, h1, h2⟩ := zip_look hf
  exact hl i f v.v h1 (by rw [List.getElem?_map, h2]; rfl)
theorem evmk_0 {c : Str} : EvMk K (fun _ H Q => Q (.ref (He.ga K c)) none H) Γ (some ⟨c, []⟩) := fun e ee H0 G H σ S Q q => by
  cases ee
  exact q _ _ G H (Stp.refl S.m) ⟨rfl, .inl ⟨rfl, rfl⟩⟩
end
end TP
set_option maxHeartbeats 2000000
namespace TP
open PySem PySem.Spec PyProof.Rows L2
section
variable {prog : Program} {w : World} {A : Around} {E : Value → Shared → Prop} {s : Shared} {K : PySem.W.Frag} {x D : Addr} {ox : Obj} {od : Option Obj}
theorem class_told (T : ExcC K D) : PySem.W.findObj K D od "__class__" = some (.bind (.builtin "getset_descriptor.__get__") (.builtin "object.__class__")) := by
  obtain ⟨cd, hc, _⟩ := PySem.W.any_some T.hd
  unfold PySem.W.findObj
  rw [hc, Option.bind_some, T.ha, Option.bind_some]
  simp [T.hn, T.ht]
theorem class_ask {Q : Option Value → Shared → Prop} (T : ExcC K D) (X : K.In s.heap) (I : PySem.W.InstAt s.heap x ox D od) (h : Q (some (.ref D)) { s with toks := s.toks + 1 }) : wpAny (model prog w) A (getAttr? (.ref x) "__class__") Q E s := by
  obtain ⟨hp, g, d, t, os⟩ := s
  have ty := I.type (M := model prog w)
  have n1 : (Value.builtin "BaseException.__getattribute__" == Value.builtin "object.__getattribute__") = false := by decide +kernel
  have n2 : (onTheHeap (Value.ref D) && Value.builtin "BaseException.__getattribute__" == Value.builtin "object.__getattribute__") = false := by rw [n1]; rfl
  unfold getAttr? getAttrBy? getAttrBy
  refine wpAny_bind (wpAny_mkText (wpAny_bind (wpAny_attempt (wpAny_holding (wpAny_bind (ty.at (wpAny_bind ((PySem.W.looks_findIn X T.hg).at ?_))))))))
  show wpAny _ _ (if (onTheHeap (Value.ref D) && Value.builtin "BaseException.__getattribute__" == Value.builtin "object.__getattribute__") = true then _ else _) _ _ _
  rw [n2, if_neg Bool.false_ne_true]
  unfold getAttrByItsOwn hookBefore; refine wpAny_bind ?_
  rw [if_pos (show onTheHeap (Value.ref D) = true from rfl)]
  refine (PySem.W.looks_findIn X T.hk).at (wpAny_bind (wpAny_attempt (wpAny_holding ?_)))
  unfold callGetattribute
  rw [show (false && onTheHeap (Value.builtin "BaseException.__getattribute__")) = false from rfl, if_neg Bool.false_ne_true]
  unfold boundAndCalled
  rw [PySem.F.excAttr_ValueError.ga.bind (.ref x)]
  refine wpAny_bind (wpAny_pure (?_ : wpAny _ _ (call (.builtin "BaseException.__getattribute__") [.ref x, .str "__class__" t]) _ _ _))
  refine wpAny_call (codeAny_call_builtin PySem.F.excAttr_ValueError.ga.plain PySem.F.entry_bexc_ga (@PySem.W.check_slot (model prog w) _ _ ⟨hp, g, d, t + 1, os⟩ "BaseException.__getattribute__" "BaseException" "__getattribute__" (.ref x) [.str "__class__" t] [] _ (by decide +kernel) (by decide +kernel) (ty.andThen (PySem.W.looks_subIn X T.hs)) (PySem.F.args_bexc_ga (.ref x) (.str "__class__" t)) ?_))
  unfold Builtin.«object.__getattribute__»
  refine wpAny_bind (wpAny_of_eq (a := ((Value.ref x : Value), [Value.str "__class__" t])) (by first | rfl | (simp only [slotArgs]; rfl)) (wpAny_bind (wpAny_pure (wpAny_bind (ty.at (wpAny_bind ((PySem.W.looks_find X I (class_told T)).at ?_)))))))
  show wpAny _ _ (holding [Value.builtin "object.__class__"] (call (.builtin "getset_descriptor.__get__") [.builtin "object.__class__", .ref x, .ref D]) >>= ret) _ _ _
  refine wpAny_bind (wpAny_holding (wpAny_call (PySem.W.class_get (s := ⟨hp, g, d, t + 1, os⟩) (ox := ox) (od := od) X I T.hm (wpAny_pure (?_ : wpAny _ _ (handedOut (.ref D)) _ _ _)))))
  rw [PySem.W.handedOut_of (v := .ref D) rfl]
  first
    | exact wpAny_pure (wpAny_pure h)
    | exact wpAny_pure h
    | exact wpAny_pure (wpAny_bind (wpAny_pure (wpAny_pure h)))
theorem kit_err (T : ExcC K D) : PySem.W.KitX K (.ref x) (.ref D) (fun h => PySem.W.InstAt h x ox D od) := by
  obtain ⟨cd, hc, _⟩ := PySem.W.any_some T.hd
  have lk : ∃ c' d' sl', K.lookup D = some ⟨c', d', .cls cd, sl'⟩ := by
    unfold PySem.W.clsIn at hc
    split at hc
    · rename_i c' d' cd' sl' ho
      cases hc
      exact ⟨c', d', sl', ho⟩
    · cases hc
  obtain ⟨c', d', sl', ho⟩ := lk
  exact { ty := fun _ _ _ I => I.type
          it := fun _ _ X _ A' Q' E' s' k q => by
            unfold isType loadHead
            exact wpAny_bind (wpAny_loadPart (k _ _ (X _ _ ho)) (wpAny_pure q))
          ne := fun h tp dd its n sl X htp => Bool.eq_false_iff.mpr fun q => by
            have e : D = tp := Value.ref.inj (beq_iff_eq.mp q)
            subst e
            cases (X _ _ ho).symm.trans htp
          ca := fun X I k => class_ask T X I k }
end
def rIsX (K : PySem.W.Frag) (a : Addr) (cls : Value) (d : Option Addr) : List V → Hp → VK → Prop := fun xs H Q => ∃ (D : Addr) (c : V) (cv : Value) (b : Bool), cls = .ref D ∧ ExcC K D ∧ (d = none ∨ ∃ dd ws, d = some dd ∧ H dd = some (.xd ws)) ∧ xs = [.ref a, c] ∧ (∀ u, RelV c u → u = cv) ∧
  PySem.W.kitOne K (.ref D) cv = some b ∧ Q (.bl b) H
theorem call_isX {X : Cx} {a : Addr} {oe : Obj} {cls : Value} {d : Option Addr} {pn : List (Addr × Obj)} (hz : Zc cls d oe) (hf : ∃ vs, oe.data = .fields vs) : CallR (X.suite a ((a, oe) :: pn)) (.builtin "isinstance") (rIsX X.K a cls d) := by
  intro pins s σ H xs us Q I r h
  obtain ⟨D, c, cv, b, ec, T, hd, rfl, hcv, e, q⟩ := h
  obtain ⟨u1, u2, rfl, r1, r2⟩ := vals2 r
  obtain rfl : u1 = Value.ref a := r1
  obtain rfl := hcv _ r2
  obtain ⟨hget, _⟩ := I.pin (a, oe) (List.mem_append_left _ List.mem_cons_self)
  obtain ⟨vs, hv⟩ := hf
  have J : ∃ od, PySem.W.InstAt s.heap a oe D od := by
    have nc : PySem.W.notCls oe = true := by unfold PySem.W.notCls; rw [hv] <;> rfl
    rcases hd with rfl | ⟨dd, ws, rfl, hw⟩
    · exact ⟨none, hget, hz.1.trans ec, nc, by rw [hz.2] <;> trivial⟩
    · have hx : ObjOk X.prog X.w H s.heap dd (.xd ws) := I.hok dd _ hw
      obtain ⟨mA, hns, _⟩ := hx
      obtain ⟨od, ho, _⟩ := lookIn_ns hns
      exact ⟨some od, hget, hz.1.trans ec, nc, by rw [hz.2]; exact ho⟩
  obtain ⟨od, J⟩ := J
  exact PySem.W.kia_one (kit_err T) I.kIn J e (fun z => nomatch z) fun tk => ⟨.bl b, H, I.kept (t' := tk) fun _ _ z => z, rfl, q⟩
def tyK (K : PySem.W.Frag) (D : Str) : Ty Unit := ⟨fun _ v _ => v = .ref (He.ga K D), fun _ h => h⟩
def TabK (K : PySem.W.Frag) (c : Value) : List (Str × Bool) → Prop
  | [] => True
  | (C, b) :: t => (ExkT K (He.ga K C) ∧ PySem.W.kitOne K (.ref (He.ga K C)) c = some b) ∧ TabK K c t
theorem TabK.at {K : PySem.W.Frag} {c : Value} {x : Str} {b : Bool} : ∀ {t : List (Str × Bool)}, TabK K c t → t.lookup x = some b → ExkT K (He.ga K x) ∧ PySem.W.kitOne K (.ref (He.ga K x)) c = some b
  | [], _, h => by cases h
  | (C, b') :: t, ⟨h1, h2⟩, h => by
    by_cases e : x = C
    · subst e
      have : b' = b := by simpa [List.lookup] using h
      rw [← this]; exact h1
    · have cb : (x == C) = false := by simpa using e
      exact TabK.at h2 (by simpa [List.lookup, cb] using h)
def isTab (t : List (Str × Bool)) (p : Er × Unit × Unit) : Option Bool := t.lookup p.1.c
def TabM (K : PySem.W.Frag) (c : Value) : List (Str × Bool) → Prop
  | [] => True
  | (C, b) :: t => PySem.W.exmOne K (.ref (He.ga K C)) c = some b ∧ TabM K c t
theorem TabM.at {K : PySem.W.Frag} {c : Value} {x : Str} {b : Bool} : ∀ {t : List (Str × Bool)}, TabM K c t → t.lookup x = some b → PySem.W.exmOne K (.ref (He.ga K x)) c = some b
  | [], _, h => by cases h
  | (C, b') :: t, ⟨h1, h2⟩, h => by
    by_cases e : x = C
    · subst e
      have : b' = b := by simpa [List.lookup] using h
      rw [← this]; exact h1
    · have cb : (x == C) = false := by simpa using e
      exact TabM.at h2 (by simpa [List.lookup, cb] using h)
def isM (t : List (Str × Bool)) (e : Er) : Bool := match t.lookup e.c with
  | some b => b
  | none => false
theorem isM_ok {K : PySem.W.Frag} {c : Value} {t : List (Str × Bool)} (h : TabM K c t) : ∀ e cls d G, ErOk K G cls d e → isM t e = true → PySem.W.exmOne K cls c = some true := fun e cls d G r m => by
  rw [r.1]
  unfold isM at m
  cases q : t.lookup e.c with
  | none => rw [q] at m; cases m
  | some b => rw [q] at m; rw [← show b = true from m]; exact h.at q
def Er.int (C f : Str) (e : Er) : Option Int := if e.c = C then (match e.fs.lookup f with
  | some (.i x) => some x
  | _ => none) else none
def Er.str (C f : Str) (e : Er) : Option PySem.Str := if e.c = C then (match e.fs.lookup f with
  | some (.s x) => some x
  | _ => none) else none
section
variable {α β γ δ ι : Type} {te ta tb tc : TE} {Γ : TP.Env} {T : Ty α} {K : PySem.W.Frag} {a : Addr} {cls : Value} {d : Option Addr}
theorem ErOk.dict {G : Hp} {e : Er} (r : ErOk K G cls d e) : d = none ∨ ∃ dd ws, d = some dd ∧ G dd = some (.xd ws) := by
  rcases r.2 with ⟨_, h⟩ | ⟨dd, ws, h1, h2, _⟩
  · exact .inl h
  · exact .inr ⟨dd, ws, h1, h2⟩
theorem cv_isX {D : Str} {t : List (Str × Bool)} (ht : TabK K (.ref (He.ga K D)) t) : CallV (rIsX K a cls d) (aC (tyE K a cls d) (aC (tyK K D) aN)) tyB (isTab t) := fun p z e G H vs eG r Q q => by
  obtain ⟨v, u, rfl, h1, h2⟩ := two_arg r
  obtain ⟨rfl, ro⟩ := h1
  cases h2
  have k := ht.at (x := p.1.c) e
  exact ⟨_, _, .ref (He.ga K D), z, ro.1, k.1.ec, (ro.mono eG).dict, rfl, fun u h => h, k.2, q _ G H (Stp.refl eG) rfl⟩
theorem cv_isXB {n : String} {t : List (Str × Bool)} (ht : TabK K (.type n) t) : CallV (rIsX K a cls d) (aC (tyE K a cls d) (aC (tyC n) aN)) tyB (isTab t) := fun p z e G H vs eG r Q q => by
  obtain ⟨v, u, rfl, h1, h2⟩ := two_arg r
  obtain ⟨rfl, ro⟩ := h1
  cases h2
  have k := ht.at (x := p.1.c) e
  exact ⟨_, _, .type n, z, ro.1, k.1.ec, (ro.mono eG).dict, rfl, fun u h => h, k.2, q _ G H (Stp.refl eG) rfl⟩
theorem ev_clsK {D : Str} : Ev (tC (.ref (He.ga K D))) Γ (tyK K D) (some ()) := ev_c fun _ => rfl
theorem ev_xf {C f : Str} {m : Option Er} (h : Ev te Γ (tyE K a cls d) m) : Ev (tXf a cls d (He.ga K C) f te) Γ tyI (m.bind (Er.int C f)) := fun z e H0 G H σ S Q q => by
  obtain ⟨x, ea, ex⟩ := bind_inv e
  unfold Er.int at ex
  by_cases c : x.c = C
  case neg => rw [if_neg c] at ex; cases ex
  rw [if_pos c] at ex
  refine h x ea H0 G H σ S _ fun v G1 H1 s1 r1 => ?_
  obtain ⟨rfl, r1, r2⟩ := r1
  refine ⟨rfl, by rw [r1, c], ?_⟩
  cases l : x.fs.lookup f with
  | none => rw [l] at ex; cases ex
  | some w =>
    rw [l] at ex
    rcases r2 with ⟨r2, _⟩ | ⟨dd, ws, e1, e2, e3⟩
    · rw [r2] at l; cases l
    · cases w with
      | s _ => cases ex
      | i y =>
        cases ex
        exact ⟨dd, ws, _, e1, s1.m _ _ e2, e3 _ _ l, q _ G1 H1 s1 rfl⟩
theorem ev_xfS {C f : Str} {m : Option Er} (h : Ev te Γ (tyE K a cls d) m) : Ev (tXf a cls d (He.ga K C) f te) Γ tyS (m.bind (Er.str C f)) := fun z e H0 G H σ S Q q => by
  obtain ⟨x, ea, ex⟩ := bind_inv e
  unfold Er.str at ex
  by_cases c : x.c = C
  case neg => rw [if_neg c] at ex; cases ex
  rw [if_pos c] at ex
  refine h x ea H0 G H σ S _ fun v G1 H1 s1 r1 => ?_
  obtain ⟨rfl, r1, r2⟩ := r1
  refine ⟨rfl, by rw [r1, c], ?_⟩
  cases l : x.fs.lookup f with
  | none => rw [l] at ex; cases ex
  | some w =>
    rw [l] at ex
    rcases r2 with ⟨r2, _⟩ | ⟨dd, ws, e1, e2, e3⟩
    · rw [r2] at l; cases l
    · cases w with
      | i _ => cases ex
      | s y =>
        cases ex
        exact ⟨dd, ws, _, e1, s1.m _ _ e2, e3 _ _ l, q _ G1 H1 s1 rfl⟩
end
section
variable {β γ α : Type} {K : PySem.W.Frag} {P : Program} {w : World} {mg : Str → Option Value} {base : Heap}
abbrev VE (E : XK) : WX := fun cls d _ H => E cls d H
def outXN {δ : Type} (m : Option (Fl (Res Unit) δ)) : Option (Res Unit) := m.bind fun x => match x with
  | .ret r => some r
  | .nx _ => some (.ok ())
@[simp] theorem outXN_ret {δ : Type} (r : Res Unit) : outXN (some (.ret r) : Option (Fl (Res Unit) δ)) = some r := rfl
@[simp] theorem outXN_nx {δ : Type} (b : δ) : outXN (some (.nx b) : Option (Fl (Res Unit) δ)) = some (.ok ()) := rfl
theorem okx_pure {x qual : Str} {params : Arguments} {body : List Stmt} {scope : Scope} {fa : Addr} {N ps : List Str} {k : Nat} {A : ATy β} {T : Ty γ} {f : β → Option (Res γ)} {sl : β → TP.Env} (F : ∃ fd, FunD K x qual params body scope [] [] fa fd) (S : FnScope N ps scope) (hs : ASl A sl) (hn : A.n = ps.length) (hN : A.n ≤ N.length)
    (hb : ∀ (kV doc pm : Value) (an : Option Addr) (cdv ct : Value) (us : List Value), us.length = ps.length → bindArgs (PySem.W.fnOf x qual params body scope .none kV doc pm an cdv ct) ⟨us, []⟩ = pure (ps.zip us))
    (h : ∀ (cdv : Value) (Ar : Around) (outer : List PySem.Env) (s : Shared) (H : Hp) (E : XK), Room k (Ar.deeper (envOfC qual scope s.heap.objs.size fa cdv)) →
      ∃ t, PSs (cxOf (L2N.CX P w) P w K mg base N qual scope fa cdv Ar outer s H E) body t ∧ ∀ p, ∃ m : Option (Fl (Res γ) Unit), f p = outF m ∧ Sd t (sl p ++ List.replicate (N.length - A.n) .no) (xW (pureR T) K (VE E) (List.replicate N.length .no)) (noE N.length) m) :
    OkX P w K mg base (k + 1) fa ps (spX K A T f) := by
  obtain ⟨fd, F⟩ := F
  refine ⟨⟨fd, F.ok S (fun vs H Q E q => ?_) (fun cdv Ar outer s H vs Q E hr q => ?_), F.bindsN hb, FunD.lk F⟩, F.kp⟩
  · obtain ⟨p, r, G, _, _, ra, _⟩ := q
    rw [A.len ra, hn]
  · obtain ⟨p, r, G, ef, eG, ra, q⟩ := q
    obtain ⟨t, d, m⟩ := h cdv Ar outer s H E hr
    refine ⟨t, d, ?_⟩
    obtain ⟨m, em, sd⟩ := m p
    rw [em] at ef
    obtain ⟨o, eo, e⟩ := bind_inv ef
    refine sd o eo H G G H _ (start_slots hs ra eG hN) (Stp.refl eG) _ ?_
    cases o with
    | nx b => cases e
    | ret r' =>
      cases e
      cases r with
      | ok x => exact fun v G' H' s' rv => q v G' H' s' rv
      | er e => exact fun cls d σ' G' H' _ s' _ ro => q cls d G' H' s' ro
theorem okx_new {x qual : Str} {params : Arguments} {body : List Stmt} {scope : Scope} {fa : Addr} {N ps : List Str} {k : Nat} {A : ATy β} {T : Ty α} {f : β → Option (Res (List α))} {sl : β → TP.Env} (F : ∃ fd, FunD K x qual params body scope [] [] fa fd) (S : FnScope N ps scope) (hs : ASl A sl) (hn : A.n = ps.length) (hN : A.n ≤ N.length)
    (hb : ∀ (kV doc pm : Value) (an : Option Addr) (cdv ct : Value) (us : List Value), us.length = ps.length → bindArgs (PySem.W.fnOf x qual params body scope .none kV doc pm an cdv ct) ⟨us, []⟩ = pure (ps.zip us))
    (h : ∀ (cdv : Value) (Ar : Around) (outer : List PySem.Env) (s : Shared) (H : Hp) (E : XK), Room k (Ar.deeper (envOfC qual scope s.heap.objs.size fa cdv)) →
      ∃ t, PSs (cxOf (L2N.CX P w) P w K mg base N qual scope fa cdv Ar outer s H E) body t ∧ ∀ p, ∃ m : Option (Fl (Res (List α)) Unit), f p = outF m ∧ Sd t (sl p ++ List.replicate (N.length - A.n) .no) (xW (newR T) K (VE E) (List.replicate N.length .no)) (noE N.length) m) :
    OkX P w K mg base (k + 1) fa ps (spXN K A T f) := by
  obtain ⟨fd, F⟩ := F
  refine ⟨⟨fd, F.ok S (fun vs H Q E q => ?_) (fun cdv Ar outer s H vs Q E hr q => ?_), F.bindsN hb, FunD.lk F⟩, F.kp⟩
  · obtain ⟨p, r, G, _, _, ra, _⟩ := q
    rw [A.len ra, hn]
  · obtain ⟨p, r, G, ef, eG, ra, q⟩ := q
    obtain ⟨t, d, m⟩ := h cdv Ar outer s H E hr
    refine ⟨t, d, ?_⟩
    obtain ⟨m, em, sd⟩ := m p
    rw [em] at ef
    obtain ⟨o, eo, e⟩ := bind_inv ef
    refine sd o eo H G G H _ (start_slots hs ra eG hN) (Stp.refl eG) _ ?_
    cases o with
    | nx b => cases e
    | ret r' =>
      cases e
      cases r with
      | ok x =>
        intro v G' H' s' rv
        obtain ⟨p, ws, rfl, h0, hg, hp, rr⟩ := rv
        exact q p ws G' H' s' h0 hg hp rr
      | er e => exact fun cls d σ' G' H' _ s' _ ro => q cls d G' H' s' ro
theorem okx_none {x qual : Str} {params : Arguments} {body : List Stmt} {scope : Scope} {fa : Addr} {N ps : List Str} {k : Nat} {A : ATy β} {f : β → Option (Res Unit)} {sl : β → TP.Env} (F : ∃ fd, FunD K x qual params body scope [] [] fa fd) (S : FnScope N ps scope) (hs : ASl A sl) (hn : A.n = ps.length) (hN : A.n ≤ N.length)
    (hb : ∀ (kV doc pm : Value) (an : Option Addr) (cdv ct : Value) (us : List Value), us.length = ps.length → bindArgs (PySem.W.fnOf x qual params body scope .none kV doc pm an cdv ct) ⟨us, []⟩ = pure (ps.zip us))
    (h : ∀ (cdv : Value) (Ar : Around) (outer : List PySem.Env) (s : Shared) (H : Hp) (E : XK), Room k (Ar.deeper (envOfC qual scope s.heap.objs.size fa cdv)) →
      ∃ t, PSs (cxOf (L2N.CX P w) P w K mg base N qual scope fa cdv Ar outer s H E) body t ∧ ∀ p, ∃ m : Option (Fl (Res Unit) Unit), f p = outXN m ∧ Sd t (sl p ++ List.replicate (N.length - A.n) .no) (xW (pureR tyN) K (VE E) (List.replicate N.length .no)) (noE N.length) m) :
    OkX P w K mg base (k + 1) fa ps (spX K A tyN f) := by
  obtain ⟨fd, F⟩ := F
  refine ⟨⟨fd, F.ok S (fun vs H Q E q => ?_) (fun cdv Ar outer s H vs Q E hr q => ?_), F.bindsN hb, FunD.lk F⟩, F.kp⟩
  · obtain ⟨p, r, G, _, _, ra, _⟩ := q
    rw [A.len ra, hn]
  · obtain ⟨p, r, G, ef, eG, ra, q⟩ := q
    obtain ⟨t, d, m⟩ := h cdv Ar outer s H E hr
    refine ⟨t, d, ?_⟩
    obtain ⟨m, em, sd⟩ := m p
    rw [em] at ef
    obtain ⟨o, eo, e⟩ := bind_inv ef
    refine sd o eo H G G H _ (start_slots hs ra eG hN) (Stp.refl eG) _ ?_
    cases o with
    | nx b => cases e; exact fun σ G' H' S' s' _ => q .non G' H' s' rfl
    | ret r' =>
      cases e
      cases r with
      | ok x => exact fun v G' H' s' rv => q v G' H' s' rv
      | er e => exact fun cls d σ' G' H' _ s' _ ro => q cls d G' H' s' ro
end
section
variable {ft : List Ft} {fn : List He5.DefA} {K : PySem.W.Frag} {mg : Str → Option Value}
theorem Cn.kit (T : Cn ft fn K mg) (i : Nat) {C D : Str} {b : Bool} (h : ft[i]? = some (.kit C D b) := by rfl) : PySem.W.kitOne K (.ref (He.ga K C)) (.ref (He.ga K D)) = some b := of_decide_eq_true (T.says.fact i h)
theorem Cn.kitB (T : Cn ft fn K mg) (i : Nat) {C : Str} {n : String} {b : Bool} (h : ft[i]? = some (.kitB C n b) := by rfl) : PySem.W.kitOne K (.ref (He.ga K C)) (.type n) = some b := of_decide_eq_true (T.says.fact i h)
end
section
variable {X : Cx} {f C : Addr} {t : TA} {ps : List Str} {sp : Sp} {x : Str} {p pos : Pos} {e : Expr} {es : List Expr}
theorem mkN_oexF {k : Nat} {q qual : Str} {params : Arguments} {body : List Stmt} {scope : Scope} (T : OexT X.K C f) (F : ∃ fd, FnOk X.prog X.w X.K X.mg X.base CX0 k f fd ps sp ∧ FunD X.K q qual params body scope [] [] f fd) (hr : Room (k + 1) X.A) (hg : Gl X x) (hm : X.mg x = some (.ref C))
    (hb : ∀ (kV doc pm : Value) (an : Option Addr) (cdv ct : Value) (us : List Value), us.length = ps.length → bindArgs (PySem.W.fnOf q qual params body scope .none kV doc pm an cdv ct) ⟨us, []⟩ = pure (ps.zip us)) (ha : PA X (e :: es) t) (hdb : (x == ("__debug__" : Str)) = false := by decide)
    (he : starEach (e :: es) X.env = (false, eval e X.env) :: starEach es X.env := by rfl) (hpl : (backTo pos (starEach es X.env)).any (·.1) = false := by rfl) : L2N.PMk X (.Call (.Name x p) (e :: es) [] pos) (tMkO C sp [] t) := by
  obtain ⟨fd, G, D⟩ := F
  exact mkN_oex T G hr (D.bindsN hb) hg hm ha hdb he hpl
end
section
variable {X : Cx} {k : Nat} {f C : Addr} {ps : List Str} {sp : Sp} {x : Str} {p pos : Pos} {e : Expr} {es : List Expr} {t : TA} {V : WX}
theorem pe_callXF (F : OkX X.prog X.w X.K X.mg X.base k f ps sp) (hr : Room k X.A) (tk : L2N.Takes X V) (hg : Gl X x) (hm : X.mg x = some (.ref f)) (ha : PA X (e :: es) t) (hdb : (x == ("__debug__" : Str)) = false := by decide)
    (he : starEach (e :: es) X.env = (false, eval e X.env) :: starEach es X.env := by rfl) (hpl : (backTo pos (starEach es X.env)).any (·.1) = false := by rfl) : PE X (.Call (.Name x p) (e :: es) [] pos) (tCallS sp (WE V) t) := by
  obtain ⟨fd, G, b, _⟩ := F.ex
  exact pe_callS G hr hg hm F.kp b (fun σ => L2N.passAt tk σ) ha hdb he hpl
theorem roomHm {k : Nat} {A : Around} (r : Room k A) (h : Option Value) : L2H.RoomH k (A.mark h) := ⟨r.dp, r.un⟩
theorem takesN0 : L2N.Takes X (fun _ _ _ _ => False) := fun _ _ ⟨_, _, _, _, _, _, _, _, _, _, _, _, _, _, _, _, z⟩ => z.elim
theorem ps_rs {t : L2.St → Hp → XK → Prop} {pos : Pos} (hc : X.calm = true) (tk : L2N.Takes X V) (he : L2N.PMk X e t) : PS X (.Raise (some e) none pos) (tRs V t) := L2N.ps_raise hc tk he
structure OkH (P : Program) (w : World) (K : PySem.W.Frag) (mg : Str → Option Value) (base : Heap) (k : Nat) (f : Addr) (ps : List Str) (sp : Sp) : Prop where
  ex : ∃ fd, L2H.FnH P w K mg base CX0 k f fd ps sp ∧ Binds K fd ps []
  kp : PySem.W.keepIn K (.ref f) = true
theorem pe_callHF (F : OkH X.prog X.w X.K X.mg X.base k f ps sp) (hr : L2H.RoomH k X.A) (hc : L2H.HotC X) (hg : Gl X x) (hm : X.mg x = some (.ref f)) (ha : PA X (e :: es) t) (hdb : (x == ("__debug__" : Str)) = false := by decide)
    (he : starEach (e :: es) X.env = (false, eval e X.env) :: starEach es X.env := by rfl) (hpl : (backTo pos (starEach es X.env)).any (·.1) = false := by rfl) : PE X (.Call (.Name x p) (e :: es) [] pos) (tCallS sp (fun _ => E0) t) := by
  obtain ⟨fd, G, b⟩ := F.ex
  exact L2H.pe_callH G hr hc hg hm F.kp b (fun _ _ _ _ _ _ _ z => z.elim) ha hdb he hpl
theorem hot_suite {a : Addr} {oe : Obj} {cls : Value} {d : Option Addr} {pn : List (Addr × Obj)} (hz : L2N.Zn cls d oe) (hf : ∃ vs, oe.data = .fields vs) : L2H.HotC (X.suite a ((a, oe) :: pn)) := by
  obtain ⟨vs, hv⟩ := hf
  exact ⟨(a, oe), ⟨rfl, vs, hv, hz.2.2 vs hv⟩, List.mem_cons_self⟩
end
section
variable {α β γ : Type} {Γ : TP.Env} {K : PySem.W.Frag} {P : Program} {w : World} {mg : Str → Option Value} {base : Heap}
theorem ev_callS {ta : TA} {A : ATy β} {T : Ty α} {f : β → Option α} {mp : Option β} {E : L2.St → XK} (h : EvA ta Γ A mp) : Ev (tCallS (spOf A T f) E ta) Γ T (mp.bind f) := fun z e H0 G H σ S Q q => by
  obtain ⟨x, ea, ef⟩ := bind_inv e
  exact h x ea H0 G H σ S _ fun vs G1 H1 s1 r1 => ⟨x, z, G1, ef, s1.m, r1, fun v G2 H2 s2 r2 => q v G2 H2 (s1.trans s2) r2⟩
theorem okh_pure {x qual : Str} {params : Arguments} {body : List Stmt} {scope : Scope} {fa : Addr} {N ps : List Str} {k : Nat} {A : ATy β} {T : Ty γ} {f : β → Option γ} {sl : β → TP.Env} (F : ∃ fd, FunD K x qual params body scope [] [] fa fd) (S : FnScope N ps scope) (hs : ASl A sl) (hn : A.n = ps.length) (hN : A.n ≤ N.length)
    (hb : ∀ (kV doc pm : Value) (an : Option Addr) (cdv ct : Value) (us : List Value), us.length = ps.length → bindArgs (PySem.W.fnOf x qual params body scope .none kV doc pm an cdv ct) ⟨us, []⟩ = pure (ps.zip us))
    (h : ∀ (cdv : Value) (Ar : Around) (outer : List PySem.Env) (s : Shared) (H : Hp) (E : XK) (q : Addr × Obj), L2H.RoomH k (Ar.deeper (envOfC qual scope s.heap.objs.size fa cdv)) → L2H.HotC (L2H.cxH CX0 P w K mg base N qual scope fa cdv Ar outer s H E q) →
      ∃ t, PSs (L2H.cxH CX0 P w K mg base N qual scope fa cdv Ar outer s H E q).nox body t ∧ ∀ p, ∃ m : Option (Fl γ Unit), f p = outF m ∧ Sd t (sl p ++ List.replicate (N.length - A.n) .no) (pureR T) (noE N.length) m) :
    OkH P w K mg base (k + 1) fa ps (spOf A T f) := by
  obtain ⟨fd, F⟩ := F
  have b := F.bindsN hb
  obtain ⟨oc, od, dV, kV, doc, pm, an, cdv, ct, osl, rfl, lk, hcd, _, _⟩ := F.ex
  refine ⟨⟨_, L2H.fn_ofH lk hcd S (fun vs H Q E q => ?_) (fun Ar outer s H vs Q E q hot hr z => ?_), b⟩, F.kp⟩
  · obtain ⟨p, r, G, _, _, ra, _⟩ := q
    rw [A.len ra, hn]
  · obtain ⟨p, r, G, ef, eG, ra, z⟩ := z
    obtain ⟨t, d, m⟩ := h cdv Ar outer s H E q hr ⟨q, hot, List.mem_singleton.mpr rfl⟩
    refine ⟨t, d.nox, ?_⟩
    obtain ⟨m, em, sd⟩ := m p
    rw [em] at ef
    obtain ⟨o, eo, e⟩ := bind_inv ef
    refine sd o eo H G G H _ (start_slots hs ra eG hN) (Stp.refl eG) _ ?_
    cases o with
    | ret r' => cases e; exact fun v G' H' s' rv => z v G' H' s' rv
    | nx b => cases e
end
section
variable {α β γ δ : Type} {te : TE} {Γ Γx : TP.Env} {T : Ty α} {K : PySem.W.Frag} {env : β → TP.Env} {rest : TS} {W : Rt γ} {V : WX}
theorem sd_raiseP {t : L2.St → Hp → XK → Prop} {mp : Option α} {F : α → Er} (wk : Wk Γ Γx) (h : EvMk K t Γ (mp.bind fun p => some (F p))) : Sd (tSeq (tRs V t) rest) Γ (xW W K V Γx) env (mp.bind fun p => some (.ret (.er (F p)))) := fun o e => by
  refine sd_raise wk h o ?_
  cases mp with
  | none => cases e
  | some p => exact e
theorem sd_drop {m : Option α} {f : α → Option (Fl γ β)} (h : Ev te Γ T m) (hr : ∀ x, Sd rest Γ W env (f x)) : Sd (tSeq (tDrop te) rest) Γ W env (m.bind f) := fun o e H0 G0 G H σ S s D k => by
  obtain ⟨x, ea, e⟩ := bind_inv e
  exact h x ea H0 G H σ S _ fun v G1 H1 s1 _ => hr x o e H0 G0 G1 H1 _ (S.step s1) (s.trans s1) D (k.mono s1.g)
end
section
variable {α : Type} {te : TE} {Γ : TP.Env} {T : Ty α} {K : PySem.W.Frag}
def lApp (m r : Option (List α)) : Option (List α) := m.bind fun x => r.bind fun y => some (x ++ y)
@[simp] theorem lApp_some (x y : List α) : lApp (some x) (some y) = some (x ++ y) := rfl
theorem evas_starL {tr : TA} {mx mr : Option (List α)} (h : Ev te Γ (tyL T) mx) (hr : EvAs tr Γ T mr) : EvAs (StX.tStar K te tr) Γ T (lApp mx mr) := fun z e H0 G H σ S Q q => by
  obtain ⟨x, ea, e⟩ := bind_inv e
  obtain ⟨y, eb, e⟩ := bind_inv e
  cases e
  refine h x ea H0 G H σ S _ fun v G1 H1 s1 r1 => ?_
  obtain ⟨p, ws, rfl, hp, r1⟩ := r1
  refine ⟨p, ws, rfl, .inr (SqL.of (s1.m _ _ hp)), hr y eb H0 G1 H1 σ (S.step s1) _ fun vs G2 H2 s2 r2 => ?_⟩
  exact q _ G2 H2 (s1.trans s2) ((r1.mono fun _ _ z => T.mono s2.g z).app r2)
theorem evas_starU {tr : TA} {mx mr : Option (List α)} (h : Ev te Γ (tyU K T) mx) (hr : EvAs tr Γ T mr) : EvAs (StX.tStar K te tr) Γ T (lApp mx mr) := fun z e H0 G H σ S Q q => by
  obtain ⟨x, ea, e⟩ := bind_inv e
  obtain ⟨y, eb, e⟩ := bind_inv e
  cases e
  refine h x ea H0 G H σ S _ fun v G1 H1 s1 r1 => ?_
  obtain ⟨p, ws, rfl, hp, r1⟩ := r1
  refine ⟨p, ws, rfl, .inl (SqT.mono s1.m hp), hr y eb H0 G1 H1 σ (S.step s1) _ fun vs G2 H2 s2 r2 => ?_⟩
  exact q _ G2 H2 (s1.trans s2) ((r1.mono fun _ _ z => T.mono s2.g z).app r2)
end
theorem bo_ValueError : bootBuiltins "ValueError" = some (.type "ValueError") := by decide +kernel
end TP
set_option maxHeartbeats 2000000
namespace TP
open PySem PySem.Spec PyProof.Rows L2
section
variable {K : PySem.W.Frag} {α β γ τ : Type} {Γ : TP.Env} {T : Ty τ} {te ta : TE}
def tyV (K : PySem.W.Frag) {α β : Type} (A : ATy α) (B : ATy β) : Ty (α ⊕ β) :=
  ⟨fun H v x => match x with | .inl a => (tyH K A).rp H v a | .inr b => (tyH K B).rp H v b,
   fun {H H' v x} e h => by
    cases x with
    | inl a => exact (tyH K A).mono e h
    | inr b => exact (tyH K B).mono e h⟩
def mInl {α : Type} (β : Type) (m : Option α) : Option (α ⊕ β) := m.bind fun x => some (.inl x)
def mInr (α : Type) {β : Type} (m : Option β) : Option (α ⊕ β) := m.bind fun x => some (.inr x)
@[simp] theorem mInl_some {α : Type} (β : Type) (x : α) : mInl β (some x) = some (.inl x) := rfl
@[simp] theorem mInr_some (α : Type) {β : Type} (x : β) : mInr α (some x) = some (.inr x) := rfl
theorem ev_inl {A : ATy α} {B : ATy β} {m : Option α} (h : Ev te Γ (tyH K A) m) : Ev te Γ (tyV K A B) (mInl β m) := fun z e H0 G H σ S Q q => by
  obtain ⟨x, ea, e⟩ := bind_inv e
  cases e
  exact h x ea H0 G H σ S Q q
theorem ev_inr {A : ATy α} {B : ATy β} {m : Option β} (h : Ev te Γ (tyH K B) m) : Ev te Γ (tyV K A B) (mInr α m) := fun z e H0 G H σ S Q q => by
  obtain ⟨x, ea, e⟩ := bind_inv e
  cases e
  exact h x ea H0 G H σ S Q q
def NthO (A : ATy α) (k : Nat) (T : Ty τ) (f : α → Option τ) : Prop := ∀ x y, f x = some y → ∃ g : α → τ, Nth A k T g ∧ g x = y
theorem ntho_s {A : ATy α} {k : Nat} {T : Ty τ} {f : α → τ} (h : Nth A k T f) : NthO A k T (fun x => some (f x)) := fun x y e => by
  cases e
  exact ⟨f, h, rfl⟩
theorem ntho_no {A : ATy α} {k : Nat} {T : Ty τ} : NthO A k T (fun _ => none) := fun x y e => by cases e
theorem ev_nthV {A : ATy α} {B : ATy β} {k : Nat} {T : Ty τ} {f : α → Option τ} {g : β → Option τ} {ma : Option (α ⊕ β)} (h1 : NthO A k T f) (h2 : NthO B k T g) (ha : Ev ta Γ (tyV K A B) ma) : Ev (tOp (rIxT K) ta (tC (.int (k : Nat)))) Γ T (ma.bind (Sum.elim f g)) := fun z e H0 G H σ S Q q => by
  obtain ⟨x, ea, ef⟩ := bind_inv e
  cases x with
  | inl a =>
    obtain ⟨f', hn, rfl⟩ := h1 _ _ ef
    have ha' : Ev ta Γ (tyH K A) (some a) := fun x e H0 G H σ S Q q => by
      cases e
      exact ha _ ea H0 G H σ S Q q
    exact ev_nthH hn ha' (f' a) rfl H0 G H σ S Q q
  | inr b =>
    obtain ⟨f', hn, rfl⟩ := h2 _ _ ef
    have ha' : Ev ta Γ (tyH K B) (some b) := fun x e H0 G H σ S Q q => by
      cases e
      exact ha _ ea H0 G H σ S Q q
    exact ev_nthH hn ha' (f' b) rfl H0 G H σ S Q q
theorem some_V {A : ATy α} {B : ATy β} : SomeT (tyV K A B) := fun G v x h => by
  cases x with
  | inl a => exact some_H (K := K) (A := A) G v a h
  | inr b => exact some_H (K := K) (A := B) G v b h
theorem opv_isnotB : OpV (fun x y H Q => ∃ a b, x = .bl a ∧ y = .bl b ∧ Q (.bl (!decide (a = b))) H) tyB tyB tyB mNe := fun x y z e G H v u eG rv ru Q q => by
  cases e; cases rv; cases ru
  exact ⟨_, _, rfl, rfl, q _ G H (Stp.refl eG) rfl⟩
end
end TP
set_option maxHeartbeats 2000000
namespace TP
open PySem PySem.Spec PyProof.Rows L2
section
variable {K : PySem.W.Frag} {α β γ τ : Type} {Γ : TP.Env} {T : Ty α} {te ta : TE}
structure Enc (K : PySem.W.Frag) {α : Type} [DecidableEq α] (T : Ty α) (enc : α → PyData) (n : Nat) : Prop where
  dp : ∀ H v x, T.rp H v x → L2.Dp K H v (enc x)
  eqv : ∀ x y, (enc x).eqv (enc y) = decide (x = y)
  dep : ∀ x, (enc x).depth ≤ n
structure EncA (K : PySem.W.Frag) {α : Type} [DecidableEq α] (A : ATy α) (enc : α → List PyData) (n : Nat) : Prop where
  dp : ∀ H vs x, A.rp H vs x → L2.DpAll K H vs (enc x)
  eqv : ∀ x y, PyData.eqvAll (enc x) (enc y) = decide (x = y)
  dep : ∀ x, PyData.depthAll (enc x) ≤ n
theorem enc_I : Enc K tyI PyData.int 1 := ⟨fun H v x h => by cases h; exact .int x, fun x y => by by_cases h : x = y <;> simp [PyData.eqv, h], fun x => by simp [PyData.depth]⟩
theorem enc_S : Enc K tyS PyData.str 1 := ⟨fun H v x h => by cases h; exact .str x, fun x y => by by_cases h : x = y <;> simp [PyData.eqv, h], fun x => by simp [PyData.depth]⟩
theorem dpall_of {enc : α → PyData} {H : Hp} (h : ∀ v x, T.rp H v x → L2.Dp K H v (enc x)) : ∀ {vs : List V} {xs : List α}, All2 (T.rp H) vs xs → L2.DpAll K H vs (xs.map enc)
  | [], [], _ => .nil
  | v :: vs, x :: xs, r => .cons (h v x r.1) (dpall_of h r.2)
  | [], _ :: _, r => r.elim
  | _ :: _, [], r => r.elim
theorem eqvall_of [DecidableEq α] {enc : α → PyData} (h : ∀ x y, (enc x).eqv (enc y) = decide (x = y)) : ∀ xs ys : List α, PyData.eqvAll (xs.map enc) (ys.map enc) = decide (xs = ys)
  | [], [] => by simp [PyData.eqvAll]
  | [], _ :: _ => by simp [PyData.eqvAll]
  | _ :: _, [] => by simp [PyData.eqvAll]
  | n :: ns, m :: ms => by
    rw [List.map_cons, List.map_cons]
    show (PyData.eqv (enc n) (enc m) && PyData.eqvAll (ns.map enc) (ms.map enc)) = _
    rw [eqvall_of h ns ms, h]
    by_cases q : n = m <;> by_cases h2 : ns = ms <;> simp [q, h2]
theorem layall_of {enc : α → PyData} (h : ∀ x, (enc x).canLay0 = true) : ∀ xs : List α, PyData.canLayAll0 (xs.map enc) = true
  | [] => by simp [PyData.canLayAll0]
  | n :: ns => by simp only [List.map_cons, PyData.canLayAll0, h, layall_of h ns, Bool.and_self]
theorem depall_of {enc : α → PyData} {n : Nat} (h : ∀ x, (enc x).depth ≤ n) : ∀ xs : List α, PyData.depthAll (xs.map enc) ≤ n
  | [] => by simp [PyData.depthAll]
  | x :: xs => by
    simp only [List.map_cons, PyData.depthAll]
    have := h x
    have := depall_of h xs
    omega
theorem enc_L [DecidableEq α] {enc : α → PyData} {n : Nat} (h : Enc K T enc n) : Enc K (tyL T) (fun xs => .list (xs.map enc)) (n + 1) :=
  ⟨fun H v x ⟨a, vs, e, ha, r⟩ => by rw [e]; exact .lst (SqL.of ha) (dpall_of (h.dp H) r),
   fun x y => by show PyData.eqvAll _ _ = _; exact eqvall_of h.eqv x y,
   fun x => by simp only [PyData.depth]; have := depall_of h.dep x; omega⟩
theorem enc_U [DecidableEq α] {enc : α → PyData} {n : Nat} (h : Enc K T enc n) : Enc K (tyU K T) (fun xs => .tuple (xs.map enc)) (n + 1) :=
  ⟨fun H v x ⟨a, vs, e, ha, r⟩ => by rw [e]; exact .tup ha (dpall_of (h.dp H) r),
   fun x y => by show PyData.eqvAll _ _ = _; exact eqvall_of h.eqv x y,
   fun x => by simp only [PyData.depth]; have := depall_of h.dep x; omega⟩
theorem enca_N : EncA K aN (fun _ => []) 0 := ⟨fun H vs x h => by cases h; exact .nil, fun x y => by simp [PyData.eqvAll], fun x => by simp [PyData.depthAll]⟩
theorem enca_C [DecidableEq α] [DecidableEq β] {A : ATy β} {enc : α → PyData} {encs : β → List PyData} {n m : Nat} (h : Enc K T enc n) (hA : EncA K A encs m) : EncA K (aC T A) (fun x => enc x.1 :: encs x.2) (max n m) :=
  ⟨fun H vs x ⟨v, r, e, h1, h2⟩ => by rw [e]; exact .cons (h.dp H v x.1 h1) (hA.dp H r x.2 h2),
   fun x y => by
    show (PyData.eqv (enc x.1) (enc y.1) && PyData.eqvAll (encs x.2) (encs y.2)) = _
    rw [h.eqv, hA.eqv]
    obtain ⟨a, b⟩ := x
    obtain ⟨c, d⟩ := y
    by_cases q : a = c <;> by_cases q2 : b = d <;> simp [q, q2],
   fun x => by simp only [PyData.depthAll]; have := h.dep x.1; have := hA.dep x.2; omega⟩
theorem enc_H [DecidableEq β] {A : ATy β} {encs : β → List PyData} {n : Nat} (h : EncA K A encs n) : Enc K (tyH K A) (fun x => .tuple (encs x)) (n + 1) :=
  ⟨fun H v x ⟨a, vs, e, ha, r⟩ => by rw [e]; exact .tup ha (h.dp H vs x r),
   fun x y => by show PyData.eqvAll _ _ = _; exact h.eqv x y,
   fun x => by simp only [PyData.depth]; have := h.dep x; omega⟩
def Lay {α : Type} (enc : α → PyData) : Prop := ∀ x, (enc x).canLay0 = true
def LayA {α : Type} (enc : α → List PyData) : Prop := ∀ x, PyData.canLayAll0 (enc x) = true
theorem lay_I : Lay PyData.int := fun x => by simp only [PyData.canLay0]
theorem lay_L {enc : α → PyData} (h : Lay enc) : Lay (fun xs : List α => PyData.list (xs.map enc)) := fun x => by simp only [PyData.canLay0]; exact layall_of h x
theorem lay_U {enc : α → PyData} (h : Lay enc) : Lay (fun xs : List α => PyData.tuple (xs.map enc)) := fun x => by simp only [PyData.canLay0]; exact layall_of h x
theorem laya_N : LayA (fun _ : Unit => []) := fun x => by simp [PyData.canLayAll0]
theorem laya_C {enc : α → PyData} {encs : β → List PyData} (h : Lay enc) (hA : LayA encs) : LayA (fun x : α × β => enc x.1 :: encs x.2) := fun x => by
  show PyData.canLayAll0 _ = true
  rw [PyData.canLayAll0, h, hA]; rfl
theorem lay_H {encs : β → List PyData} (h : LayA encs) : Lay (fun x : β => PyData.tuple (encs x)) := fun x => by simp only [PyData.canLay0]; exact h x
theorem Enc.shaped [DecidableEq α] {enc : α → PyData} {n : Nat} (h : Enc K T enc n) (hn : n ≤ 64) {x : α} (l : (enc x).canLay0 = true) : SeqAt.shaped (enc x) = true :=
  Bool.and_eq_true_iff.mpr ⟨l, decide_eq_true (by have := h.dep x; omega)⟩
theorem opv_eqE [DecidableEq α] {enc : α → PyData} {n : Nat} (h : Enc K T enc n) (l : Lay enc) (hn : n ≤ 64) : OpV (rEqD K) T T tyB mEq := fun x y z e G H v u eG rv ru Q q => by
  cases e
  exact ⟨enc x, enc y, h.dp H v x (Ty.mono _ eG rv), h.dp H u y (Ty.mono _ eG ru), h.shaped hn (l x), h.shaped hn (l y), q _ G H (Stp.refl eG) (by rw [h.eqv]; rfl)⟩
theorem opv_neE [DecidableEq α] {enc : α → PyData} {n : Nat} (h : Enc K T enc n) (l : Lay enc) (hn : n ≤ 64) : OpV (rNeD K) T T tyB mNe := fun x y z e G H v u eG rv ru Q q => by
  cases e
  exact ⟨enc x, enc y, h.dp H v x (Ty.mono _ eG rv), h.dp H u y (Ty.mono _ eG ru), h.shaped hn (l x), h.shaped hn (l y), q _ G H (Stp.refl eG) (by rw [h.eqv]; rfl)⟩
def mEqG [DecidableEq α] (enc : α → PyData) (x y : α) : Option Bool := gd ((enc x).canLay0 && (enc y).canLay0) (decide (x = y))
def mNeG [DecidableEq α] (enc : α → PyData) (x y : α) : Option Bool := gd ((enc x).canLay0 && (enc y).canLay0) (!decide (x = y))
theorem mEqG_ [DecidableEq α] {enc : α → PyData} {x y : α} (h : (enc x).canLay0 = true) (k : (enc y).canLay0 = true) : mEqG enc x y = some (decide (x = y)) := by
  unfold mEqG gd
  rw [if_pos (Bool.and_eq_true_iff.mpr ⟨h, k⟩)]
theorem mNeG_ [DecidableEq α] {enc : α → PyData} {x y : α} (h : (enc x).canLay0 = true) (k : (enc y).canLay0 = true) : mNeG enc x y = some (!decide (x = y)) := by
  unfold mNeG gd
  rw [if_pos (Bool.and_eq_true_iff.mpr ⟨h, k⟩)]
theorem opv_eqG [DecidableEq α] {enc : α → PyData} {n : Nat} (h : Enc K T enc n) (hn : n ≤ 64) : OpV (rEqD K) T T tyB (mEqG enc) := fun x y z e G H v u eG rv ru Q q => by
  obtain ⟨c, rfl⟩ := gd_inv e
  obtain ⟨c1, c2⟩ := Bool.and_eq_true_iff.mp c
  exact ⟨enc x, enc y, h.dp H v x (Ty.mono _ eG rv), h.dp H u y (Ty.mono _ eG ru), h.shaped hn c1, h.shaped hn c2, q _ G H (Stp.refl eG) (by rw [h.eqv]; rfl)⟩
theorem opv_neG [DecidableEq α] {enc : α → PyData} {n : Nat} (h : Enc K T enc n) (hn : n ≤ 64) : OpV (rNeD K) T T tyB (mNeG enc) := fun x y z e G H v u eG rv ru Q q => by
  obtain ⟨c, rfl⟩ := gd_inv e
  obtain ⟨c1, c2⟩ := Bool.and_eq_true_iff.mp c
  exact ⟨enc x, enc y, h.dp H v x (Ty.mono _ eG rv), h.dp H u y (Ty.mono _ eG ru), h.shaped hn c1, h.shaped hn c2, q _ G H (Stp.refl eG) (by rw [h.eqv]; rfl)⟩
end
end TP
set_option maxHeartbeats 2000000
namespace TP
open PySem PySem.Spec PyProof.Rows L2
section
variable {K : PySem.W.Frag} {α β γ δ τ : Type} {Γ : TP.Env} {T : Ty α} {B : Ty β} {te ta t1 t2 : TE}
def tyQ (K : PySem.W.Frag) {α : Type} (T : Ty α) : Ty (List α) :=
  ⟨fun H v xs => (tyL T).rp H v xs ∨ (tyU K T).rp H v xs, fun e h => h.imp (fun h => (tyL T).mono e h) (fun h => (tyU K T).mono e h)⟩
def tOr (t1 t2 : TE) : TE := fun σ H Q => t1 σ H Q ∨ t2 σ H Q
theorem pe_or {X : Cx} {e : Expr} (h1 : PE X e t1) (h2 : PE X e t2) : PE X e (tOr t1 t2) :=
  ⟨fun pins s σ H Q I h => h.elim (h1.run pins s σ H Q I) (h2.run pins s σ H Q I)⟩
theorem Slots.retype {α' β' : Type} {H0 G H : Hp} {σ : L2.St} {i : Nat} {T : Ty α'} {U : Ty β'} {x : α'} {y : β'} (S : Slots H0 G H σ Γ) (hi : Γ[i]? = some (.pu T x)) (h : ∀ v, σ[i]? = some (some v) → T.rp G v x → U.rp G v y) : Slots H0 G H σ (Γ.set i (.pu U y)) := by
  obtain ⟨o, eo, v, ev, r⟩ := S.at_ i _ hi
  subst ev
  refine ⟨S.m, by rw [List.length_set, S.len], fun j t hj => ?_, fun j k a t u ne hj hk ht hu ej ek => ?_⟩
  · rcases set_get hj with ⟨rfl, rfl, hl⟩ | ⟨ne, hj⟩
    · exact ⟨_, eo, v, rfl, h v eo r⟩
    · exact S.at_ j t hj
  · rcases set_get hj with ⟨rfl, rfl, _⟩ | ⟨_, hj⟩
    · cases ht
    · rcases set_get hk with ⟨rfl, rfl, _⟩ | ⟨_, hk⟩
      · cases hu
      · exact S.dis j k a t u ne hj hk ht hu ej ek
theorem ev_split {i : Nat} {xs : List β} {m : Option α} (hi : Γ[i]? = some (.pu (tyQ K B) xs)) (h1 : Ev t1 (Γ.set i (.pu (tyL B) xs)) T m) (h2 : Ev t2 (Γ.set i (.pu (tyU K B) xs)) T m) : Ev (tOr t1 t2) Γ T m := fun z e H0 G H σ S Q q => by
  obtain ⟨o, eo, v, ev, r⟩ := S.at_ i _ hi
  subst ev
  rcases r with r | r
  · exact .inl (h1 z e H0 G H σ (S.retype hi fun w ew _ => by rw [eo] at ew; cases ew; exact r) Q q)
  · exact .inr (h2 z e H0 G H σ (S.retype hi fun w ew _ => by rw [eo] at ew; cases ew; exact r) Q q)
theorem evn_split {i : Nat} {xs : List β} {m : Option (List α)} (hi : Γ[i]? = some (.pu (tyQ K B) xs)) (h1 : EvN t1 (Γ.set i (.pu (tyL B) xs)) T m) (h2 : EvN t2 (Γ.set i (.pu (tyU K B) xs)) T m) : EvN (tOr t1 t2) Γ T m := fun z e H0 G H σ S Q q => by
  obtain ⟨o, eo, v, ev, r⟩ := S.at_ i _ hi
  subst ev
  rcases r with r | r
  · exact .inl (h1 z e H0 G H σ (S.retype hi fun w ew _ => by rw [eo] at ew; cases ew; exact r) Q q)
  · exact .inr (h2 z e H0 G H σ (S.retype hi fun w ew _ => by rw [eo] at ew; cases ew; exact r) Q q)
section
variable {rest : TS} {W : Rt γ} {env : δ → TP.Env} {m : Option (Fl γ δ)} {xs : List β} {i : Nat}
theorem sd_qL (hi : Γ[i]? = some (.pu (tyL B) xs)) (h : Sd rest (Γ.set i (.pu (tyQ K B) xs)) W env m) : Sd rest Γ W env m := fun o e H0 G0 G H σ S s D k =>
  h o e H0 G0 G H σ (S.retype hi fun v _ r => .inl r) s D k
theorem sd_qU (hi : Γ[i]? = some (.pu (tyU K B) xs)) (h : Sd rest (Γ.set i (.pu (tyQ K B) xs)) W env m) : Sd rest Γ W env m := fun o e H0 G0 G H σ S s D k =>
  h o e H0 G0 G H σ (S.retype hi fun v _ r => .inr r) s D k
end
def mIxS (z : PySem.Str) (i : Int) : Option PySem.Str := if z.length ≤ sizeLine then (L2.atI z.cps.toList i).bind fun c => some ⟨#[c]⟩ else none
theorem opv_ixS : OpV rIxS tyS tyI tyS mIxS := fun x y z e G H v u eG rv ru Q q => by
  cases rv; cases ru
  unfold mIxS at e
  split at e
  · rename_i c
    obtain ⟨d, ed, e⟩ := bind_inv e
    cases e
    exact ⟨x, y, d, rfl, rfl, c, ed, q _ G H (Stp.refl eG) rfl⟩
  · cases e
theorem all2_strs {vs : List V} {ns : List PySem.Str} {H : Hp} (h : TP.All2 (TP.tyS.rp H) vs ns) : vs = ns.map V.str := by
  induction vs generalizing ns with
  | nil => cases ns with
    | nil => rfl
    | cons => exact h.elim
  | cons v vs ih => cases ns with
    | nil => exact h.elim
    | cons n ns =>
      have e : v = .str n := h.1
      rw [e, ih h.2]; rfl
def mJoin (a : PySem.Str) (ys : List PySem.Str) : Option PySem.Str := if (ys.map (·.length)).sum + ys.length * a.length ≤ 16777216 then some (Txt.join a ys) else none
theorem ev_join {to : TE} {mo : Option PySem.Str} {me : Option (List PySem.Str)} (ho : Ev to Γ tyS mo) (he : Ev te Γ (tyL tyS) me) : Ev (tM1 (fun x xs H Q => ∃ a p, ∃ ys : List PySem.Str, x = .str a ∧ xs = [.ref p] ∧ (SqL K H p (ys.map V.str) ∨ SqT K H p (ys.map V.str)) ∧ (ys.map (·.length)).sum + ys.length * a.length ≤ 16777216 ∧ Q (.str (Txt.join a ys)) H) to te) Γ tyS (c2 mJoin mo me) := fun z e H0 G H σ S Q q => by
  obtain ⟨a, ea, e⟩ := bind_inv e
  obtain ⟨ys, ey, e⟩ := bind_inv e
  unfold mJoin at e
  split at e
  · rename_i c
    cases e
    refine ho a ea H0 G H σ S _ fun v G1 H1 s1 r1 => ?_
    cases r1
    refine ⟨⟨a, rfl⟩, ?_⟩
    refine he ys ey H0 G1 H1 σ (S.step s1) _ fun v G2 H2 s2 r2 => ?_
    obtain ⟨p, vs, rfl, hp, rr⟩ := r2
    have hv := all2_strs rr
    subst hv
    exact ⟨a, p, ys, rfl, rfl, .inl (SqL.of (s2.m _ _ hp)), c, q _ G2 H2 (s1.trans s2) rfl⟩
  · cases e
end
end TP
set_option maxHeartbeats 2000000
namespace TP
open PySem PySem.Spec PyProof.Rows L2
section
variable {K : PySem.W.Frag} {α β γ δ τ : Type} {Γ : TP.Env} {T : Ty α} {te ta : TE}
theorem vals_rev : ∀ {vs : List V} {us : List Value}, Vals vs us → Vals vs.reverse us.reverse := fun {vs us} h => by
  induction h with
  | nil => exact .nil
  | cons h t ih =>
    rw [List.reverse_cons, List.reverse_cons]
    have app : ∀ {a b : List V} {c d : List Value}, Vals a c → Vals b d → Vals (a ++ b) (c ++ d) := fun {a b c d} h k => by
      induction h with
      | nil => exact k
      | cons h t ih => exact .cons h ih
    exact app ih (.cons h .nil)
def tRev (K : PySem.W.Frag) (te : TE) (tk : TO) : TE := fun σ H Q => te σ H fun x H1 => tk σ H1 fun k H2 => k = some (-1) ∧ ∃ a xs, x = .ref a ∧ SqL K H2 a xs ∧ ∀ p, H2 p = none → Q (.ref p) (upd H2 p (.lst xs.reverse))
theorem pe_rev {X : Cx} {e st : Expr} {tk : TO} {p2 pos : Pos} (he : PE X e te) (hs : PO X (some st) tk) (hl : ∀ (o r : Value), letTemporaryGo e o r = pure () := by intro _ _; rfl) :
    PE X (.Subscript e (.Slice none none (some st) p2) pos) (tRev X.K te tk) := ⟨fun pins s σ H Q I h => by
  refine wpAny_Subscript_Slice_step (T := "list") (id := "list.__getitem__") (by rfl) (wpAny_mono (he.run pins s σ H _ I h) (fun o s1 hh => ?_) (fun _ _ z => z)) hl
  obtain ⟨x, H1, I1, rx, h1⟩ := hh
  refine wpAny_Slice ?_
  refine wpAny_mono (po_none.run pins s1 σ H1 (fun o H' => o = none ∧ H' = H1) I1 ⟨rfl, rfl⟩) (fun vl s2 hh => ?_) (fun _ _ z => z)
  obtain ⟨_, _, I2, pl, rfl, rfl⟩ := hh
  refine wpAny_mono (po_none.run pins s2 σ _ (fun o H' => o = none ∧ H' = _) I2 ⟨rfl, rfl⟩) (fun vu s3 hh => ?_) (fun _ _ z => z)
  obtain ⟨_, _, I3, pu, rfl, rfl⟩ := hh
  refine wpAny_mono (hs.run pins s3 σ _ _ I3 h1) (fun vk s4 hh => ?_) (fun _ _ z => z)
  obtain ⟨k, H4, I4, pk, hk⟩ := hh
  obtain ⟨rfl, a, xs, rfl, hx, q⟩ := hk
  obtain ⟨its, rv, hpl, hz⟩ := I4.list hx
  have hit : its.length = xs.length := rv.length.symm
  have ro : o = .ref a := rx
  subst ro
  have hlist := hpl.isList
  have keep : ∀ (b : Addr) (u : Obj), s4.heap.get? b = some u → (s4.heap.push { cls := Value.type "slice", data := Data.fields #[vl, vu, vk] }).get? b = some u := fun b u hb => Heap.get?_push_of_some _ hb
  have hlist2 : (s4.heap.push { cls := Value.type "slice", data := Data.fields #[vl, vu, vk] }).IsList a its.toArray := by
    obtain ⟨o, ho, r⟩ := hlist
    exact ⟨o, keep _ _ ho, r⟩
  refine ⟨hlist2.typeIs (s := { heap := s4.heap.push { cls := Value.type "slice", data := Data.fields #[vl, vu, vk] }, gens := s4.gens, drawn := s4.drawn, toks := s4.toks, os := s4.os }), ?_⟩
  refine wpAny_getItem_list_slice (s := { heap := s4.heap.push { cls := Value.type "slice", data := Data.fields #[vl, vu, vk] }, gens := s4.gens, drawn := s4.drawn, toks := s4.toks, os := s4.os }) hlist2 (Heap.IsSliceOf.new s4.heap vl vu vk) pl pu pk (by decide) ?_ (by rw [List.size_toArray, hit]; exact hz)
  rw [PySem.W.krv_pick, List.toList_toArray]
  have hsz : (s4.heap.push { cls := Value.type "slice", data := Data.fields #[vl, vu, vk] }).objs.size = s4.heap.objs.size + 1 := by
    simp [Heap.push]
  have hnew : ∀ o : Obj, o.isFreed = false → ((s4.heap.push { cls := Value.type "slice", data := Data.fields #[vl, vu, vk] }).push o).get? (s4.heap.objs.size + 1) = some o := fun o ho => by
    rw [← hsz]
    exact Heap.get?_push_size _ ho
  show EP X pins σ Q (.ref (s4.heap.push { cls := Value.type "slice", data := Data.fields #[vl, vu, vk] }).objs.size) _
  rw [hsz]
  refine ⟨.ref _, upd H4 (s4.heap.objs.size + 1) (.lst xs.reverse), I4.laid (t' := s4.toks) (fun b u hb => Heap.get?_push_of_some _ (keep b u hb)) (Nat.le_succ _) ⟨by rw [List.length_reverse]; exact hz, its.reverse, _, vals_rev rv, hnew _ rfl⟩, rfl, q _ (I4.hok.fresh (Nat.le_succ _))⟩⟩
theorem all2_rev {R : V → α → Prop} : ∀ {vs : List V} {xs : List α}, All2 R vs xs → All2 R vs.reverse xs.reverse
  | [], [], _ => trivial
  | v :: vs, x :: xs, h => by
    rw [List.reverse_cons, List.reverse_cons]
    exact (all2_rev h.2).app ⟨h.1, trivial⟩
  | [], _ :: _, h => h.elim
  | _ :: _, [], h => h.elim
theorem evn_rev {tk : TO} {m : Option (List α)} (h : Ev te Γ (tyL T) m) (hk : EvO tk Γ (mPart (some (-1)))) : EvN (tRev K te tk) Γ T (m.bind fun xs => some xs.reverse) := fun z e H0 G H σ S Q q => by
  obtain ⟨xs, ex, e⟩ := bind_inv e
  cases e
  refine h xs ex H0 G H σ S _ fun v G1 H1 s1 r1 => ?_
  obtain ⟨a, vs, rfl, ha, r⟩ := r1
  refine hk (some (-1)) rfl H0 G1 H1 σ (S.step s1) _ fun G2 H2 s2 => ?_
  refine ⟨rfl, a, vs, rfl, SqL.of (s2.m _ _ (s2.g _ _ ha)), fun p hp => ?_⟩
  exact q p _ G2 _ ((s1.trans s2).trans (Stp.priv s2.m hp)) ((s1.trans s2).h.non hp) (s2.m.non hp) upd_same ((all2_rev r).mono fun _ _ z => T.mono s2.g z)
theorem pd_seg {ρ σ' : Type} {R : ρ → σ' → Prop} (i n : Nat) {xs : List ρ} {ys : List σ'} (h : Paired R xs ys) : Paired R ((xs.drop i).take n) ((ys.drop i).take n) := by
  have dr : ∀ (i : Nat) {xs : List ρ} {ys : List σ'}, Paired R xs ys → Paired R (xs.drop i) (ys.drop i) := fun i => by
    induction i with
    | zero => intro xs ys h; exact h
    | succ i ih =>
      intro xs ys h
      cases h with
      | nil => exact .nil
      | cons h t => exact ih t
  have tk : ∀ (n : Nat) {xs : List ρ} {ys : List σ'}, Paired R xs ys → Paired R (xs.take n) (ys.take n) := fun n => by
    induction n with
    | zero => intro xs ys h; exact .nil
    | succ i ih =>
      intro xs ys h
      cases h with
      | nil => exact .nil
      | cons h t => exact .cons h (ih t)
  exact tk n (dr i h)
theorem vals_seg (i n : Nat) {xs : List V} {ys : List Value} (h : Vals xs ys) : Vals ((xs.drop i).take n) ((ys.drop i).take n) := pd_seg i n h
theorem vals_nil : Vals [] [] := .nil
theorem Cn.iso {ft : List Ft} {fn : List He5.DefA} {mg : Str → Option Value} (T : Cn ft fn K mg) (i : Nat) {C : Str} (c : Cls K (He.ga K C)) (h : ft[i]? = some (.iso C) := by rfl) : C8.InsC K (He.ga K C) := by
  have h := T.says.fact i h
  obtain ⟨h1, h⟩ := He.ba h
  obtain ⟨h2, h⟩ := He.ba h
  obtain ⟨h3, h⟩ := He.ba h
  obtain ⟨h4, h5⟩ := He.ba h
  exact ⟨c, He.eqO_ok h1, He.eqO_ok h2, of_decide_eq_true h3, of_decide_eq_true h4, of_decide_eq_true h5⟩
theorem cv_isO {D : Str} {F : FTy β} : CallV (fun xs H Q => ∃ a dx fs, xs = [V.ref a, V.ref (He.ga K D)] ∧ H a = some (.ins (He.ga K D) dx fs) ∧ Q (.bl true) H) (aC (tyO (He.ga K D) F) (aC (tyK K D) aN)) tyB (mCon true) := fun p z e G H vs eG r Q q => by
  cases e
  obtain ⟨v, us, rfl, ⟨a, dx, fs, rfl, ha, _⟩, w, ws, rfl, hw, hn⟩ := r
  cases hw
  cases hn
  exact ⟨a, dx, fs, rfl, eG _ _ ha, q _ G H (Stp.refl eG) rfl⟩
theorem pe_callOF {X : Cx} {k : Nat} {f C : Addr} {ps : List Str} {sp : Sp} {pos : Pos} {e fe : Expr} {es : List Expr} {t : TA} (he : PE X fe ta) (hm : Meth X.K C "__call__" f) (F : Ok X.prog X.w X.K X.mg X.base k f ps sp) (hr : Room k X.A) (ha : PA X (e :: es) t)
    (h1 : eval (.Call fe (e :: es) [] pos) X.env = (do
      let v ← eval fe X.env
      callWith pos v [] (backTo pos (starEach (e :: es) X.env)) (backToKw pos (keywordEach [] X.env))) := by rfl) (h2 : starEach (e :: es) X.env = (false, eval e X.env) :: starEach es X.env := by rfl) (h3 : ((backTo pos (starEach es X.env)).any fun x => x.1) = false := by rfl) : PE X (.Call fe (e :: es) [] pos) (StX.tCallO X C sp E0 ta t) := by
  obtain ⟨fd, G, bn, lk⟩ := F.ex
  have R := G.raw bn .nil
  simp only [List.append_nil] at R
  exact StX.pe_callO he ⟨hm.at_, hm.fn, lk.fi⟩ R hr pass0 ha h1 h2 h3
theorem ev_callO {X : Cx} {C : Addr} {F : FTy γ} {A : ATy β} {f : γ × β → Option α} {mo : Option γ} {mp : Option β} {E : XK} {t : TA} (h : Ev ta Γ (tyO C F) mo) (hi : EvA t Γ A mp) :
    Ev (StX.tCallO X C (spOf (aC (tyO C F) A) T f) E ta t) Γ T (mo.bind fun x => mp.bind fun y => f (x, y)) := fun z e H0 G H σ S Q q => by
  obtain ⟨x, ea, e⟩ := bind_inv e
  obtain ⟨y, eb, e⟩ := bind_inv e
  refine h x ea H0 G H σ S _ fun v G1 H1 s1 r1 => ?_
  obtain ⟨a, dx, fs, rfl, h1, r⟩ := id r1
  refine ⟨a, rfl, ?_⟩
  refine hi y eb H0 G1 H1 σ (S.step s1) _ fun us G2 H2 s2 r2 => ?_
  refine ⟨.inr ⟨dx, fs, s2.m _ _ (s2.g _ _ h1)⟩, ?_⟩
  exact ⟨(x, y), z, G2, e, s2.m, ⟨_, _, rfl, Ty.mono _ s2.g r1, r2⟩, fun w G3 H3 s3 r3 => q w G3 H3 ((s1.trans s2).trans s3) r3⟩
theorem sd_thru {env1 : τ → TP.Env} {env : δ → TP.Env} {W : Rt γ} {tb rest : TS} {mb : Option (Fl γ τ)} {f : τ → Option (Fl γ δ)} (hb : Sd tb Γ W env1 mb) (hr : ∀ b, Sd rest (env1 b) W env (f b)) : Sd (tSeq tb rest) Γ W env (thenF mb f) := fun o e H0 G0 G H σ S s D k => by
  obtain ⟨y, ey, e⟩ := bind_inv e
  refine hb y ey H0 G0 G H σ S s _ ?_
  cases y with
  | ret r => cases e; exact k
  | nx b => exact fun σ2 G2 H2 S2 s2 e2 => hr b o e H0 G0 G2 H2 σ2 S2 s2 D (k.mono e2)
end
end TP
set_option maxHeartbeats 2000000
namespace TP
open PySem PySem.Spec PyProof.Rows L2
section
variable {K : PySem.W.Frag} {α β γ δ τ : Type} {Γ Γx : TP.Env} {T : Ty α} {te ta : TE}
theorem run_fnRS {X : Cx} {CX : CXT} {k : Nat} {f : Addr} {sp : Sp} {E : XK} {pins : List (Addr × Obj)} {σ : L2.St} {H : Hp} {s : Shared} {Q : VK} {us : List Value} {vs : List V}
    (R : FnR X.prog X.w X.K X.mg X.base CX k f sp) (hr : Room k X.A) (hx : PassesAt CX X σ E) (I : L2.Inv X pins σ H s) (r : Vals vs us) (h : sp vs H Q E) :
    codeAny (model X.prog X.w) X.A (Code.call (.ref f) { pos := us }) (fun r s' => match r with
      | .ok (.ret v) => EP X pins σ Q v s'
      | .ok _ => False
      | .error e => X.xe e s') s := by
  refine codeAny_mono (R X.A X.stack s H us vs Q E hr I.env0 r h) fun r s' hc => ?_
  cases r with
  | error e => exact hx pins H s e s' I hc
  | ok fl => cases fl with
    | ret v => exact I.after hc
    | next => exact hc
    | brk => exact hc
    | cont => exact hc
def tCallOS (C : Addr) (sp : Sp) (E : L2.St → XK) (tf : TE) (t : TA) : TE := fun σ H Q => tf σ H fun y H1 => ∃ a, y = V.ref a ∧ t σ H1 fun vs H2 => (∃ dx fs, H2 a = some (.ins C dx fs)) ∧ sp (V.ref a :: vs) H2 Q (E σ)
theorem pe_callOS {X : Cx} {CX : CXT} {k : Nat} {C g : Addr} {sp : Sp} {E : L2.St → XK} {e fe : Expr} {es : List Expr} {t : TA} {pos : Pos} (he : PE X fe ta) (c : StX.CallO X.K C g) (R : FnR X.prog X.w X.K X.mg X.base CX k g sp) (hr : Room k X.A) (hx : ∀ σ, PassesAt CX X σ (E σ)) (ha : PA X (e :: es) t)
    (h1 : eval (.Call fe (e :: es) [] pos) X.env = (do
      let v ← eval fe X.env
      callWith pos v [] (backTo pos (starEach (e :: es) X.env)) (backToKw pos (keywordEach [] X.env))) := by rfl) (h2 : starEach (e :: es) X.env = (false, eval e X.env) :: starEach es X.env := by rfl) (h3 : ((backTo pos (starEach es X.env)).any fun x => x.1) = false := by rfl) : PE X (.Call fe (e :: es) [] pos) (tCallOS C sp E ta t) := ⟨fun pins s σ H Q I h => by
  refine Call_ (thn (he.run pins s σ H _ I h) fun v s1 hh => ?_) h1
  obtain ⟨y, H1, I1, ry, hy⟩ := hh
  obtain ⟨a, rfl, hy⟩ := hy
  have rv : v = .ref a := ry
  subst rv
  refine StX.callO_with (thn (ha.run pos pins s1 σ H1 _ I1 hy) fun us s2 hh => ?_) h2 h3
  obtain ⟨vs, H2, I2, rvs, hc, hsp⟩ := hh
  obtain ⟨ox, od, J, hp⟩ := StX.insC_at (X := X) I2 (.inr hc)
  refine ⟨⟨C, ox, od, J, hp⟩, ?_⟩
  rw [List.nil_append]
  exact wpAny_call (PySem.W.kco_code I2.kIn J hp c.at_ c.fn c.fi (run_fnRS (us := .ref a :: us) (vs := .ref a :: vs) R hr (hx σ) I2 (.cons rfl rvs) hsp))⟩
theorem pe_callOXF {X : Cx} {k : Nat} {f C : Addr} {ps : List Str} {sp : Sp} {pos : Pos} {e fe : Expr} {es : List Expr} {t : TA} {V : WX} (he : PE X fe ta) (hm : Meth X.K C "__call__" f) (F : OkX X.prog X.w X.K X.mg X.base k f ps sp) (hr : Room k X.A) (tk : L2N.Takes X V) (ha : PA X (e :: es) t)
    (h1 : eval (.Call fe (e :: es) [] pos) X.env = (do
      let v ← eval fe X.env
      callWith pos v [] (backTo pos (starEach (e :: es) X.env)) (backToKw pos (keywordEach [] X.env))) := by rfl) (h2 : starEach (e :: es) X.env = (false, eval e X.env) :: starEach es X.env := by rfl) (h3 : ((backTo pos (starEach es X.env)).any fun x => x.1) = false := by rfl) : PE X (.Call fe (e :: es) [] pos) (tCallOS C sp (WE V) ta t) := by
  obtain ⟨fd, G, b, lk⟩ := F.ex
  have R := G.raw b .nil
  simp only [List.append_nil] at R
  exact pe_callOS he ⟨hm.at_, hm.fn, lk.fi⟩ R hr (fun σ => L2N.passAt tk σ) ha h1 h2 h3
theorem evx_callO {V : WX} {C : Addr} {F : FTy γ} {A : ATy β} {f : γ × β → Option (Res α)} {mo : Option γ} {mp : Option β} {t : TA} (wk : Wk Γ Γx) (h : Ev ta Γ (tyO C F) mo) (hi : EvA t Γ A mp) :
    EvX (tCallOS C (spX K (aC (tyO C F) A) T f) (WE V) ta t) V Γ Γx K T (mo.bind fun x => mp.bind fun y => f (x, y)) := fun z e H0 G H σ S Q q => by
  obtain ⟨x, ea, e⟩ := bind_inv e
  obtain ⟨y, eb, ef⟩ := bind_inv e
  refine h x ea H0 G H σ S _ fun v G1 H1 s1 r1 => ?_
  obtain ⟨a, dx, fs, rfl, h1, r⟩ := id r1
  refine ⟨a, rfl, ?_⟩
  refine hi y eb H0 G1 H1 σ (S.step s1) _ fun us G2 H2 s2 r2 => ?_
  have s12 := s1.trans s2
  refine ⟨⟨dx, fs, s2.m _ _ (s2.g _ _ h1)⟩, (x, y), z, G2, ef, s2.m, ⟨_, _, rfl, Ty.mono _ s2.g r1, r2⟩, ?_⟩
  cases z with
  | ok x => exact fun v G3 H3 s3 r3 => q v G3 H3 (s12.trans s3) r3
  | er e => exact fun cls d G3 H3 s3 r3 => q cls d σ G3 H3 ((S.step (s12.trans s3)).wk wk) (s12.trans s3) r3
theorem sd_tryOnly {rest : TS} {env : δ → TP.Env} {W : Rt γ} {env1 : τ → TP.Env} {tb : WX → TS} {ts : Addr → Value → Option Addr → TS} {c : Value} {Wout : WX} {mb : Option (Fl (Res γ) τ)} {M : Er → Bool} {mh : Option (Fl γ τ)} {f : τ → Option (Fl γ δ)}
    (hb : ∀ V, Sd (tb V) Γ (xW W K V Γx) env1 mb) (hm : ∀ e cls d G, ErOk K G cls d e → M e = true → PySem.W.exmOne K cls c = some true)
    (hs : ∀ a cls d, Sd (ts a cls d) Γx W env1 mh) (hr : ∀ b, Sd rest (env1 b) W env (f b)) :
    Sd (tSeq (fun D σ H => tb (wMany K Wout D [(c, ts)]) D σ H) rest) Γ W env (thenF (tryF mb M (fun _ => mh)) f) := fun o e H0 G0 G H σ S s D k => by
  obtain ⟨y, ey, e⟩ := bind_inv e
  obtain ⟨z, ez, e2⟩ := bind_inv ey
  have kk : ∀ Gs, Ex G Gs → FlOk { D with nx := rest D } W env1 H0 G0 Gs y := fun Gs eg => by
    cases y with
    | ret r => cases e; exact W.mono eg k
    | nx b => exact fun σ2 G2 H2 S2 s2 e2 => hr b o e H0 G0 G2 H2 σ2 S2 s2 D (k.mono (eg.trans e2))
  refine hb _ z ez H0 G0 G H σ S s _ ?_
  cases z with
  | nx b => cases e2; exact kk G (Ex.refl _)
  | ret r =>
    cases r with
    | ok r => cases e2; exact kk G (Ex.refl _)
    | er e1 =>
      have e2 : (if M e1 = true then mh else none) = some y := e2
      by_cases q : M e1 = true
      case neg => rw [if_neg q] at e2; cases e2
      rw [if_pos q] at e2
      intro cls d σ' G1 H1 S1 s1 eg r1
      refine ⟨true, hm e1 cls d G1 r1 q, fun _ a na => ?_, fun z => by cases z⟩
      exact hs a cls d y e2 H0 G0 G1 H1 _ S1 s1 _ (kk G1 eg)
end
end TP
set_option maxHeartbeats 2000000
namespace TP
open PySem PySem.Spec PyProof.Rows L2
section
variable {K : PySem.W.Frag} {α β γ δ τ : Type} {Γ Γx : TP.Env} {T : Ty α} {te ta : TE}
theorem run_makeRS {X : Cx} {CX : CXT} {k : Nat} {f C : Addr} {sp : Sp} {E : XK} {pins : List (Addr × Obj)} {σ : L2.St} {H : Hp} {s : Shared} {Q : VK} {us : List Value} {vs : List V}
    (M : Mk X.K C f) (R : FnR X.prog X.w X.K X.mg X.base CX k f sp) (hr : Room (k + 1) X.A) (hx : PassesAt CX X σ E) (I : L2.Inv X pins σ H s) (r : Vals vs us)
    (h : ∀ (x dx : Addr), H x = none → H dx = none → dx ≠ x → sp (V.ref x :: vs) (upd (upd H dx (.own x)) x (.ins C dx [])) (fun v H2 => v = V.non ∧ Q (V.ref x) H2) E) :
    wpAny (model X.prog X.w) X.A (call (.ref C) us) (EP X pins σ Q) X.xe s := by
  have n1 : H (s.heap.objs.size + 1) = none := I.hok.fresh (Nat.le_succ _)
  have n2 : H s.heap.objs.size = none := I.hok.fresh (Nat.le_refl _)
  have I2 := I.made (C := C)
  refine wpAny_call (make_map I.kIn M.makes M.init ?_ ?_)
  · exact eq_of_beq (by simpa [PySem.W.isFn] using M.fn)
  · refine codeAny_mono (R _ X.stack _ _ (.ref (s.heap.objs.size + 1) :: us) (.ref (s.heap.objs.size + 1) :: vs) (fun v H2 => v = V.non ∧ Q (V.ref (s.heap.objs.size + 1)) H2) E (hr.make C us []) (I2.env0.make C us []) (.cons rfl r) (h _ _ n1 n2 (Nat.ne_of_lt (Nat.lt_succ_self _)))) fun q s' hc => ?_
    cases q with
    | error e => exact hx pins _ _ e s' I2 hc
    | ok fl => cases fl with
      | ret v =>
        obtain ⟨x, H', I3, rx, rfl, hq⟩ := I2.after hc
        exact ⟨rx, V.ref (s.heap.objs.size + 1), H', I3, rfl, hq⟩
      | next => exact hc
      | brk => exact hc
      | cont => exact hc
def tMakeX (C : Addr) (sp : Sp) (E : L2.St → XK) (t : TA) : TE := fun σ H Q => t σ H fun vs H1 => ∀ x dx, H1 x = none → H1 dx = none → dx ≠ x →
  sp (V.ref x :: vs) (upd (upd H1 dx (.own x)) x (.ins C dx [])) (fun v H2 => v = .non ∧ Q (.ref x) H2) (E σ)
theorem pe_makeXS {X : Cx} {CX : CXT} {k : Nat} {f C : Addr} {sp : Sp} {E : L2.St → XK} {x : Str} {e : Expr} {es : List Expr} {t : TA} {p pos : Pos} (M : Mk X.K C f) (F : FnR X.prog X.w X.K X.mg X.base CX k f sp) (hr : Room (k + 1) X.A) (hg : Gl X x) (hm : X.mg x = some (.ref C)) (hx : ∀ σ, PassesAt CX X σ (E σ)) (ha : PA X (e :: es) t) (hdb : (x == ("__debug__" : Str)) = false := by decide)
    (he : starEach (e :: es) X.env = (false, eval e X.env) :: starEach es X.env := by rfl) (hpl : (backTo pos (starEach es X.env)).any (·.1) = false := by rfl) : PE X (.Call (.Name x p) (e :: es) [] pos) (tMakeX C sp E t) := by
  refine ⟨fun pins s σ H Q I h => ?_⟩
  refine wpAny_Call_Name_kw (ld_glob I hg hm ?_ hdb)
  refine PySem.W.callWith_K (h₀ := X.base) I.ok.mod.kin M.kp (thn (ha.run pos pins s σ H _ I h) fun us s1 ⟨vs, H1, I1, r, q⟩ => ⟨I1.kIn, ?_⟩) he hpl
  exact run_makeRS M F hr (hx σ) I1 r q
theorem run_makeKS {X : Cx} {CX : CXT} {k n : Nat} {f C : Addr} {fd : FuncData} {ps ks : List Str} {sp : Sp} {E : XK} {g : List Value → List Value → List Value} {gV : List V → List V → List V} {pins : List (Addr × Obj)} {σ : L2.St} {H : Hp} {s : Shared} {Q : VK} {us ws : List Value} {vs zs : List V} (M : Mk X.K C f) (F : FnOk X.prog X.w X.K X.mg X.base CX k f fd ps sp) (hr : Room (k + 1) X.A) (hb : KBn X.K fd ps (n + 1) ks g gV) (hx : PassesAt CX X σ E)
    (I : L2.Inv X pins σ H s) (r : Vals vs us) (rz : Vals zs ws) (l1 : vs.length = n) (l2 : zs.length = ks.length)
    (h : ∀ x dx, H x = none → H dx = none → dx ≠ x → sp (gV (.ref x :: vs) zs) (upd (upd H dx (.own x)) x (.ins C dx [])) (fun v H2 => v = .non ∧ Q (.ref x) H2) E) :
    wpAny (model X.prog X.w) X.A (call (.ref C) us (ks.zip ws)) (EP X pins σ Q) X.xe s := by
  have hq := h (s.heap.objs.size + 1) s.heap.objs.size (I.hok.fresh (Nat.le_succ _)) (I.hok.fresh (Nat.le_refl _)) (Nat.ne_of_lt (Nat.lt_succ_self _))
  have I2 := L2.Inv.made (C := C) I
  have r1 : Vals (V.ref (s.heap.objs.size + 1) :: vs) (Value.ref (s.heap.objs.size + 1) :: us) := .cons rfl r
  have r2 := hb.rel r1 rz
  have n1 : (Value.ref (s.heap.objs.size + 1) :: us).length = n + 1 := by
    rw [List.length_cons, ← r.length, l1]
  refine wpAny_call (make_map (f := f) I.kIn M.makes M.init (beq_iff_eq.mp M.fn) (codeAny_mono (F.run _ X.stack _ _ ⟨Value.ref (s.heap.objs.size + 1) :: us, ks.zip ws⟩ (g (Value.ref (s.heap.objs.size + 1) :: us) ws) _ _ E (hr.make C us (ks.zip ws))
    (I2.env0.make C us (ks.zip ws)) (hb.to _ (Value.ref (s.heap.objs.size + 1) :: us) ws I2.kIn n1 (rz.length.symm.trans l2)) r2 hq) fun r s' hq' => ?_))
  cases r with
  | error e => exact hx pins _ _ e s' I2 hq'
  | ok fl =>
    cases fl with
    | ret u =>
      obtain ⟨v, H', I3, rv, ev, q3⟩ := I2.after hq'
      subst ev
      exact ⟨rv, ⟨V.ref (s.heap.objs.size + 1), H', I3, rfl, q3⟩⟩
    | next => exact False.elim hq'
    | brk => exact False.elim hq'
    | cont => exact False.elim hq'
def tMakeKX (C : Addr) (n m : Nat) (sp : Sp) (gV : List V → List V → List V) (E : L2.St → XK) (t tk : TA) : TE := fun σ H Q => t σ H fun vs H1 => tk σ H1 fun zs H2 => vs.length = n ∧ zs.length = m ∧ ∀ x dx, H2 x = none → H2 dx = none → dx ≠ x →
  sp (gV (.ref x :: vs) zs) (upd (upd H2 dx (.own x)) x (.ins C dx [])) (fun v H3 => v = .non ∧ Q (.ref x) H3) (E σ)
theorem pe_makeKS {X : Cx} {CX : CXT} {k n : Nat} {f C : Addr} {fd : FuncData} {ps ks : List Str} {sp : Sp} {E : L2.St → XK} {x : Str} {p pos : Pos} {e : Expr} {es : List Expr} {kws : List Keyword} {t tk : TA} {g : List Value → List Value → List Value} {gV : List V → List V → List V} (M : Mk X.K C f) (F : FnOk X.prog X.w X.K X.mg X.base CX k f fd ps sp) (hr : Room (k + 1) X.A) (hg : Gl X x) (hm : X.mg x = some (.ref C)) (hb : KBn X.K fd ps (n + 1) ks g gV) (hx : ∀ σ, PassesAt CX X σ (E σ)) (ha : PA X (e :: es) t) (hkw : PK X kws tk)
    (hall : (backToKw pos (keywordEach kws X.env)).all (·.1.isSome) = true := by rfl) (hks : (backToKw pos (keywordEach kws X.env)).filterMap (·.1) = ks := by rfl) (hdb : (x == ("__debug__" : Str)) = false := by decide)
    (he : starEach (e :: es) X.env = (false, eval e X.env) :: starEach es X.env := by rfl) (hpl : ((backTo pos (starEach (e :: es) X.env)).any (·.1) || (backToKw pos (keywordEach kws X.env)).any (·.1.isNone)) = false := by rfl) :
    PE X (.Call (.Name x p) (e :: es) kws pos) (tMakeKX C n ks.length sp gV E t tk) := by
  refine ⟨fun pins s σ H Q I h => ?_⟩
  refine wpAny_Call_Name_kw (ld_glob I hg hm ?_ hdb)
  refine PySem.W.callWith_KW (h₀ := X.base) I.ok.mod.kin M.kp hall (thn (ha.run pos pins s σ H _ I h) fun us s1 ⟨vs, H1, I1, r, q⟩ => ?_) hpl he
  refine thn (hkw.run pos pins s1 σ H1 _ I1 q) fun ws s2 ⟨zs, H2, I2, rz, l1, l2, q2⟩ => ⟨I2.kIn, ?_⟩
  rw [hks]
  exact run_makeKS M F hr hb (hx σ) I2 r rz l1 l2 q2
def spInitX (K : PySem.W.Frag) (C : Addr) (A : ATy β) (F : FTy γ) (f : β → Option (Res γ)) : Sp := fun vs H Q E => ∃ (p dx : Addr) (r : List V) (x : β) (z : Res γ) (G : Hp), vs = .ref p :: r ∧ H p = some (.ins C dx []) ∧ Ex G H ∧ G p = none ∧ A.rp G r x ∧ f x = some z ∧ (match z with
  | .ok y => ∀ (G' H' : Hp) (fs : List (Str × V)), (∀ b o, b ≠ p → H b = some o → H' b = some o) → Ex G G' → Ex G' H' → G' p = none → (∀ a, H a ≠ none → G a = none → G' a = none) → (∃ dx, H' p = some (.ins C dx fs)) → F.rp G' fs y → Q .non H'
  | .er e => ∀ cls d (G' H' : Hp), (∀ b o, b ≠ p → H b = some o → H' b = some o) → Ex G G' → Ex G' H' → (∀ a, a ≠ p → H a ≠ none → G a = none → G' a = none) → ErOk K G' cls d e → E cls d H')
def outIX {γ : Type} (m : Option (Fl (Res Unit) γ)) : Option (Res γ) := m.bind fun x => match x with
  | .ret (.er e) => some (.er e)
  | .ret (.ok _) => none
  | .nx y => some (.ok y)
@[simp] theorem outIX_nx {γ : Type} (y : γ) : outIX (some (.nx y)) = some (.ok y) := rfl
@[simp] theorem outIX_er {γ : Type} (e : Er) : outIX (some (.ret (.er e)) : Option (Fl (Res Unit) γ)) = some (.er e) := rfl
@[simp] theorem outIX_none {γ : Type} : outIX (none : Option (Fl (Res Unit) γ)) = none := rfl
structure OkIX (P : Program) (w : World) (K : PySem.W.Frag) (mg : Str → Option Value) (base : Heap) (k : Nat) (x qual : Str) (params : Arguments) (body : List Stmt) (scope : Scope) (kws : List (Str × V)) (f : Addr) (ps : List Str) (sp : Sp) : Prop where
  ex : ∃ fd, FnOk P w K mg base (L2N.CX P w) k f fd ps sp ∧ FunD K x qual params body scope [] kws f fd
theorem oki_calm {P : Program} {w : World} {mg : Str → Option Value} {base : Heap} {k : Nat} {x qual : Str} {params : Arguments} {body : List Stmt} {scope : Scope} {kws : List (Str × V)} {fa C : Addr} {ps : List Str} {A : ATy β} {F : FTy γ} {f : β → Option (Res γ)}
    (h : OkIX P w K mg base k x qual params body scope kws fa ps (spInitX K C A F f)) : OkI P w K mg base k x qual params body scope kws fa ps (spInit C A F (fun p => (f p).bind Res.val)) := by
  obtain ⟨fd, G, D⟩ := h
  refine ⟨fd, (fnOk_calm G).imp fun vs H Q E q => ?_, D⟩
  obtain ⟨p, dx, r, x, y, G', e1, hp, eG, gp, ra, ef, q⟩ := q
  obtain ⟨z, ez, e⟩ := bind_inv ef
  cases z with
  | er _ => cases e
  | ok y' =>
    cases e
    exact ⟨p, dx, r, x, .ok _, G', e1, hp, eG, gp, ra, ez, q⟩
theorem ok_initX {P : Program} {w : World} {mg : Str → Option Value} {base : Heap} {x qual : Str} {params : Arguments} {body : List Stmt} {scope : Scope} {kws : List (Str × V)} {fa C : Addr} {N ps : List Str} {k : Nat} {A : ATy β} {fs : γ → List FV} {f : β → Option (Res γ)} {sl : β → TP.Env} (F : ∃ fd, FunD K x qual params body scope [] kws fa fd) (S : FnScope N ps scope) (hs : ASl A sl) (hn : A.n + 1 = ps.length) (hN : A.n + 1 ≤ N.length)
    (h : ∀ (cdv : Value) (Ar : Around) (outer : List PySem.Env) (s : Shared) (H : Hp) (E : XK), Room k (Ar.deeper (envOfC qual scope s.heap.objs.size fa cdv)) →
      ∃ t, PSs (cxOf (L2N.CX P w) P w K mg base N qual scope fa cdv Ar outer s H E) body t ∧ ∀ a p, ∃ m : Option (Fl (Res Unit) γ), f p = outIX m ∧ Sd t (.ob a C [] :: (sl p ++ List.replicate (N.length - 1 - A.n) .no)) (xW (pureR tyN) K (VE E) (List.replicate N.length .no)) (obE a C fs (N.length - 1)) m) :
    ∃ fd, FnOk P w K mg base (L2N.CX P w) (k + 1) fa fd ps (spInitX K C A (fL fs) f) ∧ FunD K x qual params body scope [] kws fa fd := by
  obtain ⟨fd, F⟩ := F
  refine ⟨fd, F.ok S (fun vs H Q E q => ?_) (fun cdv Ar outer s H vs Q E hr q => ?_), F⟩
  · obtain ⟨p, dx, r, x, y, G, rfl, _, _, _, ra, _⟩ := q
    rw [List.length_cons, A.len ra, hn]
  · obtain ⟨p, dx, r, x, z, G, rfl, hp, eG, gp, ra, ef, q⟩ := q
    obtain ⟨t, d, m⟩ := h cdv Ar outer s H E hr
    refine ⟨t, d, ?_⟩
    obtain ⟨m, em, sd⟩ := m p x
    rw [em] at ef
    obtain ⟨o, eo, e⟩ := bind_inv ef
    let H0 : Hp := fun a => if a = p then none else H a
    have e0 : Ex H0 H := fun a u ea => by
      by_cases c : a = p
      · have ea' : (if a = p then none else H a) = some u := ea
        rw [if_pos c] at ea'; cases ea'
      · have ea' : (if a = p then none else H a) = some u := ea
        rw [if_neg c] at ea'; exact ea'
    have hp0 : H0 p = none := if_pos rfl
    have nl : (L2.start N (.ref p :: r)) = some (.ref p) :: L2.start (N.drop 1) r := by
      unfold L2.start
      rw [List.map_cons, List.cons_append]
      congr 3
      simp only [List.length_cons, List.length_drop]
      omega
    have S1 : Slots H G H (L2.start (N.drop 1) r) (sl x ++ List.replicate ((N.drop 1).length - A.n) .no) := start_slots hs ra eG (by rw [List.length_drop]; omega)
    have el : (N.drop 1).length - A.n = N.length - 1 - A.n := by rw [List.length_drop]
    rw [el] at S1
    have S2 : Slots H0 G H (L2.start N (.ref p :: r)) (.ob p C [] :: (sl x ++ List.replicate (N.length - 1 - A.n) .no)) := by
      have noow : ∀ (i : Nat) (u : Slot), (sl x ++ List.replicate (N.length - 1 - A.n) .no)[i]? = some u → u.isOw = false := fun i u hu => by
        by_cases hi : i < (sl x).length
        · rw [List.getElem?_append_left hi] at hu
          exact ((hs G r x ra).2 i u hu).1
        · rw [List.getElem?_append_right (by omega)] at hu
          have := (List.mem_replicate.mp (List.mem_of_getElem? hu)).2
          rw [this]; rfl
      rw [nl]
      refine ⟨eG, by rw [List.length_cons, List.length_cons, S1.len], fun i u hu => ?_, fun i j a u v ne hi hj hu hv _ _ => ?_⟩
      · cases i with
        | zero =>
          have eu : Slot.ob p C [] = u := by simpa using hu
          subst eu
          exact ⟨_, rfl, dx, [], rfl, hp, gp, hp0, trivial⟩
        | succ i =>
          have hu : (sl x ++ List.replicate (N.length - 1 - A.n) .no)[i]? = some u := by simpa using hu
          obtain ⟨o', eo', q'⟩ := S1.at_ i u hu
          refine ⟨o', by simpa using eo', ?_⟩
          have nu := noow i u hu
          cases u with
          | no => trivial
          | pu => exact q'
          | ow => cases nu
          | ob => cases nu
      · cases i with
        | zero => cases j with
          | zero => exact ne rfl
          | succ j =>
            have := noow j v (by simpa using hj)
            rw [this] at hv; cases hv
        | succ i =>
          have := noow i u (by simpa using hi)
          rw [this] at hu; cases hu
    have s0 : Stp G H0 G H := ⟨Ex.refl _, e0, eG, fun _ _ z => z⟩
    refine sd o eo H0 G G H _ S2 s0 _ ?_
    cases o with
    | ret r' =>
      cases r' with
      | ok _ => cases e
      | er er =>
        cases e
        intro cls d σ' G' H' _ s' _ ro
        exact q cls d G' H' (fun b u hb hu => s'.h b u (by show (if b = p then none else H b) = _; rw [if_neg hb]; exact hu)) s'.g s'.m (fun b hb hh hgb => s'.p b (by show (if b = p then none else H b) ≠ none; rw [if_neg hb]; exact hh) hgb) ro
    | nx b =>
      cases e
      intro σ' G' H' S' s' _
      obtain ⟨o', eo', dx', vs, ea, ha, ga, h0a, rf⟩ := S'.at_ 0 (.ob p C (fs b)) rfl
      refine q G' H' vs (fun b u hb hu => s'.h b u (by show (if b = p then none else H b) = _; rw [if_neg hb]; exact hu)) s'.g s'.m ga (fun b hb hgb => ?_) ⟨dx', ha⟩ rf
      by_cases cb : b = p
      · rw [cb]; exact ga
      · exact s'.p b (by show (if b = p then none else H b) ≠ none; rw [if_neg cb]; exact hb) hgb
theorem sd_fldX {W : Rt τ} {V : WX} {env : β → TP.Env} {rest : TS} {i : Nat} {a C : Addr} {fs : List FV} {f : Str} {m : Option (Res α)} {g : α → Option (Fl (Res τ) β)} (ns : List Str) (hi : Γ[i]? = some (.ob a C fs)) (hc : Cls K C) (hn : NoAttr K C f) (hm : fs.map (·.n) = ns) (hl : lookN ns f = none) (hz : ns.length < 1000) (h : EvX te V Γ Γx K T m)
    (hr : ∀ x, Sd rest (Γ.set i (.ob a C (fs ++ [⟨f, T, x⟩]))) (xW W K V Γx) env (g x)) : Sd (tSeq (sFld K (tVar i) te f) rest) Γ (xW W K V Γx) env (xF m g) := fun o e H0 G0 G H σ S s D k => by
  obtain ⟨z, ea, e⟩ := bind_inv e
  obtain ⟨o', eo, dx, vs, ea', ha, hg, h0, r⟩ := S.at_ i _ hi
  subst ea'
  have hl : lookN (fs.map (·.n)) f = none := by rw [hm]; exact hl
  have hz : fs.length < 1000 := by rw [← List.length_map (f := fun v : FV => v.n), hm]; exact hz
  refine h z ea H0 G H σ S _ ?_
  cases z with
  | er e1 =>
    cases e
    exact fun cls d σ' G1 H1 S1 s1 r1 => k cls d σ' G1 H1 S1 (s.trans s1) s1.g r1
  | ok x =>
    intro v G1 H1 s1 r1
    have ha1 := s1.h _ _ ha
    have hg1 := s1.p a (ne_none_of ha) hg
    refine ⟨.ref a, eo, a, C, dx, vs, rfl, ha1, hc, hn, by rw [r.len]; exact hz, ?_⟩
    exact hr x o e H0 G0 G1 _ σ ((S.step s1).turnOb hi eo hg1 h0 (fvs_put (r.mono s1.g) hl r1)) ((s.trans s1).turn h0 hg1) D (k.mono s1.g)
theorem made_atX {C : Addr} {A : ATy β} {F : FTy γ} {f : β → Option (Res γ)} {G H : Hp} {r : List V} {x : β} {z : Res γ} {Q : VK} {E : XK} (m : Ex G H) (ra : A.rp G r x) (ef : f x = some z)
    (q : match z with
      | .ok y => ∀ v G' H', Stp G H G' H' → (tyO C F).rp G' v y → Q v H'
      | .er e => ∀ cls d G' H', Stp G H G' H' → ErOk K G' cls d e → E cls d H') {p dx : Addr} (np : H p = none) (nd : H dx = none) (ne : dx ≠ p) :
    spInitX K C A F f (.ref p :: r) (upd (upd H dx (.own p)) p (.ins C dx [])) (fun v H3 => v = .non ∧ Q (.ref p) H3) E := by
  have xg : G p = none := m.non np
  have dg : G dx = none := m.non nd
  refine ⟨p, dx, r, x, z, G, rfl, upd_same, (m.right dg).right xg, xg, ra, ef, ?_⟩
  cases z with
  | er e =>
    intro cls d G' H' k eg em pr ro
    refine q cls d G' H' ⟨eg, fun a u ea => ?_, em, fun a ha hg => ?_⟩ ro
    · have n1 : a ≠ p := ne_of_none ea np
      have n2 : a ≠ dx := ne_of_none ea nd
      exact k a u n1 (by rw [upd_ne n1, upd_ne n2]; exact ea)
    · have n1 : a ≠ p := fun z => ha (by rw [z]; exact np)
      have n2 : a ≠ dx := fun z => ha (by rw [z]; exact nd)
      exact pr a n1 (by rw [upd_ne n1, upd_ne n2]; exact ha) hg
  | ok y =>
    intro G' H' fs k eg em gx pr hx rf
    refine ⟨rfl, ?_⟩
    obtain ⟨dx', hx⟩ := hx
    have sx : Stp G H (upd G' p (.ins C dx' fs)) H' := by
      refine ⟨fun a u ea => ?_, fun a u ea => ?_, fun a u ea => ?_, fun a ha hg => ?_⟩
      · rw [upd_ne (ne_of_none ea xg)]; exact eg _ _ ea
      · have n1 : a ≠ p := ne_of_none ea np
        have n2 : a ≠ dx := ne_of_none ea nd
        exact k a u n1 (by rw [upd_ne n1, upd_ne n2]; exact ea)
      · by_cases qx : a = p
        · subst qx; rw [upd_same] at ea; rw [hx]; exact ea
        · rw [upd_ne qx] at ea; exact em _ _ ea
      · have n1 : a ≠ p := fun z => ha (by rw [z]; exact np)
        have n2 : a ≠ dx := fun z => ha (by rw [z]; exact nd)
        rw [upd_ne n1]
        exact pr a (by rw [upd_ne n1, upd_ne n2]; exact ha) hg
    exact q _ _ _ sx ⟨p, dx', fs, rfl, upd_same, FTy.mono _ (Ex.new gx) rf⟩
variable {β' ι : Type}
theorem evx_make {V : WX} {A1 : ATy β'} {A : ATy β} {j : β' → β} {C : Addr} {F : FTy γ} {f : β → Option (Res γ)} {t : TA} {ma : Option β'} (wk : Wk Γ Γx) (hg : ∀ G vs x, A1.rp G vs x → A.rp G vs (j x)) (ha : EvA t Γ A1 ma) : EvX (tMakeX C (spInitX K C A F f) (WE V) t) V Γ Γx K (tyO C F) (ma.bind fun x => f (j x)) := fun z e H0 G H σ S Q q => by
  obtain ⟨x, e1, e⟩ := bind_inv e
  refine ha x e1 H0 G H σ S _ fun vs G1 H1 s1 r1 => fun p dx np nd ne => ?_
  refine made_atX s1.m (hg _ _ _ r1) e ?_ np nd ne
  cases z with
  | ok y => exact fun v G' H' s rv => q v G' H' (s1.trans s) rv
  | er e => exact fun cls d G' H' s ro => q cls d σ G' H' ((S.step (s1.trans s)).wk wk) (s1.trans s) ro
theorem evx_makeK {Vx : WX} {A1 : ATy β'} {A2 : ATy ι} {A : ATy β} {g : List V → List V → List V} {j : β' → ι → β} {C : Addr} {F : FTy γ} {f : β → Option (Res γ)} {t tk : TA} {n m : Nat} {ma : Option β'} {mk : Option ι} (wk : Wk Γ Γx) (hg : Fit A1 A2 A g j) (h1 : A1.n = n) (h2 : A2.n = m)
    (ha : EvA t Γ A1 ma) (hk : EvA tk Γ A2 mk) : EvX (tMakeKX C n m (spInitX K C A F f) g (WE Vx) t tk) Vx Γ Γx K (tyO C F) (ma.bind fun x => mk.bind fun y => f (j x y)) := fun z e H0 G H σ S Q q => by
  obtain ⟨x, e1, e⟩ := bind_inv e
  obtain ⟨y, e2, e⟩ := bind_inv e
  refine ha x e1 H0 G H σ S _ fun vs G1 H1 s1 r1 => ?_
  refine hk y e2 H0 G1 H1 σ (S.step s1) _ fun zs G2 H2 s2 r2 => ?_
  refine ⟨by rw [A1.len r1, h1], by rw [A2.len r2, h2], fun p dx np nd ne => ?_⟩
  obtain ⟨r, er, ra⟩ := hg G2 vs zs x y (A1.mono s2.g r1) r2
  rw [er]
  refine made_atX s2.m ra e ?_ np nd ne
  have s12 := s1.trans s2
  cases z with
  | ok y => exact fun v G' H' s rv => q v G' H' (s12.trans s) rv
  | er e => exact fun cls d G' H' s ro => q cls d σ G' H' ((S.step (s12.trans s)).wk wk) (s12.trans s) ro
section
variable {X : Cx} {k n : Nat} {f C : Addr} {ps ks : List Str} {sp : Sp} {x q qual : Str} {p pos : Pos} {e : Expr} {es : List Expr} {t tk : TA} {kw : List Keyword} {params : Arguments} {body : List Stmt} {scope : Scope} {kws : List (Str × V)} {Vx : WX}
theorem pe_makeXF (F : OkIX X.prog X.w X.K X.mg X.base k q qual params body scope [] f ps sp) (M : Mk X.K C f) (hr : Room (k + 1) X.A) (tk : L2N.Takes X Vx) (hg : Gl X x) (hm : X.mg x = some (.ref C))
    (h : ∀ (kV doc pm : Value) (an : Option Addr) (cdv ct : Value) (us : List Value), us.length = ps.length → bindArgs (PySem.W.fnOf q qual params body scope .none kV doc pm an cdv ct) ⟨us, []⟩ = pure (ps.zip us))
    (ha : PA X (e :: es) t) (hdb : (x == ("__debug__" : Str)) = false := by decide) (he : starEach (e :: es) X.env = (false, eval e X.env) :: starEach es X.env := by rfl) (hpl : (backTo pos (starEach es X.env)).any (·.1) = false := by rfl) :
    PE X (.Call (.Name x p) (e :: es) [] pos) (tMakeX C sp (WE Vx) t) := by
  obtain ⟨fd, G, D⟩ := F.ex
  have R := G.raw (D.bindsN h) .nil
  simp only [List.append_nil] at R
  exact pe_makeXS M R hr hg hm (fun σ => L2N.passAt tk σ) ha hdb he hpl
theorem pe_makeKXF {g : {α : Type} → List α → List α → List α → List α} {ms : List (Str × V)} {pk : TA} (F : OkIX X.prog X.w X.K X.mg X.base k q qual params body scope kws f ps sp) (M : Mk X.K C f) (hr : Room (k + 1) X.A) (tk : L2N.Takes X Vx) (hg : Gl X x) (hm : X.mg x = some (.ref C))
    (hk : kws ≠ []) (hms : ∀ q ∈ ms, q ∈ kws) (hrel : ∀ {vs mz zs : List V} {us mv ws : List Value}, Vals vs us → Vals mz mv → Vals zs ws → Vals (g vs mz zs) (g us mv ws))
    (h : ∀ (D : Addr) (doc pm : Value) (an : Option Addr) (cdv ct : Value) (us mv ws : List Value), us.length = n + 1 → mv.length = ms.length → ws.length = ks.length →
      KwChain D ((ms.map (·.1)).zip mv) (bindArgs (PySem.W.fnOf q qual params body scope .none (.ref D) doc pm an cdv ct) ⟨us, ks.zip ws⟩) (ps.zip (g us mv ws)))
    (ha : PA X (e :: es) t) (hkw : PK X kw pk) (hall : (backToKw pos (keywordEach kw X.env)).all (·.1.isSome) = true := by rfl) (hks : (backToKw pos (keywordEach kw X.env)).filterMap (·.1) = ks := by rfl) (hdb : (x == ("__debug__" : Str)) = false := by decide)
    (he : starEach (e :: es) X.env = (false, eval e X.env) :: starEach es X.env := by rfl) (hpl : ((backTo pos (starEach (e :: es) X.env)).any (·.1) || (backToKw pos (keywordEach kw X.env)).any (·.1.isNone)) = false := by rfl) :
    PE X (.Call (.Name x p) (e :: es) kw pos) (tMakeKX C n ks.length sp (fun vs zs => g vs (ms.map (·.2)) zs) (WE Vx) t pk) := by
  obtain ⟨fd, G, D⟩ := F.ex
  obtain ⟨mv, hb⟩ := D.kbinds0 (n + 1) ks ms g hk hms hrel h
  exact pe_makeKS M G hr hg hm hb (fun σ => L2N.passAt tk σ) ha hkw hall hks hdb he hpl
end
end
end TP
set_option maxHeartbeats 2000000
namespace TP
open PySem PySem.Spec PyProof.Rows L2
section
variable {K : PySem.W.Frag} {α β β' γ δ τ ι : Type} {Γ Γx : TP.Env} {T : Ty α} {te ta : TE} {P : Program} {w : World} {mg : Str → Option Value} {base : Heap}
structure OkXK (P : Program) (w : World) (K : PySem.W.Frag) (mg : Str → Option Value) (base : Heap) (k : Nat) (x qual : Str) (params : Arguments) (body : List Stmt) (scope : Scope) (kws : List (Str × V)) (f : Addr) (ps : List Str) (sp : Sp) : Prop where
  ex : ∃ fd, FnOk P w K mg base (L2N.CX P w) k f fd ps sp ∧ FunD K x qual params body scope [] kws f fd
theorem okk_calm {x qual : Str} {params : Arguments} {body : List Stmt} {scope : Scope} {kws : List (Str × V)} {A : ATy β} {k : Nat} {g : Addr} {ps : List Str} {f : β → Option (Res α)} (F : OkXK P w K mg base k x qual params body scope kws g ps (spX K A T f)) : OkK P w K mg base k x qual params body scope kws g ps (spOf A T (fun p => (f p).bind Res.val)) := by
  obtain ⟨fd, G, D⟩ := F
  refine ⟨fd, (fnOk_calm G).imp fun vs H Q E q => ?_, D⟩
  obtain ⟨p, r, G', ef, eG, ra, q⟩ := q
  obtain ⟨z, ez, e⟩ := bind_inv ef
  cases z with
  | er _ => cases e
  | ok x =>
    cases e
    exact ⟨p, .ok r, G', ez, eG, ra, q⟩
theorem okk_calmN {x qual : Str} {params : Arguments} {body : List Stmt} {scope : Scope} {kws : List (Str × V)} {A : ATy β} {k : Nat} {g : Addr} {ps : List Str} {f : β → Option (Res (List α))} (F : OkXK P w K mg base k x qual params body scope kws g ps (spXN K A T f)) : OkK P w K mg base k x qual params body scope kws g ps (spOfN A T (fun p => (f p).bind Res.val)) := by
  obtain ⟨fd, G, D⟩ := F
  refine ⟨fd, (fnOk_calm G).imp fun vs H Q E q => ?_, D⟩
  obtain ⟨p, r, G', ef, eG, ra, q⟩ := q
  obtain ⟨z, ez, e⟩ := bind_inv ef
  cases z with
  | er _ => cases e
  | ok x =>
    cases e
    exact ⟨p, .ok r, G', ez, eG, ra, q⟩
theorem okk_new {x qual : Str} {params : Arguments} {body : List Stmt} {scope : Scope} {kws : List (Str × V)} {fa : Addr} {N ps : List Str} {k : Nat} {A : ATy β} {T : Ty α} {f : β → Option (List α)} {sl : β → TP.Env} (F : ∃ fd, FunD K x qual params body scope [] kws fa fd) (S : FnScope N ps scope) (hs : ASl A sl) (hn : A.n = ps.length) (hN : A.n ≤ N.length)
    (h : ∀ (cdv : Value) (Ar : Around) (outer : List PySem.Env) (s : Shared) (H : Hp) (E : XK), Room k (Ar.deeper (envOfC qual scope s.heap.objs.size fa cdv)) →
      ∃ t, PSs (cxOf CX0 P w K mg base N qual scope fa cdv Ar outer s H E).nox body t ∧ ∀ p, ∃ m : Option (Fl (List α) Unit), f p = outF m ∧ Sd t (sl p ++ List.replicate (N.length - A.n) .no) (newR T) (noE N.length) m) :
    OkK P w K mg base (k + 1) x qual params body scope kws fa ps (spOfN A T f) := by
  obtain ⟨fd, F⟩ := F
  refine ⟨fd, F.ok S (fun vs H Q E q => ?_) (fun cdv Ar outer s H vs Q E hr q => ?_), F⟩
  · obtain ⟨p, r, G, _, _, ra, _⟩ := q
    rw [A.len ra, hn]
  · obtain ⟨p, r, G, ef, eG, ra, q⟩ := q
    obtain ⟨t, d, m⟩ := h cdv Ar outer s H E hr
    refine ⟨t, d.nox, ?_⟩
    obtain ⟨m, em, sd⟩ := m p
    rw [em] at ef
    obtain ⟨o, eo, e⟩ := bind_inv ef
    refine sd o eo H G G H _ (start_slots hs ra eG hN) (Stp.refl eG) _ ?_
    cases o with
    | ret r' =>
      cases e
      intro v G' H' s' rv
      obtain ⟨p, ws, rfl, h0, hg, hp, rr⟩ := rv
      exact q p ws G' H' s' h0 hg hp rr
    | nx b => cases e
theorem okx_pureK {x qual : Str} {params : Arguments} {body : List Stmt} {scope : Scope} {kws : List (Str × V)} {fa : Addr} {N ps : List Str} {k : Nat} {A : ATy β} {T : Ty γ} {f : β → Option (Res γ)} {sl : β → TP.Env} (F : ∃ fd, FunD K x qual params body scope [] kws fa fd) (S : FnScope N ps scope) (hs : ASl A sl) (hn : A.n = ps.length) (hN : A.n ≤ N.length)
    (h : ∀ (cdv : Value) (Ar : Around) (outer : List PySem.Env) (s : Shared) (H : Hp) (E : XK), Room k (Ar.deeper (envOfC qual scope s.heap.objs.size fa cdv)) →
      ∃ t, PSs (cxOf (L2N.CX P w) P w K mg base N qual scope fa cdv Ar outer s H E) body t ∧ ∀ p, ∃ m : Option (Fl (Res γ) Unit), f p = outF m ∧ Sd t (sl p ++ List.replicate (N.length - A.n) .no) (xW (pureR T) K (VE E) (List.replicate N.length .no)) (noE N.length) m) :
    OkXK P w K mg base (k + 1) x qual params body scope kws fa ps (spX K A T f) := by
  obtain ⟨fd, F⟩ := F
  refine ⟨fd, F.ok S (fun vs H Q E q => ?_) (fun cdv Ar outer s H vs Q E hr q => ?_), F⟩
  · obtain ⟨p, r, G, _, _, ra, _⟩ := q
    rw [A.len ra, hn]
  · obtain ⟨p, r, G, ef, eG, ra, q⟩ := q
    obtain ⟨t, d, m⟩ := h cdv Ar outer s H E hr
    refine ⟨t, d, ?_⟩
    obtain ⟨m, em, sd⟩ := m p
    rw [em] at ef
    obtain ⟨o, eo, e⟩ := bind_inv ef
    refine sd o eo H G G H _ (start_slots hs ra eG hN) (Stp.refl eG) _ ?_
    cases o with
    | nx b => cases e
    | ret r' =>
      cases e
      cases r with
      | ok x => exact fun v G' H' s' rv => q v G' H' s' rv
      | er e => exact fun cls d σ' G' H' _ s' _ ro => q cls d G' H' s' ro
theorem ev_callN {A1 : ATy β'} {A2 : ATy ι} {A : ATy β} {n m : Nat} {g : List V → List V → List V} {j : β' → ι → β} {f : β → Option α} {ma : Option β'} {mk : Option ι} {t tk : TA} {E : XK} (hA : ∀ G vs zs x y, A1.rp G vs x → A2.rp G zs y → A.rp G (g vs zs) (j x y)) (h1 : A1.n = n) (h2 : A2.n = m)
    (h : EvA t Γ A1 ma) (hk : EvA tk Γ A2 mk) : Ev (tCallN n m (spOf A T f) g E t tk) Γ T (ma.bind fun x => mk.bind fun y => f (j x y)) := fun z e H0 G H σ S Q q => by
  obtain ⟨x, ea, e⟩ := bind_inv e
  obtain ⟨y, eb, e⟩ := bind_inv e
  refine h x ea H0 G H σ S _ fun vs G1 H1 s1 r1 => ?_
  refine hk y eb H0 G1 H1 σ (S.step s1) _ fun zs G2 H2 s2 r2 => ⟨by rw [A1.len r1, h1], by rw [A2.len r2, h2], ?_⟩
  exact ⟨j x y, z, G2, e, s2.m, hA G2 _ zs x y (A1.mono s2.g r1) r2, fun w G3 H3 s3 r3 => q w G3 H3 ((s1.trans s2).trans s3) r3⟩
theorem evn_callN {A1 : ATy β'} {A2 : ATy ι} {A : ATy β} {n m : Nat} {g : List V → List V → List V} {j : β' → ι → β} {f : β → Option (List α)} {ma : Option β'} {mk : Option ι} {t tk : TA} {E : XK} (hA : ∀ G vs zs x y, A1.rp G vs x → A2.rp G zs y → A.rp G (g vs zs) (j x y)) (h1 : A1.n = n) (h2 : A2.n = m)
    (h : EvA t Γ A1 ma) (hk : EvA tk Γ A2 mk) : EvN (tCallN n m (spOfN A T f) g E t tk) Γ T (ma.bind fun x => mk.bind fun y => f (j x y)) := fun z e H0 G H σ S Q q => by
  obtain ⟨x, ea, e⟩ := bind_inv e
  obtain ⟨y, eb, e⟩ := bind_inv e
  refine h x ea H0 G H σ S _ fun vs G1 H1 s1 r1 => ?_
  refine hk y eb H0 G1 H1 σ (S.step s1) _ fun zs G2 H2 s2 r2 => ⟨by rw [A1.len r1, h1], by rw [A2.len r2, h2], ?_⟩
  exact ⟨j x y, z, G2, e, s2.m, hA G2 _ zs x y (A1.mono s2.g r1) r2, fun a ws G3 H3 s3 hn hg hp r3 => q a ws G3 H3 ((s1.trans s2).trans s3) ((s1.trans s2).h.non hn) hg hp r3⟩
def tCallNX (n m : Nat) (sp : Sp) (gV : List V → List V → List V) (E : L2.St → XK) (t tk : TA) : TE := fun σ H Q => t σ H fun vs H1 => tk σ H1 fun zs H2 => vs.length = n ∧ zs.length = m ∧ sp (gV vs zs) H2 Q (E σ)
theorem evx_callN {V : WX} {A1 : ATy β'} {A2 : ATy ι} {A : ATy β} {n m : Nat} {g : List L2.V → List L2.V → List L2.V} {j : β' → ι → β} {f : β → Option (Res α)} {ma : Option β'} {mk : Option ι} {t tk : TA} (wk : Wk Γ Γx) (hA : ∀ G vs zs x y, A1.rp G vs x → A2.rp G zs y → A.rp G (g vs zs) (j x y)) (h1 : A1.n = n) (h2 : A2.n = m)
    (h : EvA t Γ A1 ma) (hk : EvA tk Γ A2 mk) : EvX (tCallNX n m (spX K A T f) g (WE V) t tk) V Γ Γx K T (ma.bind fun x => mk.bind fun y => f (j x y)) := fun z e H0 G H σ S Q q => by
  obtain ⟨x, ea, e⟩ := bind_inv e
  obtain ⟨y, eb, e⟩ := bind_inv e
  refine h x ea H0 G H σ S _ fun vs G1 H1 s1 r1 => ?_
  refine hk y eb H0 G1 H1 σ (S.step s1) _ fun zs G2 H2 s2 r2 => ⟨by rw [A1.len r1, h1], by rw [A2.len r2, h2], ?_⟩
  have s12 := s1.trans s2
  refine ⟨j x y, z, G2, e, s2.m, hA G2 _ zs x y (A1.mono s2.g r1) r2, ?_⟩
  cases z with
  | ok x => exact fun v G3 H3 s3 r3 => q v G3 H3 (s12.trans s3) r3
  | er e => exact fun cls d G3 H3 s3 r3 => q cls d σ G3 H3 ((S.step (s12.trans s3)).wk wk) (s12.trans s3) r3
theorem ev_callD {A1 : ATy β'} {A : ATy β} {dvs : List V} {j : β' → β} {f : β → Option α} {ma : Option β'} {t : TA} {E : XK} (hg : ∀ G vs x, A1.rp G vs x → A.rp G (vs ++ dvs) (j x)) (h : EvA t Γ A1 ma) : Ev (tCall (spOf A T f) dvs E t) Γ T (ma.bind fun x => f (j x)) := fun z e H0 G H σ S Q q => by
  obtain ⟨x, ea, e⟩ := bind_inv e
  exact h x ea H0 G H σ S _ fun vs G1 H1 s1 r1 => ⟨j x, z, G1, e, s1.m, hg _ _ _ r1, fun v G2 H2 s2 r2 => q v G2 H2 (s1.trans s2) r2⟩
theorem evn_callD {A1 : ATy β'} {A : ATy β} {dvs : List V} {j : β' → β} {f : β → Option (List α)} {ma : Option β'} {t : TA} {E : XK} (hg : ∀ G vs x, A1.rp G vs x → A.rp G (vs ++ dvs) (j x)) (h : EvA t Γ A1 ma) : EvN (tCall (spOfN A T f) dvs E t) Γ T (ma.bind fun x => f (j x)) := fun z e H0 G H σ S Q q => by
  obtain ⟨x, ea, e⟩ := bind_inv e
  exact h x ea H0 G H σ S _ fun vs G1 H1 s1 r1 => ⟨j x, z, G1, e, s1.m, hg _ _ _ r1, fun a ws G2 H2 s2 hn hg hp r2 => q a ws G2 H2 (s1.trans s2) (s1.h.non hn) hg hp r2⟩
end
section
variable {X : Cx} {k n : Nat} {f : Addr} {ps ks : List Str} {sp : Sp} {x q qual : Str} {p pos : Pos} {e : Expr} {es : List Expr} {t tk : TA} {kw : List Keyword} {params : Arguments} {body : List Stmt} {scope : Scope} {kws : List (Str × V)}
theorem pe_callKF {g : {α : Type} → List α → List α → List α → List α} {ms : List (Str × V)} (F : OkK X.prog X.w X.K X.mg X.base k q qual params body scope kws f ps sp) (hr : Room k X.A) (hg : Gl X x) (hm : X.mg x = some (.ref f))
    (hk : kws ≠ []) (hms : ∀ q ∈ ms, q ∈ kws) (hrel : ∀ {vs mz zs : List V} {us mv ws : List Value}, Vals vs us → Vals mz mv → Vals zs ws → Vals (g vs mz zs) (g us mv ws))
    (h : ∀ (D : Addr) (doc pm : Value) (an : Option Addr) (cdv ct : Value) (us mv ws : List Value), us.length = n → mv.length = ms.length → ws.length = ks.length →
      KwChain D ((ms.map (·.1)).zip mv) (bindArgs (PySem.W.fnOf q qual params body scope .none (.ref D) doc pm an cdv ct) ⟨us, ks.zip ws⟩) (ps.zip (g us mv ws)))
    (ha : PA X (e :: es) t) (hkw : PK X kw tk) (hall : (backToKw pos (keywordEach kw X.env)).all (·.1.isSome) = true := by rfl) (hks : (backToKw pos (keywordEach kw X.env)).filterMap (·.1) = ks := by rfl) (hdb : (x == ("__debug__" : Str)) = false := by decide)
    (he : starEach (e :: es) X.env = (false, eval e X.env) :: starEach es X.env := by rfl) (hpl : ((backTo pos (starEach (e :: es) X.env)).any (·.1) || (backToKw pos (keywordEach kw X.env)).any (·.1.isNone)) = false := by rfl) :
    PE X (.Call (.Name x p) (e :: es) kw pos) (tCallN n ks.length sp (fun vs zs => g vs (ms.map (·.2)) zs) E0 t tk) := by
  obtain ⟨fd, G, D⟩ := F.ex
  obtain ⟨mv, hb⟩ := D.kbinds0 n ks ms g hk hms hrel h
  exact pe_callN G hr hg hm D.kp hb pass0 ha hkw hall hks hdb he hpl
theorem pe_callDF (F : OkK X.prog X.w X.K X.mg X.base k q qual params body scope kws f ps sp) (hr : Room k X.A) (hg : Gl X x) (hm : X.mg x = some (.ref f)) (hk : kws ≠ []) (hn : n + kws.length = ps.length)
    (h : ∀ (D : Addr) (doc pm : Value) (an : Option Addr) (cdv ct : Value) (us ks : List Value), us.length = n → ks.length = kws.length →
      KwChain D ((kws.map (·.1)).zip ks) (bindArgs (PySem.W.fnOf q qual params body scope .none (.ref D) doc pm an cdv ct) ⟨us, []⟩) (ps.zip (us ++ ks)))
    (ha : PA X (e :: es) t) (hdb : (x == ("__debug__" : Str)) = false := by decide) (he : starEach (e :: es) X.env = (false, eval e X.env) :: starEach es X.env := by rfl) (hpl : (backTo pos (starEach es X.env)).any (·.1) = false := by rfl) :
    PE X (.Call (.Name x p) (e :: es) [] pos) (tCall sp (kws.map (·.2)) E0 t) := by
  obtain ⟨fd, G, D⟩ := F.ex
  obtain ⟨ds, hd, hb⟩ := D.binds0 n hk hn h
  exact pe_call G hr hg hm D.kp hb hd pass0 ha hdb he hpl
theorem run_fnNS {X : Cx} {CX : CXT} {k n : Nat} {f : Addr} {fd : FuncData} {ps ks : List Str} {sp : Sp} {E : XK} {g : List Value → List Value → List Value} {gV : List V → List V → List V} {pins : List (Addr × Obj)} {σ : L2.St} {H : Hp} {s : Shared} {Q : VK} {us ws : List Value} {vs zs : List V} (F : FnOk X.prog X.w X.K X.mg X.base CX k f fd ps sp) (hr : Room k X.A) (hb : KBn X.K fd ps n ks g gV) (hx : PassesAt CX X σ E)
    (I : L2.Inv X pins σ H s) (r : Vals vs us) (rz : Vals zs ws) (l1 : vs.length = n) (l2 : zs.length = ks.length) (h : sp (gV vs zs) H Q E) : wpAny (model X.prog X.w) X.A (call (.ref f) us (ks.zip ws)) (EP X pins σ Q) X.xe s := by
  have r2 := hb.rel r rz
  refine wpAny_call (codeAny_mono (F.run X.A X.stack s H ⟨us, ks.zip ws⟩ (g us ws) (gV vs zs) Q E hr I.env0 (hb.to s us ws I.kIn (r.length.symm.trans l1) (rz.length.symm.trans l2)) r2 h) fun r s' hq => ?_)
  cases r with
  | error e => exact hx pins H s e s' I hq
  | ok fl =>
    cases fl with
    | ret u => exact I.after hq
    | next => exact False.elim hq
    | brk => exact False.elim hq
    | cont => exact False.elim hq
theorem pe_callKXF {Vx : WX} {g : {α : Type} → List α → List α → List α → List α} {ms : List (Str × V)} {pk : TA} (F : OkXK X.prog X.w X.K X.mg X.base k q qual params body scope kws f ps sp) (hr : Room k X.A) (tk : L2N.Takes X Vx) (hg : Gl X x) (hm : X.mg x = some (.ref f))
    (hk : kws ≠ []) (hms : ∀ q ∈ ms, q ∈ kws) (hrel : ∀ {vs mz zs : List V} {us mv ws : List Value}, Vals vs us → Vals mz mv → Vals zs ws → Vals (g vs mz zs) (g us mv ws))
    (h : ∀ (D : Addr) (doc pm : Value) (an : Option Addr) (cdv ct : Value) (us mv ws : List Value), us.length = n → mv.length = ms.length → ws.length = ks.length →
      KwChain D ((ms.map (·.1)).zip mv) (bindArgs (PySem.W.fnOf q qual params body scope .none (.ref D) doc pm an cdv ct) ⟨us, ks.zip ws⟩) (ps.zip (g us mv ws)))
    (ha : PA X (e :: es) t) (hkw : PK X kw pk) (hall : (backToKw pos (keywordEach kw X.env)).all (·.1.isSome) = true := by rfl) (hks : (backToKw pos (keywordEach kw X.env)).filterMap (·.1) = ks := by rfl) (hdb : (x == ("__debug__" : Str)) = false := by decide)
    (he : starEach (e :: es) X.env = (false, eval e X.env) :: starEach es X.env := by rfl) (hpl : ((backTo pos (starEach (e :: es) X.env)).any (·.1) || (backToKw pos (keywordEach kw X.env)).any (·.1.isNone)) = false := by rfl) :
    PE X (.Call (.Name x p) (e :: es) kw pos) (tCallNX n ks.length sp (fun vs zs => g vs (ms.map (·.2)) zs) (WE Vx) t pk) := by
  obtain ⟨fd, G, D⟩ := F.ex
  obtain ⟨mv, hb⟩ := D.kbinds0 n ks ms g hk hms hrel h
  refine ⟨fun pins s σ H Q I h => ?_⟩
  refine wpAny_Call_Name_kw (ld_glob I hg hm ?_ hdb)
  refine PySem.W.callWith_KW (h₀ := X.base) I.ok.mod.kin D.kp hall (thn (ha.run pos pins s σ H _ I h) fun us s1 ⟨vs, H1, I1, r, q⟩ => ?_) hpl he
  refine thn (hkw.run pos pins s1 σ H1 _ I1 q) fun ws s2 ⟨zs, H2, I2, rz, l1, l2, q2⟩ => ⟨I2.kIn, ?_⟩
  rw [hks]
  exact run_fnNS G hr hb (L2N.passAt tk σ) I2 r rz l1 l2 q2
end
section
variable {α β γ δ τ : Type} {Γ Γx : TP.Env} {K : PySem.W.Frag} {W : Rt γ} {rest : TS}
theorem sd_tryAs2 [FlatR W] {env : β → TP.Env} {env1 envh : δ → TP.Env} {i : Nat} {t : TS} {tb : WX → TS} {ts : Addr → Value → Option Addr → TS} {c : Value} {Wout : WX} {mb : Option (Fl (Res γ) δ)} {M : Er → Bool} {mh : Er → Option (Fl γ δ)} {f : δ → Option (Fl γ β)}
    (hb : ∀ V, Sd (tb V) Γ (xW W K V Γx) env1 mb) (hm : ∀ e cls d G, ErOk K G cls d e → M e = true → PySem.W.exmOne K cls c = some true)
    (hs : ∀ a cls d e, M e = true → Sd (ts a cls d) (Γx.set i (.pu (tyE K a cls d) e)) W envh (mh e)) (wk : ∀ b, Wk ((envh b).set i .no) (env1 b)) (hr : ∀ b, Sd rest (env1 b) W env (f b)) (ht : t = fun D σ H => tb (wAs K c i ts Wout D) D σ H) :
    Sd (tSeq t rest) Γ W env (thenF (tryF mb M mh) f) := by
  rw [ht]
  exact sd_tryAs hb hm hs wk hr
theorem sd_tryOnly2 {env : δ → TP.Env} {env1 : τ → TP.Env} {t : TS} {tb : WX → TS} {ts : Addr → Value → Option Addr → TS} {c : Value} {Wout : WX} {mb : Option (Fl (Res γ) τ)} {M : Er → Bool} {mh : Option (Fl γ τ)} {f : τ → Option (Fl γ δ)}
    (hb : ∀ V, Sd (tb V) Γ (xW W K V Γx) env1 mb) (hm : ∀ e cls d G, ErOk K G cls d e → M e = true → PySem.W.exmOne K cls c = some true)
    (hs : ∀ a cls d, Sd (ts a cls d) Γx W env1 mh) (hr : ∀ b, Sd rest (env1 b) W env (f b)) (ht : t = fun D σ H => tb (wMany K Wout D [(c, ts)]) D σ H) :
    Sd (tSeq t rest) Γ W env (thenF (tryF mb M (fun _ => mh)) f) := by
  rw [ht]
  exact sd_tryOnly hb hm hs hr
end
theorem call_listK {X : Cx} (K : PySem.W.Frag) (h : X.K = K := by rfl) : CallR X (.type "list") (rListQ K) := by
  subst h; exact call_list_of
theorem call_tupleK {X : Cx} (K : PySem.W.Frag) (h : X.K = K := by rfl) : CallR X (.type "tuple") (rTupleQ K) := by
  subst h; exact call_tuple_of
theorem call_lenK {X : Cx} (K : PySem.W.Frag) (h : X.K = K := by rfl) : CallR X (.builtin "len") (rLenQ K) := by
  subst h; exact call_len_seq
end TP
set_option maxHeartbeats 2000000
namespace TP
open PySem PySem.Spec PyProof.Rows L2
section
variable {K : PySem.W.Frag} {α β γ δ ι κ : Type} {Γ Γx : TP.Env} {T : Ty α} {te ta : TE}
def lc2Go (p : ι → Option Bool) (it : ι → Option (List κ)) (p1 : ι → κ → Option Bool) (f : ι → κ → Option α) : List ι → Option (List α)
  | [] => some []
  | x :: xs => (p x).bind fun b => if b then (it x).bind fun js => (lcGo (p1 x) (f x) js).bind fun ys => (lc2Go p it p1 f xs).bind fun r => some (ys ++ r) else lc2Go p it p1 f xs
def lc2M (p : ι → Option Bool) (it : ι → Option (List κ)) (p1 : ι → κ → Option Bool) (f : ι → κ → Option α) (xs : List ι) : Option (List α) := (lc2Go p it p1 f xs).bind fun z => if z.length ≤ lim then some z else none
theorem Slots.bar {H0 G H : Hp} {σ : L2.St} {D : Addr} {u : HO} (S : Slots H0 G H σ Γ) (hD : H D = none) : Slots (upd H0 D u) G H σ Γ :=
  ⟨S.m, S.len, fun i t h => by
    obtain ⟨o, e, q⟩ := S.at_ i t h
    refine ⟨o, e, ?_⟩
    cases t with
    | no => trivial
    | pu => exact q
    | ow T xs =>
      obtain ⟨a, vs, e, ha, hg, h0, r⟩ := q
      exact ⟨a, vs, e, ha, hg, by rw [upd_ne (fun z => by rw [z, hD] at ha; cases ha)]; exact h0, r⟩
    | ob a C fs =>
      obtain ⟨dx, vs, e, ha, hg, h0, r⟩ := q
      exact ⟨dx, vs, e, ha, hg, by rw [upd_ne (fun z => by rw [z, hD] at ha; cases ha)]; exact h0, r⟩, S.dis⟩
theorem Slots.barTurn {H0 G H : Hp} {σ : L2.St} {D : Addr} {u v : HO} (S : Slots (upd H0 D u) G H σ Γ) (hD : G D = none) : Slots (upd H0 D u) G (upd H D v) σ Γ :=
  ⟨S.m.right hD, S.len, fun i t h => by
    obtain ⟨o, e, q⟩ := S.at_ i t h
    refine ⟨o, e, ?_⟩
    have ne : ∀ a, (upd H0 D u) a = none → a ≠ D := fun a h z => by rw [z, upd_same] at h; cases h
    cases t with
    | no => trivial
    | pu => exact q
    | ow T xs =>
      obtain ⟨a, vs, e, ha, hg, h0, r⟩ := q
      exact ⟨a, vs, e, by rw [upd_ne (ne a h0)]; exact ha, hg, h0, r⟩
    | ob a C fs =>
      obtain ⟨dx, vs, e, ha, hg, h0, r⟩ := q
      exact ⟨dx, vs, e, by rw [upd_ne (ne a h0)]; exact ha, hg, h0, r⟩, S.dis⟩
theorem evn_lc2 {wi wi1 : L2.TI} {g g1 : TG} {is vs is1 vs1 : List Nat} {tt tt1 : L2.TT} {P : Ty ι} {P1 : Ty κ} {Δ : ι → TP.Env} {Δ1 : ι → κ → TP.Env} {mxs : Option (List ι)} {p : ι → Option Bool} {it : ι → Option (List κ)} {p1 : ι → κ → Option Bool} {f : ι → κ → Option α}
    (hi : EvI wi Γ P mxs) (hg : EvG g is (wipeE Γ vs) P Δ) (hv : ∀ i ∈ is, i ∈ vs) (ht : ∀ x, EvT tt (Δ x) (p x)) (hi1 : ∀ x, EvI wi1 (Δ x) P1 (it x)) (hg1 : ∀ x, EvG g1 is1 (wipeE (Δ x) vs1) P1 (Δ1 x)) (hv1 : ∀ i ∈ is1, i ∈ vs1) (ht1 : ∀ x y, EvT tt1 (Δ1 x y) (p1 x y))
    (he : ∀ x y, Ev te (Δ1 x y) T (f x y)) : EvN (tLc2 wi g tt wi1 g1 tt1 te vs vs1) Γ T (mxs.bind (lc2M p it p1 f)) := fun z e H0 G H σ S Q q => by
  obtain ⟨xs, ea, ef⟩ := bind_inv e
  obtain ⟨z', ef, ez0⟩ := bind_inv ef
  by_cases hl : z'.length ≤ lim
  case neg => rw [if_neg hl] at ez0; cases ez0
  rw [if_pos hl] at ez0
  cases ez0
  refine hi xs ea H0 G H σ S _ fun J G1 H1 s1 yl => ?_
  intro D hD
  refine ⟨fun i m Hc => m = xs.length - i ∧ i ≤ xs.length ∧ ∃ G' acc ys zs, Stp G1 H1 G' Hc ∧ G' D = none ∧ Hc D = some (.lst acc) ∧ All2 (T.rp G') acc ys ∧ lc2Go p it p1 f (xs.drop i) = some zs ∧ z = ys ++ zs,
    ⟨xs.length, by simp, Nat.zero_le _, G1, [], [], z, Stp.priv s1.m hD, s1.m.non hD, upd_same, trivial, ef, rfl⟩, ?_⟩
  rintro i m Hc ⟨rfl, hle, G', acc, ys, zs, sc, gD, cD, ra, eg, ez⟩
  obtain ⟨y1, y2⟩ := yl i G' Hc sc.g sc.m
  by_cases hlt : i < xs.length
  · right
    have ex : xs[i]? = some xs[i] := List.getElem?_eq_getElem hlt
    obtain ⟨jg, jy⟩ := y1 _ ex
    have ed : xs.drop i = xs[i] :: xs.drop (i + 1) := List.drop_eq_getElem_cons hlt
    rw [ed] at eg
    obtain ⟨b, eb, eg⟩ := bind_inv eg
    refine ⟨jg, _, fun H' n => n, fun x H2 y => ?_⟩
    obtain ⟨G2, s2, r2⟩ := jy x H2 y
    have S2 : Slots (upd H0 D (.lst [])) G2 H2 (L2.wipe σ vs) (wipeE Γ vs) := (((S.step s1).bar hD).step (sc.trans s2)).wipe vs
    refine hg _ x _ G2 H2 _ S2 r2 _ fun σ' S3 hw => ⟨(hw vs hv).trans (wipe_wipe vs), ?_⟩
    refine ht _ b eb _ G2 H2 σ' S3 _ fun G3 H3 s3 => ?_
    have s03 := (sc.trans s2).trans s3
    have g3 : G3 D = none := (s2.trans s3).p D (ne_none_of cD) gD
    have c3 : H3 D = some (.lst acc) := (s2.trans s3).h _ _ cD
    cases b with
    | true =>
      rw [if_pos rfl] at eg
      obtain ⟨js, ejs, eg⟩ := bind_inv eg
      obtain ⟨ws, ews, eg⟩ := bind_inv eg
      obtain ⟨r, er, eg⟩ := bind_inv eg
      cases eg
      rw [if_pos rfl]
      refine hi1 _ js ejs _ G3 H3 σ' (S3.step s3) _ fun J1 G4 H4 s4 yl1 => ?_
      have g4 := s4.p D (ne_none_of c3) g3
      have c4 := s4.h _ _ c3
      refine ⟨fun j k Hd => k = js.length - j ∧ j ≤ js.length ∧ ∃ Gd accd ysd zsd, Stp G1 H1 Gd Hd ∧ Ex G4 Gd ∧ Slots (upd H0 D (.lst [])) Gd Hd σ' (Δ xs[i]) ∧ Gd D = none ∧ Hd D = some (.lst accd) ∧ All2 (T.rp Gd) accd ysd ∧ lcGo (p1 xs[i]) (f xs[i]) (js.drop j) = some zsd ∧ z = ysd ++ (zsd ++ r),
        ⟨js.length, by simp, Nat.zero_le _, G4, acc, ys, ws, s03.trans s4, Ex.refl _, (S3.step s3).step s4, g4, c4, ra.mono fun _ _ q => T.mono ((s2.trans s3).trans s4).g q, ews, ez⟩, ?_⟩
      rintro j k Hd ⟨rfl, jle, Gd, accd, ysd, zsd, sd, exd, Sl, gd_, cd, rd, egd, ezd⟩
      obtain ⟨z1, z2⟩ := yl1 j Gd Hd exd sd.m
      by_cases jlt : j < js.length
      · right
        have ejx : js[j]? = some js[j] := List.getElem?_eq_getElem jlt
        obtain ⟨jg1, jy1⟩ := z1 _ ejx
        have edj : js.drop j = js[j] :: js.drop (j + 1) := List.drop_eq_getElem_cons jlt
        rw [edj] at egd
        obtain ⟨b1, eb1, egd⟩ := bind_inv egd
        refine ⟨jg1, _, fun H' n => n, fun x5 H5 y5 => ?_⟩
        obtain ⟨G5, s5, r5⟩ := jy1 x5 H5 y5
        refine hg1 _ _ x5 _ G5 H5 _ ((Sl.step s5).wipe vs1) r5 _ fun σ3 S6 hw1 => ⟨(hw1 vs1 hv1).trans (wipe_wipe vs1), ?_⟩
        refine ht1 _ _ b1 eb1 _ G5 H5 σ3 S6 _ fun G6 H6 s6 => ?_
        have s56 := s5.trans s6
        have g6 : G6 D = none := s56.p D (ne_none_of cd) gd_
        have c6 : H6 D = some (.lst accd) := s56.h _ _ cd
        cases b1 with
        | true =>
          rw [if_pos rfl] at egd
          obtain ⟨w, ew, egd⟩ := bind_inv egd
          obtain ⟨r1, er1, egd⟩ := bind_inv egd
          cases egd
          rw [if_pos rfl]
          refine he _ _ w ew _ G6 H6 σ3 (S6.step s6) _ fun v G7 H7 s7 r7 => ?_
          have c7 := s7.h _ _ c6
          have g7 := s7.p D (ne_none_of c6) g6
          have s57 := s56.trans s7
          have hlz : ysd.length + 1 ≤ z.length := by rw [ezd]; simp
          refine ⟨accd, c7, ?_, ?_⟩
          · rw [rd.len]
            exact lim_lt (by omega)
          · refine ⟨js.length - (j + 1), by omega, rfl, by omega, G7, accd ++ [v], ysd ++ [w], r1, ?_, exd.trans s57.g, (Sl.step s57).barTurn g7, g7, upd_same, ?_, er1, ?_⟩
            · have s8 := sd.trans s57
              exact ⟨s8.g, s8.h.right hD, s8.m.right g7, s8.p⟩
            · exact (rd.mono fun _ _ q => T.mono s57.g q).app (.one r7)
            · rw [ezd, List.append_assoc]; rfl
        | false =>
          rw [if_neg Bool.false_ne_true] at egd
          rw [if_neg Bool.false_ne_true]
          exact ⟨js.length - (j + 1), by omega, rfl, by omega, G6, accd, ysd, zsd, sd.trans s56, exd.trans s56.g, Sl.step s56, g6, c6, rd.mono fun _ _ q => T.mono s56.g q, egd, ezd⟩
      · left
        have ej : js.length ≤ j := by omega
        refine ⟨z2 ej, ?_⟩
        rw [List.drop_eq_nil_of_le ej] at egd
        cases egd
        exact ⟨xs.length - (i + 1), by omega, rfl, by omega, Gd, accd, ysd, r, sd, gd_, cd, rd, er, ezd⟩
    | false =>
      rw [if_neg Bool.false_ne_true] at eg
      rw [if_neg Bool.false_ne_true]
      exact ⟨xs.length - (i + 1), by omega, rfl, by omega, G3, acc, ys, zs, s03, g3, c3, ra.mono fun _ _ q => T.mono (s2.trans s3).g q, eg, ez⟩
  · left
    have ei : xs.length ≤ i := by omega
    refine ⟨y2 ei, ?_⟩
    rw [List.drop_eq_nil_of_le ei] at eg
    cases eg
    rw [List.append_nil] at ez
    subst ez
    exact q D acc G' Hc (s1.trans sc) (s1.h.non hD) gD cD ra
end
end TP
namespace L2
open PySem PySem.Spec PyProof.Rows PySem.W
def rSortedUR (K : PySem.W.Frag) : List V → List V → Hp → VK → Prop := fun vs zs H Q => zs = [.bl true] ∧ ∃ (a : Addr) (xs : List V) (bs : List (List Int)) (R : V → List Int → Prop), vs = [V.ref a] ∧ SqL K H a xs ∧ TP.All2 (fun v ns => (TP.tyU K TP.tyI).rp H v ns) xs bs ∧ TP.All2 R xs bs ∧ (∀ b ∈ bs, b ≠ []) ∧
  ∀ ys p, TP.All2 R ys (bs.mergeSort (dataLe true encU)) → H p = none → Q (.ref p) (upd H p (.lst ys))
theorem cr_sortedUR {X : Cx} (hu : X.A.units + 64 < cLine) : CallRK X (.builtin "sorted") [Str.ofString "reverse"] (rSortedUR X.K) := by
  intro pins s σ H vs zs us wz Q I r rz h
  obtain ⟨rfl, a, xs, bs, R, rfl, hs, hb, hR, hne, q⟩ := h
  obtain ⟨w1, rfl, ew⟩ := vals1 rz
  obtain rfl : w1 = Value.bool true := ew
  obtain ⟨its, rv, hl, hz⟩ := I.list hs
  rw [Vals.ref1 r]
  have e1 := each_zip (h := s.heap) rv hb
  have e2 : EachIs (fun v (b : V × List Int) => ∃ as, Reads s.heap v (encU b.2) as) its (xs.zip bs) := each_zipR (h := s.heap) (S := fun v n => ∃ as, Reads s.heap v (encU n) as) (fun v u n r1 r2 => Dp.reads I _ _ _ (dp_tup r2) r1) rv hb
  have hlen : (xs.zip bs).length = xs.length := by rw [List.length_zip, hb.len, Nat.min_self]
  refine sorted_rev_data (b := true) (enc := fun b : V × List Int => encU b.2) hl.isList e1 e2 (AllAlike.of fun b b' => by show alikeAll _ _ = true; exact alike_ints _ _) (.inl fun d hd => ?_) (by rw [hlen]; exact hz) (fun b _ => ?_) fun out hol eo => ?_
  · obtain ⟨p, hp, rfl⟩ := List.mem_map.mp hd
    have hm : p.2 ∈ bs := (List.of_mem_zip hp).2
    have := hne _ hm
    obtain ⟨n, ns, e⟩ := List.exists_cons_of_ne_nil this
    exact ⟨.int n, ns.map .int, by show encU p.2 = _; rw [e]; rfl⟩
  · have hd : (encU b.2).depth ≤ 2 := by
      have := depth_ints b.2
      simp only [encU, PyData.depth]
      omega
    omega
  · obtain ⟨ep, he'⟩ := PyProof.Rows.sortedAll_at s.heap its out.toArray
    have hv := vals_of_each eo
    have hL : (((xs.zip bs).mergeSort (dataLe true fun b : V × List Int => encU b.2)).map Prod.fst).length ≤ sizeLine := by
      rw [List.length_map, List.length_mergeSort, hlen]; exact hz
    refine ⟨.ref _, upd H (s.heap.objs.size + 1) (.lst (((xs.zip bs).mergeSort (dataLe true fun b : V × List Int => encU b.2)).map Prod.fst)), I.laid (t' := s.toks) (fun _ _ => PyProof.Rows.sortedAll_old) (Nat.le_succ _) ⟨hL, out, ep, hv, he'⟩, rfl, q _ _ ?_ (I.hok.fresh (Nat.le_succ _))⟩
    have es : ((xs.zip bs).mergeSort (dataLe true fun b : V × List Int => encU b.2)).map Prod.snd = bs.mergeSort (dataLe true encU) := by
      refine Eq.trans (sort_maps (s := dataLe true encU) Prod.snd (fun _ _ _ _ => rfl)) ?_
      rw [zip_snd hb]
    rw [← es]
    exact all2_of_pairs fun p hp => zip_mem hR p ((List.mergeSort_perm _ _).mem_iff.mp hp)
end L2
namespace TP
open PySem PySem.Spec PyProof.Rows L2
theorem dataGe_U : PySem.W.dataLe true L2.encU = fun p q => decide (q ≤ p) := by
  funext p q
  show (!PySem.W.dataLt (.tuple (p.map .int)) (.tuple (q.map .int))) = _
  rw [PySem.W.dataLt_tuple]
  show (!PySem.W.rowLt (p.map .int) (q.map .int)) = _
  rw [PySem.W.dataLt_ints]
  by_cases h : p < q
  · have h' : ¬ q ≤ p := fun z => List.not_lt.mpr z h
    rw [decide_eq_true h, decide_eq_false h']; rfl
  · have h' : q ≤ p := List.not_lt.mp h
    rw [decide_eq_false h, decide_eq_true h']; rfl
theorem sortUR_eq (l : List (List Int)) : l.mergeSort (PySem.W.dataLe true L2.encU) = (isortU l).reverse := by
  rw [dataGe_U]
  have h1 : (l.mergeSort (fun p q => decide (q ≤ p))).Pairwise (fun a b => b ≤ a) := by
    have := List.pairwise_mergeSort (le := fun p q : List Int => decide (q ≤ p)) (fun a b c h k => decide_eq_true (List.le_trans (of_decide_eq_true k) (of_decide_eq_true h))) (fun a b => by
      rcases List.le_total a b with h | h
      · simp [h]
      · simp [h]) l
    exact this.imp fun h => of_decide_eq_true h
  have h2 : (isortU l).reverse.Pairwise (fun a b => b ≤ a) := List.pairwise_reverse.mpr (isortU_up l)
  exact List.Perm.eq_of_pairwise (fun a b _ _ h k => List.le_antisymm k h) h1 h2 ((List.mergeSort_perm _ _).trans ((isortU_perm l).symm.trans (List.reverse_perm _).symm))
def mSortUR (p : List (List Int) × Unit) : Option (List (List Int)) := gd (p.1.all fun b => !b.isEmpty) (isortU p.1).reverse
theorem evn_sortedUR {K : PySem.W.Frag} {Γ : TP.Env} {ta tk : TA} {mp : Option (List (List Int) × Unit)} (h : EvA ta Γ (aC (tyL (tyU K tyI)) aN) mp) (hk : EvA tk Γ (aC tyB aN) (aPair (some true) (some ()))) : EvN (tCKw (rSortedUR K) ta tk) Γ (tyU K tyI) (mp.bind mSortUR) := fun z e H0 G H σ S Q q => by
  obtain ⟨p, ea, e⟩ := bind_inv e
  obtain ⟨c, rfl⟩ := gd_inv e
  refine h p ea H0 G H σ S _ fun vs G1 H1 s1 r1 => ?_
  refine hk (true, ()) rfl H0 G1 H1 σ (S.step s1) _ fun zs G2 H2 s2 r2 => ?_
  obtain ⟨v, rfl, a, ws, rfl, ha, rr⟩ := one_arg r1
  obtain ⟨w, rfl, hw⟩ := one_arg r2
  cases hw
  refine ⟨rfl, a, ws, p.1, _, rfl, SqL.of (s2.m _ _ (s2.g _ _ ha)), rr.mono fun _ _ q => Ty.mono _ (s2.g.trans s2.m) q, rr.mono fun _ _ q => Ty.mono _ s2.g q, fun b hb e => ?_, fun ys l hy hl => ?_⟩
  · have := List.all_eq_true.mp c b hb
    rw [e] at this; cases this
  · rw [sortUR_eq] at hy
    exact q l ys G2 _ ((s1.trans s2).trans (Stp.priv s2.m hl)) ((s1.trans s2).h.non hl) (s2.m.non hl) upd_same hy
end TP
set_option maxHeartbeats 2000000
namespace PySem.SeqAt
open PySem PyProof.Rows PySem.Calls
section
variable {A : Around} {s : Shared}
theorem call_tuple_ltX {prog : Program} {w : World} {E : Value → Shared → Prop} {Q : Value → Shared → Prop} {l b : Addr} {items items2 : Array Value} {e r : Nat → Bool} (hl : s.heap.IsTuple l items) (hb : s.heap.IsTuple b items2)
    (he : ∀ j (h1 : j < items.size) (h2 : j < items2.size), EqAt A.in1 s items[j] items2[j] (e j)) (hr : ∀ j (h1 : j < items.size) (h2 : j < items2.size), e j = false → RcLt A.in1 s items[j] items2[j] (r j))
    (h : Q (.bool (firstLt e r (decide (items.size < items2.size)) (List.range (min items.size items2.size)))) s) : wpAny (model prog w) A (call (.builtin "tuple.__lt__") [.ref l, .ref b]) Q E s := by
  obtain ⟨⟨cls, dd, data, sl⟩, ho, hc, n, hd⟩ := id hl
  obtain ⟨⟨cls2, dd2, data2, sl2⟩, ho2, hc2, n2, hd2⟩ := id hb
  simp only at hc hd hc2 hd2
  subst hc hd hc2 hd2
  exact call_meets F.slot_tuple_lt ⟨_, ho, rfl⟩ F.entry_tuple_lt (F.args_tuple_lt_2 _ _) (tuple_ltAt l b items items2 n n2 dd dd2 sl sl2 e r) ⟨ho, ho2, he, hr, h⟩
end
end PySem.SeqAt
namespace PySem.W
open PySem PySem.Calls PySem.SeqAt PyProof.Rows
section
variable {prog : Program} {w : World} {A : Around} {E : Value → Shared → Prop} {s : Shared}
theorem oneLt_tuplesX {xs ys : List PyData} {a b : Value} {as bs : List Addr} {Q : Bool → Shared → Prop} (ra : Reads s.heap a (.tuple xs) as) (rb : Reads s.heap b (.tuple ys) bs) (hal : alikeAll xs ys = true)
    (hu : A.units + min (PyData.tuple xs).depth (PyData.tuple ys).depth < cLine) (hq : Q (dataLt (.tuple xs) (.tuple ys)) s) : wpAny (model prog w) A (oneLt' true a b) Q E s := by
  cases ra with
  | @tuple l o vs n _ as₁ h1 h2 h3 h4 =>
    cases rb with
    | @tuple l' o' vs' n' _ bs₁ k1 k2 k3 k4 =>
      have n1 : vs.size = xs.length := by simpa using ReadsAll.length _ _ _ h4
      have n2 : vs'.size = ys.length := by simpa using ReadsAll.length _ _ _ k4
      rw [dataLt_tuple, ← firstLt_toks xs ys hal, ← n1, ← n2] at hq
      rw [oneLt'_eq]
      simp only [if_true]
      refine wpAny_bind (wpAny_cRoomFor (room_here hu) ?_)
      refine wpAny_bind (wpAny_callSpecialIfBound?_slot (T := "tuple") ⟨_, h1, h2⟩ F.slot_tuple_lt (call_tuple_ltX (e := pairEq xs ys) (r := fun j => dataLt (xs.getD j .none) (ys.getD j .none)) ⟨_, h1, h2, _, h3⟩ ⟨_, k1, k2, _, k3⟩ (fun j j1 j2 => ?_) (fun j j1 j2 hj => ?_) ?_))
      · have := eqAt_alikeAll xs ys A.in1 s vs.toList vs'.toList _ _ h4 k4 hal (room_in hu) j (by simpa using j1) (by simpa using j2)
        simpa using this
      · have := rcLt_alikeAll xs ys A.in1 s vs.toList vs'.toList _ _ h4 k4 hal (room_in hu) j (by simpa using j1) (by simpa using j2) hj
        simpa using this
      · exact wpAny_truthy_bool hq
theorem keyLt_generalX (x y : Value) : keyLt' general' x y = oneLt' false x y := rfl
theorem firstsX {M : Model} {A : Around} {E : Value → Shared → Prop} {s : Shared} : ∀ {vs : List Value} {ds : List PyData}, EachIs (fun v d => ∃ as, Reads s.heap v d as) vs ds → (∀ d, d ∈ ds → ∃ xs, d = .tuple xs) → ∃ fo : List (Option Value), fo.map (·.isSome) = ds.map (fun d => match d with | .tuple (_ :: _) => true | _ => false) ∧
    ∀ {Q : List (Option Value) → Shared → Prop}, Q fo s → wpAny M A (vs.mapM firstOfTuple') Q E s
  | _, _, .nil, _ => ⟨[], rfl, fun h => by rw [List.mapM_nil]; exact wpAny_pure h⟩
  | _, _, .cons (a := v) (b := d) ⟨as, r⟩ t, ht => by
    obtain ⟨fo, h1, h2⟩ := firstsX (M := M) (A := A) (E := E) t fun d hd => ht d (List.mem_cons_of_mem _ hd)
    obtain ⟨xs, rfl⟩ := ht d (List.mem_cons_self ..)
    cases r with
    | @tuple a o ws n _ _ ho hc hd hr =>
      refine ⟨ws[0]? :: fo, ?_, fun {Q} h => ?_⟩
      · rw [List.map_cons, List.map_cons, h1]
        congr 1
        have nl : ws.size = xs.length := by simpa using SeqAt.ReadsAll.length _ _ _ hr
        cases xs with
        | nil =>
          have : ws[0]? = none := by
            rw [Array.getElem?_eq_none]
            simp at nl
            simp [nl]
          rw [this]; rfl
        | cons x xs =>
          have : 0 < ws.size := by rw [nl]; simp
          rw [Array.getElem?_eq_getElem this]; rfl
      · rw [List.mapM_cons]
        refine wpAny_bind ?_
        rw [kas_first_eq]
        refine wpAny_bind (Looks.here (show Looks M s.heap (typeOf (.ref a)) o.cls from (Looks.ld ho).andThen .now) ?_)
        rw [hc, if_neg (by first | decide | simp)]
        refine wpAny_bind (listItems_at ho hd (wpAny_pure ?_))
        exact wpAny_bind (h2 (Q := fun bs s' => wpAny M A (pure (ws[0]? :: bs)) Q E s') (wpAny_pure h))
theorem SortsAt.tupsX {vs : List Value} {ds : List PyData} (e : EachIs (fun v d => ∃ as, Reads s.heap v d as) vs ds) (hal : AllAlike ds) (ht : ∀ d, d ∈ ds → ∃ xs, d = .tuple xs) (hu : ∀ d, d ∈ ds → A.units + d.depth < cLine) : SortsAt prog w A s (dataKind s.heap ds) vs := by
  by_cases hne : ∀ d, d ∈ ds → ∃ x r, d = .tuple (x :: r)
  · exact SortsAt.data e hal (.inl hne) hu
  have room : ∀ {d d' : PyData}, d ∈ ds → A.units + min d.depth d'.depth < cLine := fun {d d'} hd => Nat.lt_of_le_of_lt (Nat.add_le_add_left (Nat.min_le_left _ _) _) (hu d hd)
  refine ⟨fun v hv => ?_, ?_⟩
  · obtain ⟨d, hd, as, r⟩ := e.left v hv
    exact ⟨_, dataKind_some hal hd r⟩
  · cases ds with
    | nil => exact absurd (fun d hd => absurd hd (by simp)) hne
    | cons d₀ ds₀ =>
      have notall : ∀ fo : List (Option Value), fo.map (·.isSome) = (d₀ :: ds₀).map (fun d => match d with | .tuple (_ :: _) => true | _ => false) → (fo.toArray.all fun x => x.isSome) = true → False := fun fo h1 h2 => hne fun d hd => by
        rw [List.all_toArray] at h2
        have h3 : (fo.map (·.isSome)).all id = true := by rw [List.all_map]; exact h2
        rw [h1, List.all_map, List.all_eq_true] at h3
        have := h3 d hd
        obtain ⟨xs, rfl⟩ := ht d hd
        cases xs with
        | nil => cases this
        | cons x r => exact ⟨x, r, rfl⟩
      obtain ⟨xs₀, e₀⟩ := ht d₀ (List.mem_cons_self ..)
      cases xs₀ with
      | cons x₀ r₀ =>
        refine ⟨general', ?_, fun h2 E Q hq => ?_⟩
        · intro E x y a b Q ha hb hq
          obtain ⟨d, as, hd, ra, rfl⟩ := dataKind_inv ha
          obtain ⟨d', as', hd', rb, rfl⟩ := dataKind_inv hb
          rw [keyLt_generalX]
          exact oneLt_alike (fun z => by cases z) ra rb (hal d hd d' hd') (by obtain ⟨xs, rfl⟩ := ht d hd; exact fun z => by cases z) (room hd) hq
        · obtain ⟨fo, f1, f2⟩ := firstsX (M := model prog w) (A := A) (E := E) e ht
          rw [kat_kind_eq, List.mapM_toArray, map_eq_pure_bind]
          refine wpAny_bind (wpAny_bind (f2 (wpAny_pure ?_)))
          rw [if_neg (notall fo f1)]
          have h0 : (fo.toArray[0]?.bind id).isSome = true := by
            cases fo with
            | nil => simp at f1
            | cons f fo =>
              have : f.isSome = true := by
                have := (List.cons.inj f1).1
                rw [e₀] at this
                exact this
              simp [this]
          rw [if_pos h0]
          exact wpAny_pure hq
      | nil =>
        refine ⟨oneType', ?_, fun h2 E Q hq => ?_⟩
        · intro E x y a b Q ha hb hq
          obtain ⟨d, as, hd, ra, rfl⟩ := dataKind_inv ha
          obtain ⟨d', as', hd', rb, rfl⟩ := dataKind_inv hb
          rw [keyLt'_oneType]
          have hdd := hal d hd d' hd'
          have hr := room (d' := d') hd
          obtain ⟨xs, rfl⟩ := ht d hd
          obtain ⟨ys, rfl⟩ := ht d' hd'
          exact oneLt_tuplesX ra rb (by simpa [alike] using hdd) hr hq
        · obtain ⟨fo, f1, f2⟩ := firstsX (M := model prog w) (A := A) (E := E) e ht
          rw [kat_kind_eq, List.mapM_toArray, map_eq_pure_bind]
          refine wpAny_bind (wpAny_bind (f2 (wpAny_pure ?_)))
          rw [if_neg (notall fo f1)]
          have h0 : ¬ (fo.toArray[0]?.bind id).isSome = true := by
            cases fo with
            | nil => simp
            | cons f fo =>
              have : f.isSome = false := by
                have := (List.cons.inj f1).1
                rw [e₀] at this
                exact this
              simp [this]
          rw [if_neg h0]
          obtain ⟨v₁, v₂, rest, rfl⟩ : ∃ v₁ v₂ rest, vs = v₁ :: v₂ :: rest := by
            match vs, h2 with
            | [], h2 => simp at h2
            | [_], h2 => simp at h2
            | v₁ :: v₂ :: rest, _ => exact ⟨v₁, v₂, rest, rfl⟩
          have hT : ∀ v ∈ v₁ :: v₂ :: rest, Looks (model prog w) s.heap (typeOf v) (.type "tuple") := fun v hv => by
            obtain ⟨d, hd, as, r⟩ := e.left v hv
            obtain ⟨xs, rfl⟩ := ht d hd
            exact looks_reads r
          rw [oneTypeOnly'_eq, List.mapM_toArray, map_eq_pure_bind]
          refine wpAny_bind (wpAny_bind (wpAny_bind (kas_mapM (r := Value.type "tuple") _ (fun v hv Q' hq => (hT v hv).here hq) (wpAny_pure ?_))))
          have hall : ((List.map (fun _ => Value.type "tuple") (v₁ :: v₂ :: rest)).toArray.all fun x => x == Value.type "tuple") = true := by
            simp only [List.all_toArray, List.all_map, List.all_eq_true]
            intro _ _
            exact beq_self_eq_true _
          have h0 : (List.map (fun _ => Value.type "tuple") (v₁ :: v₂ :: rest)).toArray[0]? = some (Value.type "tuple") := by simp
          rw [h0]
          simp only [hall, if_true]
          exact wpAny_pure (wpAny_pure hq)
end
end PySem.W
namespace PySem.W
open PySem PySem.Calls PyProof.Rows
section
variable {prog : Program} {w : World} {A : Around} {E : Value → Shared → Prop} {s : Shared} {κ : PyProof.Rows.KeyKind}
theorem sorted_of_sortT {l : Addr} {vs : List Value} {kw : List (Str × Value)} {o : Obj} {n : Nat} {Q : Value → Shared → Prop} (ho : s.heap.get? l = some o) (hc : o.cls = .type "tuple") (hd : o.data = .seq vs.toArray n) (hL : vs.length ≤ sizeLine) (ha1 : argsOk "sorted" ⟨[.ref l], kw⟩) (ha2 : ∀ x, argsOk "list.sort" ⟨[.ref x], kw⟩)
    (body : ∀ E' : Value → Shared → Prop, wpAny (model prog w) A.in1.in1 (Builtin.«list.sort» ⟨[.ref (s.heap.objs.size + 1)], kw⟩) (fun f s' => f = .done (.ret .none) ∧ Q (.ref (s.heap.objs.size + 1)) s') E' { s with heap := copyHeap s.heap vs }) :
    wpAny (model prog w) A (call (.builtin "sorted") [.ref l] kw) Q E s := by
  refine call_function_entry_kw kind_sorted plain_sorted entry_sorted ha1 ?_
  unfold Builtin.«sorted»
  refine wpAny_bind (m := checkCount "sorted" 1 1 _) (wpAny_pure ?_)
  refine wpAny_bind (SrtO.collect_tup ho hc hd ?_ hL)
  refine wpAny_bind (wpAny_newList ?_ hL)
  have hsz : ((s.heap.push (seqObj "list" #[] 0)).update s.heap.objs.size (Obj.mapSeq (· ++ vs.toArray))).objs.size = s.heap.objs.size + 1 := by
    rw [Heap.size_update, size_push']
  show wpAny _ _ _ _ _ { s with heap := copyHeap s.heap vs }
  rw [hsz]
  refine wpAny_bind (wpAny_holding (wpAny_call_entry_kw slot_list_sort ⟨_, copyHeap_at s.heap vs, rfl⟩ entry_list_sort ?body (ha2 _)))
  case body =>
    show wpAny (model prog w) A.in1.in1 (Builtin.«list.sort» ⟨[.ref (s.heap.objs.size + 1)], kw⟩) _ _ _
    refine wpAny_mono (body _) (fun f s' hf => ?_) fun _ _ e => e
    obtain ⟨rfl, hq⟩ := hf
    exact ⟨_, rfl, wpAny_pure ⟨_, rfl, hq⟩⟩
theorem sorted_tupsX {β : Type} {vs : List Value} {bs : List β} {enc : β → PyData} {R : Value → β → Prop} {l : Addr} {Q : Value → Shared → Prop} (hl : s.heap.IsList l vs.toArray ∨ s.heap.IsTuple l vs.toArray) (e : EachIs R vs bs) (er : EachIs (fun v b => ∃ as, Reads s.heap v (enc b) as) vs bs) (hal : AllAlike (bs.map enc)) (ht : ∀ d, d ∈ bs.map enc → ∃ xs, d = .tuple xs) (hL : bs.length ≤ sizeLine)
    (hu : ∀ b, b ∈ bs → A.units + 2 + (enc b).depth < cLine) (h : ∀ out, out.length = bs.length → EachIs R out (bs.mergeSort (dataLe false enc)) → Q (.ref (s.heap.objs.size + 1)) { s with heap := sortedAll s.heap vs (List.toArray out) }) :
    wpAny (model prog w) A (call (.builtin "sorted") [.ref l]) Q E s := by
  have er' : EachIs (fun v b => ∃ as, Reads (sortingHeap (copyHeap s.heap vs) (s.heap.objs.size + 1) vs) v (enc b) as) vs bs := er.mono fun _ _ ⟨as, r⟩ => ⟨as, PyProof.Rows.Reads.keeps (fun _ _ => sorting_copy_old) r⟩
  have S := SortsAt.tupsX (prog := prog) (w := w) (A := A.in1.in1) (s := { s with heap := sortingHeap (copyHeap s.heap vs) (s.heap.objs.size + 1) vs }) (each_map (R := fun v d => ∃ as, Reads (sortingHeap (copyHeap s.heap vs) (s.heap.objs.size + 1) vs) v d as) enc er') hal ht (bound_map hu)
  have hq := h _ (by rw [sortVals_length false rfl]; exact e.length) (sortVals_data false e er' hal)
  have hz : vs.length ≤ sizeLine := by rw [e.length]; exact hL
  rcases hl with hl | ⟨o, ho, hc, n, hd⟩
  · exact sorted_vals hl S hz hq
  · exact sorted_of_sortT ho hc hd hz (args_sorted1 _) (fun _ => args_list_sort _) fun _ => list_sort_vals (s := { s with heap := copyHeap s.heap vs }) (copyHeap_at s.heap vs) S hz ⟨rfl, hq⟩
end
end PySem.W
namespace L2
open PySem PySem.Spec PyProof.Rows PySem.W
def rSortedUE (K : PySem.W.Frag) : List V → Hp → VK → Prop := fun vs H Q => ∃ (a : Addr) (xs : List V) (bs : List (List Int)) (R : V → List Int → Prop), vs = [V.ref a] ∧ (SqL K H a xs ∨ SqT K H a xs) ∧ TP.All2 (fun v ns => (TP.tyU K TP.tyI).rp H v ns) xs bs ∧ TP.All2 R xs bs ∧
  ∀ ys p, TP.All2 R ys (bs.mergeSort (dataLe false encU)) → H p = none → Q (.ref p) (upd H p (.lst ys))
theorem cr_sortedUE {X : Cx} (hu : X.A.units + 64 < cLine) : CallR X (.builtin "sorted") (rSortedUE X.K) := by
  intro pins s σ H vs us Q I r h
  obtain ⟨a, xs, bs, R, rfl, hs, hb, hR, q⟩ := h
  obtain ⟨its, rv, hl, hz⟩ : ∃ its, Vals xs its ∧ (s.heap.IsList a its.toArray ∨ s.heap.IsTuple a its.toArray) ∧ xs.length ≤ sizeLine := by
    rcases hs with hs | hs
    · obtain ⟨its, rv, hl, hz⟩ := I.list hs
      exact ⟨its, rv, .inl hl.isList, hz⟩
    · obtain ⟨its, rv, hl, hz⟩ := I.tuple hs
      exact ⟨its, rv, .inr hl, hz⟩
  rw [Vals.ref1 r]
  have e1 := each_zip (h := s.heap) rv hb
  have e2 : EachIs (fun v (b : V × List Int) => ∃ as, Reads s.heap v (encU b.2) as) its (xs.zip bs) := each_zipR (h := s.heap) (S := fun v n => ∃ as, Reads s.heap v (encU n) as) (fun v u n r1 r2 => Dp.reads I _ _ _ (dp_tup r2) r1) rv hb
  have hlen : (xs.zip bs).length = xs.length := by rw [List.length_zip, hb.len, Nat.min_self]
  refine sorted_tupsX (enc := fun b : V × List Int => encU b.2) hl e1 e2 (AllAlike.of fun b b' => by show alikeAll _ _ = true; exact alike_ints _ _) (fun d hd => ?_) (by rw [hlen]; exact hz) (fun b _ => ?_) fun out hol eo => ?_
  · obtain ⟨p, hp, rfl⟩ := List.mem_map.mp hd
    exact ⟨_, rfl⟩
  · have hd : (encU b.2).depth ≤ 2 := by
      have := depth_ints b.2
      simp only [encU, PyData.depth]
      omega
    omega
  · obtain ⟨ep, he'⟩ := PyProof.Rows.sortedAll_at s.heap its out.toArray
    have hv := vals_of_each eo
    have hL : (((xs.zip bs).mergeSort (dataLe false fun b : V × List Int => encU b.2)).map Prod.fst).length ≤ sizeLine := by
      rw [List.length_map, List.length_mergeSort, hlen]; exact hz
    refine ⟨.ref _, upd H (s.heap.objs.size + 1) (.lst (((xs.zip bs).mergeSort (dataLe false fun b : V × List Int => encU b.2)).map Prod.fst)), I.laid (t' := s.toks) (fun _ _ => PyProof.Rows.sortedAll_old) (Nat.le_succ _) ⟨hL, out, ep, hv, he'⟩, rfl, q _ _ ?_ (I.hok.fresh (Nat.le_succ _))⟩
    have es : ((xs.zip bs).mergeSort (dataLe false fun b : V × List Int => encU b.2)).map Prod.snd = bs.mergeSort (dataLe false encU) := by
      refine Eq.trans (sort_maps (s := dataLe false encU) Prod.snd (fun _ _ _ _ => rfl)) ?_
      rw [zip_snd hb]
    rw [← es]
    exact all2_of_pairs fun p hp => zip_mem hR p ((List.mergeSort_perm _ _).mem_iff.mp hp)
end L2
namespace TP
open PySem PySem.Spec PyProof.Rows L2
section
variable {K : PySem.W.Frag}
def mSortUE (p : List (List Int) × Unit) : Option (List (List Int)) := some (isortU p.1)
theorem cn_sortedUE : CallN (rSortedUE K) (aC (tyL (tyU K tyI)) aN) (tyU K tyI) mSortUE := fun p z e G H vs eG r Q q => by
  cases e
  obtain ⟨v, rfl, a, ws, rfl, ha, rr⟩ := one_arg r
  refine ⟨a, ws, p.1, _, rfl, .inl (SqL.of (eG _ _ ha)), rr.mono fun _ _ q => Ty.mono _ eG q, rr, fun ys l hy hl => ?_⟩
  rw [sortU_eq] at hy
  exact q l ys G _ (Stp.priv eG hl) hl (eG.non hl) upd_same hy
theorem cn_sortedUET : CallN (rSortedUE K) (aC (tyU K (tyU K tyI)) aN) (tyU K tyI) mSortUE := fun p z e G H vs eG r Q q => by
  cases e
  obtain ⟨v, rfl, a, ws, rfl, ha, rr⟩ := one_arg r
  refine ⟨a, ws, p.1, _, rfl, .inr (SqT.mono eG ha), rr.mono fun _ _ q => Ty.mono _ eG q, rr, fun ys l hy hl => ?_⟩
  rw [sortU_eq] at hy
  exact q l ys G _ (Stp.priv eG hl) hl (eG.non hl) upd_same hy
def lexF (ns ms : List Int) : Bool := Ob.lexAt (fun j => decide (ns.getD j 0 = ms.getD j 0)) (fun j => decide (ns.getD j 0 ≤ ms.getD j 0)) (decide (ns.length ≤ ms.length)) 0 (min ns.length ms.length)
def mLeU (x y : List Int) : Option Bool := some (lexF x y)
theorem opv_leU : OpV (rLeT K) (tyU K tyI) (tyU K tyI) tyB mLeU := fun x y z e G H v u eG rv ru Q q => by
  cases e
  obtain ⟨a, ws, rfl, ha, rr⟩ := rv
  obtain ⟨b, us, rfl, hb, ru⟩ := ru
  have e1 : ws = x.map V.int := L2.all2_ints (H := G) rr
  have e2 : us = y.map V.int := L2.all2_ints (H := G) ru
  subst e1 e2
  exact ⟨a, b, x, y, rfl, rfl, SqT.mono eG ha, SqT.mono eG hb, q _ G H (Stp.refl eG) rfl⟩
theorem lexF_cons (x y : Int) (xs ys : List Int) : lexF (x :: xs) (y :: ys) = if x = y then lexF xs ys else decide (x ≤ y) := by
  have shift : ∀ (n i : Nat), Ob.lexAt (fun j => decide ((x :: xs).getD j 0 = (y :: ys).getD j 0)) (fun j => decide ((x :: xs).getD j 0 ≤ (y :: ys).getD j 0)) (decide ((x :: xs).length ≤ (y :: ys).length)) (i + 1) n =
      Ob.lexAt (fun j => decide (xs.getD j 0 = ys.getD j 0)) (fun j => decide (xs.getD j 0 ≤ ys.getD j 0)) (decide (xs.length ≤ ys.length)) i n := fun n => by
    induction n with
    | zero => intro i; simp [Ob.lexAt_zero]
    | succ n ih => intro i; rw [Ob.lexAt_succ, Ob.lexAt_succ, ih (i + 1)]; simp
  unfold lexF
  have e : min (x :: xs).length (y :: ys).length = min xs.length ys.length + 1 := by simp only [List.length_cons]; omega
  rw [e, Ob.lexAt_succ, shift]
  by_cases q : x = y
  · simp [q]
  · simp [q]
theorem lexF_le : ∀ ns ms : List Int, lexF ns ms = decide (ns ≤ ms)
  | [], ms => by
    have : ([] : List Int) ≤ ms := List.nil_le ms
    rw [decide_eq_true this]
    unfold lexF
    have : min ([] : List Int).length ms.length = 0 := by simp
    rw [this, Ob.lexAt_zero]
    simp
  | x :: xs, [] => by
    have : ¬ (x :: xs : List Int) ≤ [] := by simp
    rw [decide_eq_false this]
    unfold lexF
    have : min (x :: xs).length ([] : List Int).length = 0 := by simp
    rw [this, Ob.lexAt_zero]
    simp
  | x :: xs, y :: ys => by
    rw [lexF_cons, lexF_le xs ys]
    by_cases q : x = y
    · subst q
      rw [if_pos rfl, Bool.eq_iff_iff, decide_eq_true_eq, decide_eq_true_eq, List.cons_le_cons_iff]
      constructor
      · exact fun h => .inr ⟨rfl, h⟩
      · rintro (h | h)
        · omega
        · exact h.2
    · rw [if_neg q, Bool.eq_iff_iff, decide_eq_true_eq, decide_eq_true_eq, List.cons_le_cons_iff]
      constructor
      · exact fun h => .inl (by omega)
      · rintro (h | h)
        · omega
        · exact absurd h.1 q
end
theorem op_leTF {X : Cx} (hu : X.A.units + 64 < cLine) : OpR X (compareOp .LtE) (rLeT X.K) := op_leT (by omega)
end TP
set_option maxHeartbeats 2000000
namespace L2
open PySem PySem.Spec PyProof.Rows
section
variable {X : Cx}
def rInE (K : PySem.W.Frag) (neg : Bool) : R2 := fun x y H Q => ∃ d ds, Dp K H x d ∧ (Dp K H y (.list ds) ∨ Dp K H y (.tuple ds)) ∧ PyData.canLayAll0 ds = true ∧ d.canLay0 = true ∧ d.depth ≤ 60 ∧ Q (.bl (if neg then !ds.any fun z => PyData.eqv z d else ds.any fun z => PyData.eqv z d)) H
theorem room_inE {A : Around} {xs : List PyData} {d : PyData} (hd : d.depth ≤ 60) (hu : A.units + 64 < cLine) : A.units + 1 + min (PyData.depthAll xs) d.depth < cLine := by
  have h2 : min (PyData.depthAll xs) d.depth ≤ d.depth := Nat.min_le_right _ _
  omega
theorem op_inE (hu : X.A.units + 64 < cLine) : OpR X (compareOp .In) (rInE X.K false) := by
  intro pins s σ H x y v u Q I rx ry h
  obtain ⟨d, ds, hd, he, se, sd, hz, q⟩ := h
  obtain ⟨as, r1⟩ := Dp.reads I d x v hd rx
  rcases he with he | he
  · obtain ⟨bs, r2⟩ := Dp.reads I (.list ds) y u he ry
    exact SeqAt.in_list_reads r2 r1 se sd (room_inE hz hu) ⟨.bl _, H, I, rfl, q⟩
  · obtain ⟨bs, r2⟩ := Dp.reads I (.tuple ds) y u he ry
    exact SeqAt.in_tuple_reads r2 r1 se sd (room_inE hz hu) ⟨.bl _, H, I, rfl, q⟩
theorem op_niE (hu : X.A.units + 64 < cLine) : OpR X (compareOp .NotIn) (rInE X.K true) := by
  intro pins s σ H x y v u Q I rx ry h
  obtain ⟨d, ds, hd, he, se, sd, hz, q⟩ := h
  obtain ⟨as, r1⟩ := Dp.reads I d x v hd rx
  rcases he with he | he
  · obtain ⟨bs, r2⟩ := Dp.reads I (.list ds) y u he ry
    exact SeqAt.notIn_list_reads r2 r1 se sd (room_inE hz hu) ⟨.bl _, H, I, rfl, q⟩
  · obtain ⟨bs, r2⟩ := Dp.reads I (.tuple ds) y u he ry
    exact SeqAt.notIn_tuple_reads r2 r1 se sd (room_inE hz hu) ⟨.bl _, H, I, rfl, q⟩
def rIndexE (K : PySem.W.Frag) (tup : Bool) : V → List V → Hp → VK → Prop := fun x xs H Q => ∃ (a : Addr) (ys : List V) (y : V) (d : PyData) (ds : List PyData) (j : Nat) (z : PyData), x = V.ref a ∧ xs = [y] ∧ (if tup then SqT K H a ys else SqL K H a ys) ∧ DpAll K H ys ds ∧ Dp K H y d ∧
  PyData.canLayAll0 ds = true ∧ d.canLay0 = true ∧ d.depth ≤ 60 ∧ ds[j]? = some z ∧ PyData.eqv z d = true ∧ (∀ (m : Nat) (z' : PyData), m < j → ds[m]? = some z' → PyData.eqv z' d = false) ∧ Q (.int (j : Nat)) H
theorem mt_indexE (hu : X.A.units + 64 < cLine) : MtR X "list.index" (rIndexE X.K false) := by
  intro pins s σ H x xs v us Q I rx rxs h
  obtain ⟨a, ys, y, d, ds, j, z, rfl, rfl, hs, ha, hy, sl, sd, hdp, hz, hzj, hno, q⟩ := h
  cases rx
  cases rxs with
  | cons ry rt =>
    rename_i uy ut
    cases rt
    obtain ⟨bs, r1⟩ := Dp.reads I d y uy hy ry
    have hroom : X.A.units + 1 + min (PyData.depthAll ds) d.depth < cLine := room_inE hdp hu
    have hs : SqL X.K H a ys := hs
    obtain ⟨its, rv, ⟨⟨cls, dd, data, sls⟩, n, ho, hc, hdn, hdt⟩, hlen⟩ := I.list hs
    simp only at hc hdt
    subst hc hdt
    obtain ⟨as, h4⟩ := Dp.readsAll I ds _ its ha rv
    have hn : its.length = ds.length := SeqAt.ReadsAll.length ds its as h4
    have hmap : its.map (SeqAt.readOf s.heap) = ds := SeqAt.readsAll_map ds its as sl h4
    have hvl := rv.length
    have hsl := sizeLine_eq
    obtain ⟨hjd, _⟩ := List.getElem?_eq_some_iff.mp hz
    have hjl : j < its.length := by omega
    have hj : j < its.toArray.size := by simpa using hjl
    have at_ : ∀ (m : Nat) (hm : m < its.toArray.size) (z' : PyData), ds[m]? = some z' → SeqAt.readOf s.heap its.toArray[m] = z' := by
      intro m hm z' hz'
      have hml : m < its.length := by simpa using hm
      rw [← hmap, List.getElem?_map, List.getElem?_eq_getElem hml] at hz'
      have e1 : SeqAt.readOf s.heap its[m] = z' := Option.some.inj (show some (SeqAt.readOf s.heap its[m]) = some z' from hz')
      simpa using e1
    refine call_meets PySem.F.slot_list_index ⟨_, ho, rfl⟩ PySem.F.entry_list_index (PySem.F.args_list_index_2 _ _)
      (SeqAt.list_indexAt a its.toArray n dd sls uy (fun u => PyData.eqv (SeqAt.readOf s.heap u) d) j hj (by omega) ?_ ?_) ⟨ho, SeqAt.items_eqAt (vs := its.toArray) (show ReadsAll s.heap its.toArray.toList ds as from h4) r1 sl sd hroom, ?_⟩
    · show PyData.eqv (SeqAt.readOf s.heap its.toArray[j]) d = true
      rw [at_ j hj z hz]
      exact hzj
    · intro m hm hmj
      have hmd : m < ds.length := by omega
      have hz' : ds[m]? = some ds[m] := List.getElem?_eq_getElem hmd
      show PyData.eqv (SeqAt.readOf s.heap its.toArray[m]) d = false
      rw [at_ m hm _ hz']
      exact hno m _ hmj hz'
    · exact ⟨.int (j : Nat), H, I.tok _, ⟨_, rfl⟩, q⟩
end
end L2
namespace TP
open PySem PySem.Spec PyProof.Rows L2
section
variable {K : PySem.W.Frag} {α β γ δ : Type} {Γ : TP.Env} {T : Ty α} {te ta tx : TE}
def mInE [DecidableEq α] (x : α) (xs : List α) : Option Bool := some (decide (x ∈ xs))
def mNiE [DecidableEq α] (x : α) (xs : List α) : Option Bool := some (!decide (x ∈ xs))
@[simp] theorem mInE_ [DecidableEq α] (x : α) (xs : List α) : mInE x xs = some (decide (x ∈ xs)) := rfl
@[simp] theorem mNiE_ [DecidableEq α] (x : α) (xs : List α) : mNiE x xs = some (!decide (x ∈ xs)) := rfl
theorem any_enc [DecidableEq α] {enc : α → PyData} {n : Nat} (h : Enc K T enc n) (x : α) (xs : List α) : ((xs.map enc).any fun z => PyData.eqv z (enc x)) = decide (x ∈ xs) := by
  rw [List.any_map, Bool.eq_iff_iff, List.any_eq_true, decide_eq_true_eq]
  constructor
  · rintro ⟨y, hy, e⟩
    have e : (enc y).eqv (enc x) = true := e
    rw [h.eqv] at e
    rw [← of_decide_eq_true e]; exact hy
  · exact fun hx => ⟨x, hx, by show (enc x).eqv (enc x) = true; rw [h.eqv]; exact decide_eq_true rfl⟩
theorem opv_inEL [DecidableEq α] {enc : α → PyData} {n : Nat} (h : Enc K T enc n) (l : Lay enc) (hn : n ≤ 60) : OpV (rInE K false) T (tyL T) tyB mInE := fun x y z e G H v u eG rv ru Q q => by
  cases e
  obtain ⟨a, ws, rfl, ha, rr⟩ := ru
  exact ⟨enc x, y.map enc, h.dp H v x (Ty.mono _ eG rv), .inl (.lst (SqL.of (eG _ _ ha)) (dpall_of (h.dp H) (rr.mono fun _ _ q => T.mono eG q))), layall_of l y, l x, Nat.le_trans (h.dep x) hn, q _ G H (Stp.refl eG) (by show V.bl _ = V.bl _; rw [if_neg Bool.false_ne_true, any_enc h])⟩
theorem opv_inEU [DecidableEq α] {enc : α → PyData} {n : Nat} (h : Enc K T enc n) (l : Lay enc) (hn : n ≤ 60) : OpV (rInE K false) T (tyU K T) tyB mInE := fun x y z e G H v u eG rv ru Q q => by
  cases e
  obtain ⟨a, ws, rfl, ha, rr⟩ := ru
  exact ⟨enc x, y.map enc, h.dp H v x (Ty.mono _ eG rv), .inr (.tup (SqT.mono eG ha) (dpall_of (h.dp H) (rr.mono fun _ _ q => T.mono eG q))), layall_of l y, l x, Nat.le_trans (h.dep x) hn, q _ G H (Stp.refl eG) (by show V.bl _ = V.bl _; rw [if_neg Bool.false_ne_true, any_enc h])⟩
theorem opv_niEL [DecidableEq α] {enc : α → PyData} {n : Nat} (h : Enc K T enc n) (l : Lay enc) (hn : n ≤ 60) : OpV (rInE K true) T (tyL T) tyB mNiE := fun x y z e G H v u eG rv ru Q q => by
  cases e
  obtain ⟨a, ws, rfl, ha, rr⟩ := ru
  exact ⟨enc x, y.map enc, h.dp H v x (Ty.mono _ eG rv), .inl (.lst (SqL.of (eG _ _ ha)) (dpall_of (h.dp H) (rr.mono fun _ _ q => T.mono eG q))), layall_of l y, l x, Nat.le_trans (h.dep x) hn, q _ G H (Stp.refl eG) (by show V.bl _ = V.bl _; rw [if_pos rfl, any_enc h])⟩
theorem opv_niEU [DecidableEq α] {enc : α → PyData} {n : Nat} (h : Enc K T enc n) (l : Lay enc) (hn : n ≤ 60) : OpV (rInE K true) T (tyU K T) tyB mNiE := fun x y z e G H v u eG rv ru Q q => by
  cases e
  obtain ⟨a, ws, rfl, ha, rr⟩ := ru
  exact ⟨enc x, y.map enc, h.dp H v x (Ty.mono _ eG rv), .inr (.tup (SqT.mono eG ha) (dpall_of (h.dp H) (rr.mono fun _ _ q => T.mono eG q))), layall_of l y, l x, Nat.le_trans (h.dep x) hn, q _ G H (Stp.refl eG) (by show V.bl _ = V.bl _; rw [if_pos rfl, any_enc h])⟩
def idxO [DecidableEq α] (x : α) : List α → Option Nat
  | [] => none
  | y :: ys => if y = x then some 0 else (idxO x ys).map (· + 1)
theorem idxO_at [DecidableEq α] {x : α} : ∀ {xs : List α} {j : Nat}, idxO x xs = some j → xs[j]? = some x ∧ ∀ (m : Nat) (z : α), m < j → xs[m]? = some z → z ≠ x
  | [], j, h => by cases h
  | y :: ys, j, h => by
    unfold idxO at h
    by_cases q : y = x
    · rw [if_pos q] at h
      cases h
      exact ⟨by rw [q]; rfl, fun m z hm => by omega⟩
    · rw [if_neg q] at h
      cases k : idxO x ys with
      | none => rw [k] at h; cases h
      | some i =>
        rw [k] at h
        cases h
        obtain ⟨h1, h2⟩ := idxO_at k
        refine ⟨by simpa using h1, fun m z hm hz => ?_⟩
        cases m with
        | zero => have : y = z := by simpa using hz
                  rw [← this]; exact q
        | succ m =>
          have hm : m + 1 < i + 1 := hm
          exact h2 m z (by omega) (by simpa using hz)
def mIdx [DecidableEq α] (xs : List α) (x : α) : Option Int := (idxO x xs).map fun j => (j : Int)
theorem index_core [DecidableEq α] {enc : α → PyData} {n : Nat} (h : Enc K T enc n) (l : Lay enc) {x : α} {xs : List α} {j : Nat} (hj : idxO x xs = some j) :
    (xs.map enc)[j]? = some (enc x) ∧ PyData.eqv (enc x) (enc x) = true ∧ ∀ (m : Nat) (z' : PyData), m < j → (xs.map enc)[m]? = some z' → PyData.eqv z' (enc x) = false := by
  obtain ⟨h1, h2⟩ := idxO_at hj
  refine ⟨by rw [List.getElem?_map, h1]; rfl, by rw [h.eqv]; exact decide_eq_true rfl, fun m z' hm hz => ?_⟩
  rw [List.getElem?_map] at hz
  cases k : xs[m]? with
  | none => rw [k] at hz; cases hz
  | some z =>
    rw [k] at hz
    cases hz
    rw [h.eqv]
    exact decide_eq_false (h2 m z hm k)
theorem ev_indexL [DecidableEq α] {enc : α → PyData} {n : Nat} (h : Enc K T enc n) (l : Lay enc) (hn : n ≤ 60) {ml : Option (List α)} {mx : Option α} (hl : Ev te Γ (tyL T) ml) (hx : Ev tx Γ T mx) : Ev (tBM K "list" (rIndexE K false) te (tCons tx tNil)) Γ tyI (ml.bind fun xs => mx.bind fun x => mIdx xs x) := fun z e H0 G H σ S Q q => by
  obtain ⟨xs, e1, e⟩ := bind_inv e
  obtain ⟨x, e2, e⟩ := bind_inv e
  unfold mIdx at e
  cases k : idxO x xs with
  | none => rw [k] at e; cases e
  | some j =>
    rw [k] at e
    cases e
    refine hl xs e1 H0 G H σ S _ fun v G1 H1 s1 r1 => ?_
    obtain ⟨a, ws, rfl, ha, rr⟩ := id r1
    refine ⟨.inl ⟨rfl, ws, SqL.of (s1.m _ _ ha)⟩, hx x e2 H0 G1 H1 σ (S.step s1) _ fun w G2 H2 s2 r2 => ?_⟩
    have hd := dpall_of (K := K) (h.dp H2) (rr.mono fun _ _ q => T.mono (s2.g.trans s2.m) q)
    obtain ⟨c1, c2, c3⟩ := index_core h l k
    exact ⟨a, ws, w, enc x, xs.map enc, j, enc x, rfl, rfl, SqL.of (s2.m _ _ (s2.g _ _ ha)), hd, h.dp H2 w x (Ty.mono _ s2.m r2), layall_of l xs, l x, Nat.le_trans (h.dep x) hn, c1, c2, c3, q _ G2 H2 (s1.trans s2) rfl⟩
def mRevR (n : Int) : Option (List Int) := gd (gR n) (rng3L (n.toNat - 1 : Int) (-1) n.toNat)
theorem evi_revR {m : Option Int} (h : Ev te Γ tyI m) : EvI (iRevR (tRg1 te)) Γ tyI (m.bind mRevR) := fun xs e H0 G H σ S R q => by
  obtain ⟨n, ea, ef⟩ := bind_inv e
  obtain ⟨c, rfl⟩ := gd_inv ef
  obtain ⟨c1, c2⟩ := gR_ok c
  refine h n ea H0 G H σ S _ fun v G1 H1 s1 r1 => ?_
  cases r1
  refine ⟨n, rfl, by decide, by decide, c1, c2, ?_⟩
  have e1 : ((n - 0).toNat : Nat) = n.toNat := by rw [Int.sub_zero]
  have e2 : (0 : Int) + (((n - 0).toNat : Nat) : Int) - 1 = (n.toNat : Int) - 1 := by rw [e1]; omega
  rw [e2, e1]
  exact q _ G1 H1 s1 yld_rng3
end
theorem pi_revF {X : Cx} {tg a : Expr} {ta : TE} {p p2 pos pos2 : Pos} (hg : Gl X "reversed") (hm : X.mg "reversed" = none) (hg2 : Gl X "range") (hm2 : X.mg "range" = none) (ha : PE X a ta) (na : starEach [a] X.env = (false, eval a X.env) :: starEach [] X.env := by rfl)
    (hs : starEach [.Call (.Name "range" p2) [a] [] pos2] X.env = (false, eval (.Call (.Name "range" p2) [a] [] pos2) X.env) :: starEach [] X.env := by rfl) : PI X tg (.Call (.Name "reversed" p) [.Call (.Name "range" p2) [a] [] pos2] [] pos) (iRevR (tRg1 ta)) := pi_revR hg hm (prg_1 hg2 hm2 ha na) hs
theorem pe_meth0F {X : Cx} {k : Nat} {f C : Addr} {ps : List Str} {sp : Sp} {pos apos : Pos} {o : Expr} {ta : TE} {m : Str} {pl : Sem Bool} (he : PE X o ta) (c : Cls X.K C) (hm : Meth X.K C m f) (F : Ok X.prog X.w X.K X.mg X.base k f ps sp) (hr : Room k X.A)
    (ht : eval (.Call (.Attribute o m apos) [] [] pos) X.env = (do
      let ov ← eval o X.env
      standAt apos.atName
      let (f, first) ← holding [ov] (getMethod ov m pl)
      callWith pos f first (backTo pos (starEach [] X.env)) (backToKw pos (keywordEach [] X.env))) := by rfl) :
    PE X (.Call (.Attribute o m apos) [] [] pos) (tMeth C m sp [] E0 ta tNil) := by
  obtain ⟨fd, G, b, _⟩ := F.ex
  exact pe_meth0 he c hm G hr b .nil pass0 ht
end TP
set_option maxHeartbeats 2000000
namespace L2
open PySem PySem.Spec PyProof.Rows
abbrev itTObj (l : Addr) : Obj := { cls := .type "tuple_iterator", data := .fields #[.ref l, .int 0 0] }
section
variable {prog : Program} {w : World} {A : Around} {E : Value → Shared → Prop} {s : Shared} {l : Addr} {items : Array Value}
theorem call_iterTup {Q : Value → Shared → Prop} (hl : s.heap.IsTuple l items) (h : Q (.ref s.heap.objs.size) { s with heap := s.heap.push (itTObj l) }) : wpAny (model prog w) A (call (.builtin "iter") [.ref l]) Q E s := by
  refine Calls.call_function_entry (by decide +kernel) (by decide +kernel) PySem.W.kdk_entry_iter (PySem.W.kdk_args_iter _) ?_
  unfold Builtin.«iter»
  refine wpAny_bind (m := someArgs "iter" 1 2 _) (wpAny_of_eq (a := [Value.ref l]) (by first | rfl | kernel_rfl!) ?_)
  show wpAny _ _ (pyIter (.ref l) >>= _) _ _ _
  refine wpAny_bind (wpAny_pyIter_tuple hl ?_)
  exact wpAny_pure ⟨_, rfl, h⟩
end
def ItTO (l it : Addr) : HO := .ext fun h => h.get? it = some (itTObj l)
theorem itTO_ok {P : Program} {w : World} {H : Hp} {h : Heap} {l it : Addr} (e : h.get? it = some (itTObj l)) : ObjOk P w H h it (ItTO l it) := ⟨e, ⟨_, e⟩, fun h1 h2 q k => k _ q⟩
def rIterTN (K : PySem.W.Frag) (n : Nat) : List V → Hp → VK → Prop := fun xs H Q => ∃ (l : Addr) (zs : List V), xs = [.ref l] ∧ SqT K H l zs ∧ ∀ it, H it = Option.none → n ≤ it → Q (.ref it) (upd H it (ItTO l it))
section
variable {X : Cx}
theorem call_iterTN : CallR X (.builtin "iter") (rIterTN X.K X.s_0.heap.objs.size) := by
  intro pins s σ H xs us Q I r h
  obtain ⟨l, zs, rfl, hq, q⟩ := h
  obtain rfl := Vals.ref1 r
  obtain ⟨its, rv, pl, hz⟩ := I.tuple hq
  refine call_iterTup (show s.heap.IsTuple l its.toArray from pl) ?_
  exact ⟨.ref s.heap.objs.size, _, I.laid (t' := s.toks) (fun b u e => Heap.get?_push_of_some _ e) (Nat.le_refl _) (itTO_ok (Heap.get?_push_size _ rfl)), rfl, q _ (I.hok.fresh (Nat.le_refl _)) I.sz⟩
end
def FnRS (P : Program) (w : World) (K : PySem.W.Frag) (mg : Str → Option Value) (base : Heap) (CX : CXT) (k : Nat) (f : Addr) (sp : Shared → Sp) : Prop :=
  ∀ (A : Around) (outer : List Env) (s : Shared) (H : Hp) (us : List Value) (vs : List V) (Q : VK) (E : XK), Room k A → Env0 P w K mg base A outer s H → Vals vs us → sp s vs H Q E →
    codeAny (model P w) A (.call (.ref f) ⟨us, []⟩) (CR CX outer P w H s Q E) s
theorem fn_ofS {CX : CXT} {P : Program} {w : World} {K : PySem.W.Frag} {mg : Str → Option Value} {base : Heap} {k : Nat} {f : Addr} {name qual : Str} {params : Arguments} {body : List Stmt} {scope : Scope} {dV kV doc pm cdv ct oc : Value} {an od : Option Addr}
    {osl : Array (Option Value)} {N ps : List Str} {sp : Shared → Sp} (lk : K.lookup f = some ⟨oc, od, .func (PySem.W.fnOf name qual params body scope dV kV doc pm an cdv ct), osl⟩) (hcd : PySem.W.codeIn K cdv qual = true) (S : FnScope N ps scope)
    (len : ∀ s vs H Q E, sp s vs H Q E → vs.length = ps.length) (hbn : Binds K (PySem.W.fnOf name qual params body scope dV kV doc pm an cdv ct) ps [])
    (hbody : ∀ (A : Around) (outer : List Env) (s : Shared) (H : Hp) (vs : List V) (Q : VK) (E : XK), Room k (A.deeper (envOfC qual scope s.heap.objs.size f cdv)) → sp s vs H Q E →
      ∃ t, PSs (cxOf CX P w K mg base N qual scope f cdv A outer s H E) body t ∧ t { nx := fun _ H' => Q .non H', rt := Q } (start N vs) H) :
    FnRS P w K mg base CX (k + 1) f sp := by
  intro A outer s H us vs Q E hr e0 r hsp
  have hl := len _ _ _ _ _ hsp
  have KX : K.In s.heap := e0.mod.kin.keeps fun b o e => (e0.bs b o e).1
  have lim : s.heap.NoLimit := e0.mod.nolimit.keeps fun b o e => (e0.bs b o e).1
  have hb : BindsTo s (PySem.W.fnOf name qual params body scope dV kV doc pm an cdv ct) ⟨us, []⟩ (ps.zip us) := by
    have := hbn s us KX (by simpa using (by rw [← r.length]; exact hl))
    simpa using this
  have hkind : ∀ y ∈ ps.zip us, scope.names.lookup y.1 = some .local ∨ (scope.names.lookup y.1 = some .cell ∧ ((cellsFrom (s.heap.objs.size + 1) scope.names []).lookup y.1).isSome = true) := fun ⟨n, v⟩ hy => by
    rcases S.par n (List.of_mem_zip hy).1 with q | q
    · exact .inl q
    · exact .inr ⟨q, PySem.W.cellsFrom_some _ _ _ (.inl q)⟩
  refine codeAny_call_function hr.depth (KX _ _ lk) rfl S.co S.gen rfl (PySem.W.codeRec_of KX hcd) (hb _ _ _ _ ?_)
  refine wpAny_newFunctionEnv_cells S.kind hkind fun env he s1 x => ?_
  subst he
  refine ⟨lim.keeps x.toInCall.keep, codeAny_func ?_⟩
  obtain ⟨t, ht, hq⟩ := hbody A outer s H vs Q E (hr.deeper _) hsp
  have I : Inv (cxOf CX P w K mg base N qual scope f cdv A outer s H E) [] (start N vs) H s1 := inv_start S hr.hd e0 hl r x
  refine wpAny_mono (ht.run [] s1 (start N vs) H _ I hq) (fun fl s' hs => ?_) fun e s' hs => hs
  have fin : ∀ {σ' : St} {H' : Hp} {v : V} {u : Value}, Inv (cxOf CX P w K mg base N qual scope f cdv A outer s H E) [] σ' H' s' → RelV v u → Q v H' → CE outer P w H s Q u s' :=
    fun {σ' H' v u} J rv q => ⟨v, H', J.os, J.bare, J.base, J.hok, rv, q⟩
  cases fl with
  | ret u =>
    obtain ⟨v, σ', H', J, rv, q⟩ := hs
    exact fin J rv q
  | next =>
    obtain ⟨σ', H', J, q⟩ := hs
    exact fin (v := V.non) (u := Value.none) J rfl q
  | brk =>
    obtain ⟨_, _, _, q⟩ := hs
    exact False.elim q
  | cont =>
    obtain ⟨_, _, _, q⟩ := hs
    exact False.elim q
def spIt (K : PySem.W.Frag) (C : Addr) (fld : Str) : Shared → Sp := fun s vs H Q _ => ∃ a dx fs l zs, vs = [.ref a] ∧ H a = some (.ins C dx fs) ∧ fs.lookup fld = some (.ref l) ∧ SqT K H l zs ∧ ∀ it, H it = Option.none → s.heap.objs.size ≤ it → Q (.ref it) (upd H it (ItTO l it))
section
variable {X : Cx} {k : Nat} {f C : Addr} {fld : Str} {tg e : Expr} {te : TE}
def iOwnIt (K : PySem.W.Frag) (C : Addr) (fld : Str) (te : TE) : TI := fun σ H R => te σ H fun x H1 => ∃ a dx fs l zs, x = .ref a ∧ H1 a = some (.ins C dx fs) ∧ fs.lookup fld = some (.ref l) ∧ SqT K H1 l zs ∧ R (Itt K l) H1
theorem own_iterT {A1 : Around} {EE : Value → Shared → Prop} {pins : List (Addr × Obj)} {σ : St} {H : Hp} {s : Shared} {a dx l : Addr} {fs : List (Str × V)} {zs : List V} {Q : Value → Shared → Prop} (hm : Meth X.K C "__iter__" f) (F : FnRS X.prog X.w X.K X.mg X.base CX0 k f (spIt X.K C fld)) (hr : Room k A1) (e0 : Env0 X.prog X.w X.K X.mg X.base A1 X.stack s H) (I : Inv X pins σ H s)
    (ha : H a = some (.ins C dx fs)) (hl : fs.lookup fld = some (.ref l)) (hz : SqT X.K H l zs) (hQ : ∀ it s', Inv X pins σ (upd H it (ItTO l it)) s' → H it = none → s.heap.objs.size ≤ it → Q (.ref it) s') : wpAny (model X.prog X.w) A1 (pyIter (.ref a)) Q EE s := by
  obtain ⟨mA, O, _⟩ := ins_get I.hok ha
  obtain ⟨od, J, _⟩ := O.look
  obtain ⟨m, hF⟩ := I.fr
  refine PySem.W.owit_iter hF I.ok.mod.kin J hm.at_ hm.fn ?_
  refine wpAny_call (codeAny_mono (F A1 X.stack s H [.ref a] [.ref a] (fun v H' => ∃ it, v = .ref it ∧ H' = upd H it (ItTO l it) ∧ H it = none ∧ s.heap.objs.size ≤ it) E0 hr e0 (.cons rfl .nil) ⟨a, dx, fs, l, zs, rfl, ha, hl, hz, fun it h1 h2 => ⟨it, rfl, rfl, h1, h2⟩⟩) fun r s' hq => ?_)
  cases r with
  | error e => exact False.elim hq
  | ok fl =>
    cases fl with
    | ret u =>
      obtain ⟨v, H', I', rv, it, rfl, rfl, hn, hy⟩ := I.after hq
      cases rv
      have hT : s'.TypeIs (.ref it) "tuple_iterator" := ⟨_, (I'.hok it _ upd_same).1, rfl⟩
      exact wpAny_specialOf (name := Str.ofString "__next__") hT PySem.F.slot_tuple_iterator_next.lookup (hQ it s' I' hn hy)
    | next => exact False.elim hq
    | brk => exact False.elim hq
    | cont => exact False.elim hq
theorem pi_ownIt (he : PE X e te) (hm : Meth X.K C "__iter__" f) (F : FnRS X.prog X.w X.K X.mg X.base CX0 k f (spIt X.K C fld)) (hr : Room k X.A) : PI X tg e (iOwnIt X.K C fld te) := by
  refine ⟨fun pins s σ H R I h => ?_⟩
  refine thn (he.run pins s σ H _ I h) fun v s1 ⟨x, H1, I1, r1, q1⟩ => ?_
  obtain ⟨a, dx, fs, l, zs, rfl, ha, hl, hz, q⟩ := q1
  cases r1
  refine own_iterT hm F hr I1.env0 I1 ha hl hz fun it s' I' hn hy => ?_
  have I2 := ItX.inv_drop I' (a := it) (φ := fun h => h.get? it = some (itTObj l)) upd_same
  rw [ItX.dropH_upd hn] at I2
  refine ⟨it, [it], _, _, H1, rfl, I2, turn_tuple l it, ⟨_, (I'.hok it _ upd_same).1, rfl, rfl⟩, fun b hb => ?_, q⟩
  have e : b = it := by simpa using hb
  subst e
  have fp := ItX.inv_fp I' upd_same (Nat.le_trans I1.sz hy)
  rw [ItX.dropH_upd hn] at fp
  exact fp
theorem FnRS.mono {P : Program} {w : World} {K : PySem.W.Frag} {mg : Str → Option Value} {base : Heap} {CX : CXT} {j k : Nat} {f : Addr} {sp : Shared → Sp} (F : FnRS P w K mg base CX j f sp) (h : j ≤ k) : FnRS P w K mg base CX k f sp := fun A outer s H us vs Q E hr => F A outer s H us vs Q E (hr.mono h)
theorem own_len {A1 : Around} {EE : Value → Shared → Prop} {sp : Sp} {pins : List (Addr × Obj)} {σ : St} {H : Hp} {s : Shared} {a dx : Addr} {fs : List (Str × V)} {R : Nat → Hp → Prop} {Q : Value → Shared → Prop} (hm : Meth X.K C "__len__" f) (F : FnR X.prog X.w X.K X.mg X.base CX0 k f sp) (hr : Room (k + 1) A1) (e0 : Env0 X.prog X.w X.K X.mg X.base A1 X.stack s H) (I : Inv X pins σ H s)
    (ha : H a = some (.ins C dx fs)) (h : sp [.ref a] H (fun v H' => ∃ n : Nat, v = .int (n : Nat) ∧ n ≤ sizeLine ∧ R n H') E0) (hQ : ∀ (n : Nat) (t : Tok) (H' : Hp) (s' : Shared), n ≤ sizeLine → R n H' → Inv X pins σ H' s' → Q (.int (n : Nat) t) s') : wpAny (model X.prog X.w) A1 (call (.builtin "len") [.ref a]) Q EE s := by
  obtain ⟨mA, O, _⟩ := ins_get I.hok ha
  obtain ⟨od, J, _⟩ := O.look
  obtain ⟨m, hF⟩ := I.fr
  have hline := line63
  refine Calls.call_function_entry kind_len plain_len entry_len (args_len1 _) ?_
  unfold Builtin.«len»
  refine wpAny_bind (m := oneArg "len" _) (wpAny_pure ?_)
  refine wpAny_bind (m := callSpecial? (.ref a) (PySem.Str.ofString "__len__")) (PySem.W.special_fn (name := "__len__") (args := []) (I.ok.mod.kin.keeps hF.keep) J hm.at_ (beq_iff_eq.mp hm.fn) ?_)
  refine wpAny_call (codeAny_mono (F _ X.stack s H [.ref a] [.ref a] _ E0 (Room.in1 hr) e0.in1 (.cons rfl .nil) h) fun r s' hq => ?_)
  cases r with
  | error e => exact False.elim hq
  | ok fl =>
    cases fl with
    | ret u =>
      obtain ⟨v, H', I', rv, n, rfl, hn, q⟩ := I.after hq
      obtain ⟨t, rfl⟩ := rv
      refine wpAny_bind (wpAny_holding (wpAny_pure ?_))
      refine wpAny_bind (wpAny_letGo ?_)
      show wpAny _ _ (if ((n : Nat) : Int) < 0 then _ else _) _ _ _
      rw [if_neg (by omega)]
      show wpAny _ _ (if ((n : Nat) : Int) ≥ 2 ^ 63 then _ else _) _ _ _
      rw [if_neg (by omega)]
      exact wpAny_bind (wpAny_mkInt (wpAny_pure ⟨_, rfl, hQ n _ H' _ hn q (I'.tok _)⟩))
    | next => exact False.elim hq
    | brk => exact False.elim hq
    | cont => exact False.elim hq
def rLenOwn (C : Addr) (sp : Sp) : List V → Hp → VK → Prop := fun xs H Q => ∃ a dx fs, xs = [.ref a] ∧ H a = some (.ins C dx fs) ∧ sp [.ref a] H (fun v H' => ∃ n : Nat, v = .int (n : Nat) ∧ n ≤ sizeLine ∧ Q (.int (n : Nat)) H') E0
theorem call_lenOwn {sp : Sp} (hm : Meth X.K C "__len__" f) (F : FnR X.prog X.w X.K X.mg X.base CX0 k f sp) (hr : Room (k + 1) X.A) : CallR X (.builtin "len") (rLenOwn C sp) := by
  intro pins s σ H xs us Q I r h
  obtain ⟨a, dx, fs, rfl, ha, q⟩ := h
  obtain rfl := Vals.ref1 r
  exact own_len (R := fun n H' => Q (.int (n : Nat)) H') hm F hr I.env0 I ha q fun n t H' s' hn q' I' => ⟨.int (n : Nat), H', I', ⟨t, rfl⟩, q'⟩
theorem own_loopT {A1 : Around} {Rs : Result → Shared → Prop} {pins : List (Addr × Obj)} {σ : St} {q it l : Addr} {H0 : Hp} {zs : List V} (hh : A1.in1.handled = none) (hq0 : H0 q = none) (hz : SqT X.K H0 l zs)
    (hdone : ∀ s, Inv X pins σ (upd H0 q (.lst zs)) s → Rs (.ok (.ret .none)) s) :
    ∀ (m i : Nat) (s : Shared), m + i = zs.length → Inv X pins σ (upd H0 q (.lst (zs.take i))) s → s.heap.IsTupleIter it l i → FpOk X pins (upd H0 q (.lst (zs.take i))) it → codeAny (model X.prog X.w) A1 (.builtin "list.extend.loop" ⟨[.ref q, .ref it, .none], []⟩) Rs s := by
  intro m
  induction m with
  | zero =>
    intro i s hmi I st hf
    obtain ⟨f0, f1, f2, f3, f4, f5⟩ := hf
    have hz1 : SqT X.K (upd H0 q (.lst (zs.take i))) l zs := by
      rcases hz with (hz | ⟨o, hz⟩) | hz
      · exact .inl (.inl (by rw [upd_ne (ne_of_none hz hq0)]; exact hz))
      · exact .inl (.inr ⟨o, by rw [upd_ne (ne_of_none hz hq0)]; exact hz⟩)
      · exact .inr hz
    obtain ⟨its, rv, pl, hzl⟩ := I.tuple hz1
    have hlen := rv.length
    refine codeAny_builtin PySem.F.entry_extend_loop ?_
    rw [Around.under_plainId PySem.F.plain_extend_loop _]
    show wpAny _ A1.in1 (pyNext (.ref it) >>= _) _ _ s
    refine wpAny_bind (wpAny_pyNext_tuple_end hh st (show s.heap.IsTuple l its.toArray from pl) (by simp; omega) fun h' eb => ?_)
    have I1 : Inv X pins σ (upd H0 q (.lst (zs.take i))) { s with heap := h' } := I.turned (t' := s.toks) (fun b o hb e => eb b o hb e) f0 f1 f3 f4 f5
    rw [List.take_of_length_le (by omega)] at I1
    exact wpAny_pure (hdone _ I1)
  | succ m ih =>
    intro i s hmi I st hf
    obtain ⟨f0, f1, f2, f3, f4, f5⟩ := id hf
    have hz1 : SqT X.K (upd H0 q (.lst (zs.take i))) l zs := by
      rcases hz with (hz | ⟨o, hz⟩) | hz
      · exact .inl (.inl (by rw [upd_ne (ne_of_none hz hq0)]; exact hz))
      · exact .inl (.inr ⟨o, by rw [upd_ne (ne_of_none hz hq0)]; exact hz⟩)
      · exact .inr hz
    obtain ⟨its, rv, pl, hzl⟩ := I.tuple hz1
    have hlen := rv.length
    have hil : i < zs.length := by omega
    obtain ⟨u, hu, ru⟩ := rv.get (List.getElem?_eq_getElem hil)
    refine codeAny_builtin PySem.F.entry_extend_loop ?_
    rw [Around.under_plainId PySem.F.plain_extend_loop _]
    show wpAny _ A1.in1 (pyNext (.ref it) >>= _) _ _ s
    refine wpAny_bind (wpAny_pyNext_tuple_item st (show s.heap.IsTuple l its.toArray from pl) (x := u) (by simpa using hu) fun h' st' sb => ?_)
    have I1 : Inv X pins σ (upd H0 q (.lst (zs.take i))) { s with heap := h' } := I.turned (t' := s.toks) (fun b o hb e => (sb.2 b hb).trans e) f0 f1 f3 f4 f5
    show wpAny _ A1.in1 (updateSeq q (·.push u) >>= _) _ _ _
    obtain ⟨z, its2, k2, r2, hl2, e2⟩ := I1.lstM upd_same
    have hne : q ≠ it := fun z => by rw [← z, upd_same] at f0; cases f0
    refine wpAny_bind (wpAny_updateSeq e2 rfl (wpAny_pure ⟨plainId_quiet PySem.F.plain_extend_loop _, ?_⟩) (by rw [List.size_toArray]; omega) (by show (its2.toArray.push u).size ≤ sizeLine + 1; rw [Array.size_push, List.size_toArray]; omega))
    have I2 := I1.lset (f := (·.push u)) (its' := its2 ++ [u]) (t' := s.toks) upd_same e2 (by simp) (r2.append (.cons ru .nil)) (by rw [List.length_append, List.length_singleton, List.length_take]; omega)
    rw [upd_upd, List.take_append_getElem hil] at I2
    have eH : ∀ b, b ≠ q → upd H0 q (.lst (zs.take (i + 1))) b = upd H0 q (.lst (zs.take i)) b := fun b hb => by rw [upd_ne hb, upd_ne hb]
    refine ih (i + 1) _ (by omega) I2 ?_ ⟨by rw [eH _ (Ne.symm hne)]; exact f0, f1, f2, f3, f4, f5⟩
    exact st'.at fun o e => (Heap.get?_update_other _ _ hne).trans e
def rListOwnT (K : PySem.W.Frag) (C : Addr) (fld : Str) (spL : Sp) : List V → Hp → VK → Prop := fun xs H Q => ∃ a dx fs l zs, xs = [.ref a] ∧ H a = some (.ins C dx fs) ∧ fs.lookup fld = some (.ref l) ∧ SqT K H l zs ∧
  ∀ q, H q = none → spL [.ref a] (upd H q (.lst [])) (fun v H2 => ∃ n : Nat, v = .int (n : Nat) ∧ n ≤ sizeLine ∧ H2 q = some (.lst []) ∧ SqT K H2 l zs ∧ Q (.ref q) (upd H2 q (.lst zs))) E0
theorem own_hintT {A1 : Around} {sp : Sp} {g : Addr} {pins : List (Addr × Obj)} {σ : St} {H : Hp} {s : Shared} {a dx : Addr} {fs : List (Str × V)} {R : Hp → Prop} {Q : Bool → Shared → Prop} (hm : Meth X.K C "__len__" g) (F : FnR X.prog X.w X.K X.mg X.base CX0 k g sp) (hr : Room (k + 1) A1) (e0 : Env0 X.prog X.w X.K X.mg X.base A1 X.stack s H) (I : Inv X pins σ H s)
    (ha : H a = some (.ins C dx fs)) (h : sp [.ref a] H (fun v H' => ∃ n : Nat, v = .int (n : Nat) ∧ n ≤ sizeLine ∧ R H') E0) (hQ : ∀ b s' H', R H' → Inv X pins σ H' s' → Q b s') : wpAny (model X.prog X.w) A1 (Builtin.List.listLengthHint (.ref a)) Q X.xe s := by
  obtain ⟨mA, O, _⟩ := ins_get I.hok ha
  obtain ⟨od, J, _⟩ := O.look
  unfold Builtin.List.listLengthHint
  refine wpAny_bind (wpAny_bind (J.type.here ((PySem.W.looks_findIn I.kIn hm.at_).here ?_)))
  refine PySem.W.KFB.if_not rfl ?_
  show wpAny _ _ (if true = true then _ else _) _ _ _
  rw [if_pos rfl]
  refine wpAny_bind (wpAny_rule ?_)
  refine wpAny_bind (wpAny_attempt ?_)
  refine wpAny_mono (own_len (EE := fun _ _ => False) (R := fun _ H' => R H') (Q := fun v s' => ∃ (n : Nat) (t : Tok) (H' : Hp), v = .int (n : Nat) t ∧ n ≤ sizeLine ∧ R H' ∧ Inv X pins σ H' s') hm F hr e0 I ha h fun n t H' s' hn q' I' => ⟨n, t, H', rfl, hn, q', I'⟩) (fun v s' hv => ?_) fun e s' he => ?_
  · obtain ⟨n, t, H', rfl, hn, hR, I'⟩ := hv
    show wpAny _ _ (asInt? (Value.int ((n : Nat) : Int) t) >>= _) _ _ _
    refine wpAny_bind (wpAny_pure ?_)
    show wpAny _ _ (if Builtin.List.listTooLong ((n : Nat) : Int).toNat = true then _ else _) _ _ _
    rw [if_neg (by unfold Builtin.List.listTooLong; rw [Int.toNat_natCast]; simp; omega)]
    exact wpAny_pure (hQ _ _ _ hR I')
  · exact False.elim he
theorem call_listOwnT {spL : Sp} {f g : Addr} (hmi : Meth X.K C "__iter__" f) (FI : FnRS X.prog X.w X.K X.mg X.base CX0 k f (spIt X.K C fld)) (hml : Meth X.K C "__len__" g) (FL : FnR X.prog X.w X.K X.mg X.base CX0 k g spL) (hcalm : X.calm = true) (hr : Room (k + 3) X.A) : CallR X (.type "list") (rListOwnT X.K C fld spL) := by
  intro pins s σ H xs us Q I rv h
  obtain ⟨a, dx, fs, l, zs, rfl, ha, hl, hz, hq⟩ := h
  obtain ⟨u, rfl, ru⟩ := rv.one
  cases ru
  have sb : Sub X (k + 1) X.A.in1.in1 := (Sub.in1 (Sub.in1 (⟨hr, rfl⟩ : Sub X (k + 3) X.A)))
  have hh : X.A.handled = none := I.ok.hd hcalm
  refine callType_codes (Q₁ := fun obj s₁ => obj = .ref s.heap.objs.size ∧ s₁ = { s with heap := s.heap.push { cls := .type "list", data := .seq #[] } }) PySem.F.called_list (PySem.F.typeCall_list_1 _) PySem.F.entry_list_init
    (code_list_new _ ⟨rfl, rfl⟩) fun obj s₁ h₁ => ?_
  obtain ⟨rfl, rfl⟩ := h₁
  have hS : (s.heap.push { cls := .type "list", data := .seq #[] }).get? s.heap.objs.size = some { cls := .type "list", data := .seq #[] } := Heap.get?_push_size _ rfl
  refine ⟨⟨_, hS, rfl⟩, PySem.F.args_list_init_2 _ _, ?_⟩
  have fr : H s.heap.objs.size = none := I.hok.fresh (Nat.le_refl _)
  have hq := hq _ fr
  have I1 : Inv X pins σ (upd H s.heap.objs.size (.lst [])) { s with heap := s.heap.push { cls := .type "list", data := .seq #[] } } := I.lnew (its := []) (t' := s.toks) .nil (Nat.zero_le _)
  show wpAny _ _ (do let old ← Builtin.List.listItems (.ref s.heap.objs.size); Builtin.List.listUpdate (.ref s.heap.objs.size) (fun _ => #[]); letGo old.toList.reverse; Builtin.List.listExtendWith (.ref s.heap.objs.size) (.ref a) .none) _ _ _
  refine wpAny_bind ?_
  unfold Builtin.List.listItems
  refine wpAny_bind (wpAny_seqItems hS rfl (wpAny_pure ?_))
  show wpAny _ _ (updateSeq s.heap.objs.size (fun _ => #[]) >>= fun _ => letGo (#[] : Array Value).toList.reverse >>= fun _ => Builtin.List.listExtendWith (.ref s.heap.objs.size) (.ref a) .none) _ _ _
  refine wpAny_bind (wpAny_updateSeq hS rfl ?_)
  have I2 := I1.lset (f := fun _ => #[]) (its := []) (its' := []) (ys := []) (t' := s.toks) upd_same hS rfl .nil (Nat.zero_le _)
  rw [upd_upd] at I2
  refine wpAny_bind (wpAny_letGo ?_)
  have ha2 : upd H s.heap.objs.size (.lst []) a = some (.ins C dx fs) := by rw [upd_ne (ne_of_none ha fr)]; exact ha
  have hz2 : SqT X.K (upd H s.heap.objs.size (.lst [])) l zs := by
    rcases hz with (hz | ⟨o, hz⟩) | hz
    · exact .inl (.inl (by rw [upd_ne (ne_of_none hz fr)]; exact hz))
    · exact .inl (.inr ⟨o, by rw [upd_ne (ne_of_none hz fr)]; exact hz⟩)
    · exact .inr hz
  generalize hp : s.heap.objs.size = q at *
  have hne : q ≠ a := ne_of (upd_same (H := H) (a := q) (o := .lst [])) ha2 (fun z => nomatch z)
  obtain ⟨mA, J, _⟩ := ins_get I2.hok ha2
  obtain ⟨od, J, _⟩ := J.look
  unfold Builtin.List.listExtendWith
  refine wpAny_bind (J.type.here ?_)
  have h1 : Builtin.List.listSameRef (.ref q) (.ref a) = false := by simp [Builtin.List.listSameRef, hne]
  have h2 : (Value.ref C == Value.type "list") = false := rfl
  have h3 : (Value.ref C == Value.type "tuple") = false := rfl
  simp only [h1, h2, h3, Bool.or_false, Bool.false_eq_true, if_false]
  have env : ∀ {A1 : Around} {H' : Hp} {s' : Shared}, A1.frames = X.A.frames → Inv X pins σ H' s' → Env0 X.prog X.w X.K X.mg X.base A1 X.stack s' H' := fun hfr I' => by
    have e := I'.env0
    exact ⟨by rw [hfr]; exact e.frames, e.mod, e.bs, e.bsz, e.funs, e.frf, e.hok, e.bare⟩
  refine wpAny_bind (own_iterT (fld := fld) hmi FI (sb.room.mono (by omega)) (env sb.fr I2) I2 ha2 hl hz2 fun it s3 I3 hn hy => ?_)
  have I4 := ItX.inv_drop I3 (a := it) (φ := fun h => h.get? it = some (itTObj l)) upd_same
  rw [ItX.dropH_upd hn] at I4
  have fp := ItX.inv_fp I3 upd_same (Nat.le_trans I2.sz hy)
  rw [ItX.dropH_upd hn] at fp
  have eit : s3.heap.get? it = some (itTObj l) := (I3.hok it _ upd_same).1
  have I5 := I4.pinned (fp := [it]) (fun b hb => by rw [List.mem_singleton.mp hb]; exact fp) (fun b hb => by
    rw [List.mem_singleton.mp hb]
    exact ⟨_, eit, fun v z => by
      have z' : Data.fields _ = Data.cell v := z
      cases z'⟩)
  refine wpAny_bind (wpAny_holding (own_hintT (R := fun H' => H' q = some (.lst []) ∧ SqT X.K H' l zs ∧ Q (.ref q) (upd H' q (.lst zs))) hml FL sb.room (by
    have e := I5.env0
    exact ⟨by rw [sb.fr]; exact e.frames, e.mod, e.bs, e.bsz, e.funs, e.frf, e.hok, e.bare⟩) I5 ha2 hq fun room s6 H6 hR I6 => ?_))
  obtain ⟨hR1, hR2, hR3⟩ := hR
  obtain ⟨p1, p2, _⟩ := I6.pin (it, itTObj l) (by
    refine List.mem_append_right _ (List.mem_append_right _ ?_)
    unfold pinsAt
    simp [eit])
  have p1 : s6.heap.get? it = some (itTObj l) := p1
  have p2 : H6 it = none := p2
  have I7 := I6.unpinned
  have hH : upd (ItX.dropH H6 q) q (.lst (zs.take 0)) = H6 := by
    funext b
    by_cases hb : b = q
    · rw [hb, upd_same, hR1, List.take_zero]
    · rw [upd_ne hb, ItX.dropH_ne hb]
  have hH2 : upd (ItX.dropH H6 q) q (.lst zs) = upd H6 q (.lst zs) := by
    funext b
    by_cases hb : b = q
    · rw [hb, upd_same, upd_same]
    · rw [upd_ne hb, upd_ne hb, ItX.dropH_ne hb]
  have hz0 : SqT X.K (ItX.dropH H6 q) l zs := by
    have ne : ∀ o, H6 l = some o → o ≠ .lst [] → l ≠ q := fun o e n z => by
      rw [z, hR1] at e
      exact n (Option.some.inj e).symm
    rcases hR2 with (h | ⟨o, h⟩) | h
    · exact .inl (.inl (by rw [ItX.dropH_ne (ne _ h (fun z => nomatch z))]; exact h))
    · exact .inl (.inr ⟨o, by rw [ItX.dropH_ne (ne _ h (fun z => nomatch z))]; exact h⟩)
    · exact .inr h
  have hfp : FpOk X pins H6 it := ⟨p2, fp.2⟩
  have hdone : ∀ s', Inv X pins σ (upd (ItX.dropH H6 q) q (.lst zs)) s' → wants (fun r s₂ => r = .none ∧ EP X pins σ Q (.ref q) s₂) X.xe (.ok (.ret .none)) s' := fun s' I' => by
    rw [hH2] at I'
    exact ⟨rfl, .ref q, _, I', rfl, hR3⟩
  have loop : ∀ s', Inv X pins σ H6 s' → s'.heap.get? it = some (itTObj l) → codeAny (model X.prog X.w) X.A.in1 (.builtin "list.extend.loop" ⟨[.ref q, .ref it, .none], []⟩) (wants (fun r s₂ => r = .none ∧ EP X pins σ Q (.ref q) s₂) X.xe) s' := fun s' I' e' => by
    refine own_loopT (X := X) (A1 := X.A.in1) (H0 := ItX.dropH H6 q) (show X.A.in1.in1.handled = none from hh) ItX.dropH_same hz0 hdone zs.length 0 s' (by omega) (by rw [hH]; exact I') ⟨_, e', rfl, rfl⟩ (by rw [hH]; exact hfp)
  obtain ⟨z, its, k3, r3, hl3, e3⟩ := I7.lstM hR1
  cases r3
  have hqi : it ≠ q := fun z => by rw [z, hR1] at p2; cases p2
  refine wpAny_ite_split (fun _ => ?_) (fun _ => wpAny_pure ⟨plainId_quiet PySem.F.plain_extend_loop _, loop s6 I7 p1⟩)
  refine wpAny_bind (wpAny_rule ?_)
  refine wpAny_bind ?_
  show wpAny _ _ (updateSeq q (·.push .none) >>= fun _ => updateSeq q (·.pop)) _ _ _
  refine wpAny_bind (wpAny_updateSeq e3 rfl ?_)
  have I8 := I7.lset (f := (·.push Value.none)) (its' := [Value.none]) (ys := [.non]) (t' := s6.toks) hR1 e3 (by simp) (.cons rfl .nil) (by rw [List.length_singleton, sizeLine_eq]; decide)
  obtain ⟨z4, its4, k4, r4, hl4, e4⟩ := I8.lstM upd_same
  obtain ⟨u4, rfl, ru4⟩ := r4.one
  refine wpAny_updateSeq e4 rfl ?_ (by show 1 ≤ sizeLine; rw [sizeLine_eq]; decide) (by show 0 ≤ sizeLine + 1; exact Nat.zero_le _)
  have I9 := I8.lset (f := (·.pop)) (its := [u4]) (its' := []) (ys := []) (t' := s6.toks) upd_same e4 (by rfl) .nil (Nat.zero_le _)
  rw [upd_upd] at I9
  have hH3 : upd H6 q (.lst []) = H6 := by
    funext b
    by_cases hb : b = q
    · rw [hb, upd_same, hR1]
    · rw [upd_ne hb]
  rw [hH3] at I9
  exact wpAny_pure ⟨plainId_quiet PySem.F.plain_extend_loop _, loop _ I9 ((Heap.get?_update_other _ _ (Ne.symm hqi)).trans ((Heap.get?_update_other _ _ (Ne.symm hqi)).trans p1))⟩
end
end L2
namespace TP
open PySem PySem.Spec PyProof.Rows L2
section
variable {K : PySem.W.Frag} {α β γ δ : Type} {Γ : TP.Env} {T : Ty α} {te ta tx : TE} {C : Addr} {F : FTy β} {fld : Str} {g : β → List α}
theorem okit {P : Program} {w : World} {mg : Str → Option Value} {base : Heap} {x qual : Str} {params : Arguments} {body : List Stmt} {scope : Scope} {fa : Addr} {N : List Str} {k : Nat} (F : ∃ fd, FunD K x qual params body scope [] [] fa fd) (S : FnScope N ["self"] scope) (hc : Cls K C) (hn : NoAttr K C fld)
    (hb : ∀ (kV doc pm : Value) (an : Option Addr) (cdv ct : Value) (us : List Value), us.length = (["self"] : List Str).length → bindArgs (PySem.W.fnOf x qual params body scope .none kV doc pm an cdv ct) ⟨us, []⟩ = pure ((["self"] : List Str).zip us))
    (h : ∀ (cdv : Value) (Ar : Around) (outer : List PySem.Env) (s : Shared) (H : Hp) (E : XK), Room k (Ar.deeper (envOfC qual scope s.heap.objs.size fa cdv)) →
      PSs (cxOf CX0 P w K mg base N qual scope fa cdv Ar outer s H E).nox body (tSeq (tRet (tCB (rIterTN K s.heap.objs.size) (tCons (tFld K (tVar 0) fld) tNil))) tNext)) :
    FnRS P w K mg base CX0 (k + 1) fa (spIt K C fld) := by
  obtain ⟨fd, F⟩ := F
  have hB := F.bindsN (ps := ["self"]) hb
  obtain ⟨oc, od, dV, kV, doc, pm, an, cdv, ct, osl, rfl, lk, hcd, _, _⟩ := F.ex
  refine fn_ofS lk hcd S (fun s vs H Q E q => ?_) hB (fun A outer s H vs Q E hr q => ⟨_, (h cdv A outer s H E hr).nox, ?_⟩)
  · obtain ⟨a, dx, fs, l, zs, rfl, _⟩ := q
    rfl
  · obtain ⟨a, dx, fs, l, zs, rfl, ha, hl, hz, q⟩ := q
    exact ⟨.ref a, rfl, a, C, dx, fs, .ref l, rfl, ha, hc, hn, hl, l, zs, rfl, hz, fun it h1 h2 => q it h1 h2⟩
theorem evi_ownIt {m : Option β} (hf : Fld F fld (tyU K T) g) (h : Ev te Γ (tyO C F) m) : EvI (iOwnIt K C fld te) Γ T (m.bind fun x => some (g x)) := fun xs e H0 G H σ S R q => by
  obtain ⟨o, eo, e⟩ := bind_inv e
  cases e
  refine h o eo H0 G H σ S _ fun v G1 H1 s1 r1 => ?_
  obtain ⟨p, dx, fs, rfl, hp, ro⟩ := r1
  obtain ⟨w, ew, a, vs, rfl, ha, r⟩ := hf _ _ _ ro
  refine ⟨p, dx, fs, a, vs, rfl, s1.m _ _ hp, ew, SqT.mono s1.m ha, q _ G1 H1 s1 fun i G2 H2 e1 e2 => ⟨fun x ex => ?_, fun hi => ?_⟩⟩
  · obtain ⟨v, ev, rv⟩ := r.get ex
    have hs : SqT K H2 a vs := SqT.mono (e1.trans e2) ha
    exact ⟨⟨vs, v, hs, ev⟩, fun w H3 y => by
      obtain ⟨rfl, y⟩ := y
      have : v = w := Option.some.inj (ev.symm.trans (y vs hs))
      subst this
      exact ⟨G2, Stp.refl e2, T.mono e1 rv⟩⟩
  · exact ⟨vs, SqT.mono (e1.trans e2) ha, by rw [r.len]; exact hi⟩
theorem bo_iter : bootBuiltins "iter" = some (.builtin "iter") := by decide +kernel
theorem gN_nat {n : Int} (h : gN n = true) : n = (n.toNat : Int) ∧ n.toNat ≤ sizeLine := by
  have := gN_ok h
  exact ⟨by omega, by rw [sizeLine_eq]; omega⟩
def mLenOwn (f : β × Unit → Option Int) (p : β × Unit) : Option Int := (f p).bind fun n => gd (gN n) n
theorem cv_lenOwn {f : β × Unit → Option Int} : CallV (rLenOwn C (spOf (aC (tyO C F) aN) tyI f)) (aC (tyO C F) aN) tyI (mLenOwn f) := fun p z e G H vs eG r Q q => by
  obtain ⟨n, en, e⟩ := bind_inv e
  obtain ⟨c, rfl⟩ := gd_inv e
  obtain ⟨h1, h2⟩ := gN_nat c
  obtain ⟨v, rfl, a, dx, fs, rfl, ha, ro⟩ := one_arg r
  refine ⟨a, dx, fs, rfl, eG _ _ ha, p, n, G, en, eG, ⟨.ref a, [], rfl, ⟨a, dx, fs, rfl, ha, ro⟩, rfl⟩, fun w G' H' s rw' => ?_⟩
  cases rw'
  exact ⟨n.toNat, congrArg V.int h1, h2, q _ G' H' s (congrArg V.int h1.symm)⟩
def mListOwn (f : β × Unit → Option Int) (g : β → List α) (p : β × Unit) : Option (List α) := (f p).bind fun n => gd (gN n) (g p.1)
theorem cn_listOwn {f : β × Unit → Option Int} (hf : Fld F fld (tyU K T) g) : CallN (rListOwnT K C fld (spOf (aC (tyO C F) aN) tyI f)) (aC (tyO C F) aN) T (mListOwn f g) := fun p z e G H vs eG r Q q => by
  obtain ⟨n, en, e⟩ := bind_inv e
  obtain ⟨c, rfl⟩ := gd_inv e
  obtain ⟨h1, h2⟩ := gN_nat c
  obtain ⟨v, rfl, a, dx, fs, rfl, ha, ro⟩ := one_arg r
  obtain ⟨w, ew, l, ws, rfl, hl, rr⟩ := hf _ _ _ ro
  refine ⟨a, dx, fs, l, ws, rfl, eG _ _ ha, ew, SqT.mono eG hl, fun b hb => ?_⟩
  have gb : G b = none := eG.non hb
  have sp := Stp.priv (o := .lst []) eG hb
  refine ⟨p, n, G, en, sp.m, ⟨.ref a, [], rfl, ⟨a, dx, fs, rfl, ha, ro⟩, rfl⟩, fun w G' H' s rw' => ?_⟩
  cases rw'
  have hb' : H' b = some (.lst []) := s.h _ _ upd_same
  have gb' : G' b = none := s.p b (by rw [upd_same]; exact fun z => nomatch z) gb
  refine ⟨n.toNat, congrArg V.int h1, h2, hb', SqT.mono (s.g.trans s.m) hl, q b ws G' _ ⟨s.g, fun x o hx => ?_, fun x o hx => ?_, fun x hx hg => ?_⟩ hb gb' upd_same (rr.mono fun _ _ z => T.mono s.g z)⟩
  · have hxb : x ≠ b := ne_of_none hx hb
    rw [upd_ne hxb]
    exact s.h _ _ (by rw [upd_ne hxb]; exact hx)
  · have hxb : x ≠ b := ne_of_none hx gb'
    rw [upd_ne hxb]
    exact s.m _ _ hx
  · have hxb : x ≠ b := fun z => hx (by rw [z]; exact hb)
    exact s.p x (by rw [upd_ne hxb]; exact hx) hg
theorem ok_fnR {P : Program} {w : World} {mg : Str → Option Value} {base : Heap} {j k : Nat} {f : Addr} {ps : List Str} {sp : Sp} (F : Ok P w K mg base j f ps sp) (h : j ≤ k) : FnR P w K mg base CX0 k f sp := by
  obtain ⟨fd, G, bn, lk⟩ := F.ex
  exact ((G.raw bn .nil).imp fun vs H Q E h => by rw [List.append_nil]; exact h).mono h
end
end TP
set_option maxHeartbeats 2000000
namespace L2
open PySem PySem.Spec PyProof.Rows
def ItzUL (K : PySem.W.Frag) (a b : Addr) (n1 n2 : Nat) : It :=
  ⟨fun i H => ∃ (xs ys : List V) (x y : V), SqT K H a xs ∧ SqL K H b ys ∧ xs.length = n1 ∧ ys.length = n2 ∧ xs[i]? = some x ∧ ys[i]? = some y,
    fun i H v H' => ∃ T x y, v = .ref T ∧ H T = none ∧ H' = upd H T (.tup [x, y]) ∧ (∀ xs, SqT K H a xs → xs[i]? = some x) ∧ ∀ ys, SqL K H b ys → ys[i]? = some y,
    fun i H => ∃ xs ys : List V, SqT K H a xs ∧ SqL K H b ys ∧ xs.length = n1 ∧ ys.length = n2 ∧ (n1 ≤ i ∨ n2 ≤ i)⟩
theorem turn_zipUL {P : Program} {w : World} {K : PySem.W.Frag} {elts : List Expr} {kk : Nat} {tpos : Pos} {a b z TI TO i1 i2 : Addr} {n1 n2 : Nat} (D : ZipSep2 z TI TO i1 i2 [i1, a] [i2, b]) (d1 : a ≠ i1) (d2 : b ≠ i2) :
    Turn P w K (.Tuple elts kk tpos) (ItzUL K a b n1 n2) [z, TI, TO, i1, i2] z (fun i h => IsZip h z TI TO .none ∧ IsTupOf2 h TI (.ref i1) (.ref i2) ∧ (∃ x y, IsTupOf2 h TO x y) ∧ h.IsTupleIter i1 a i ∧ h.IsListIter i2 b i ∧ i ≤ n1 ∧ i ≤ n2) where
  mem := by simp
  obj := fun i h st c hc => by
    obtain ⟨hz, hTI, ⟨x, y, hTO⟩, ⟨o1, e1, _, f1⟩, ⟨o2, e2, _, f2⟩, _⟩ := st
    simp only [List.mem_cons, List.not_mem_nil, or_false] at hc
    rcases hc with q | q | q | q | q <;> rw [q]
    · exact ⟨_, hz, fun v q => nomatch q⟩
    · exact ⟨_, hTI, fun v q => nomatch q⟩
    · exact ⟨_, hTO, fun v q => nomatch q⟩
    · exact ⟨o1, e1, fun v q => by rw [f1] at q; cases q⟩
    · exact ⟨o2, e2, fun v q => by rw [f2] at q; cases q⟩
  keep := fun i h h' ⟨hz, hTI, ⟨x, y, hTO⟩, h1, h2, l1, l2⟩ k =>
    ⟨k z (by simp) _ hz, k TI (by simp) _ hTI, ⟨x, y, k TO (by simp) _ hTO⟩, h1.at fun o q => k i1 (by simp) o q, h2.at fun o q => k i2 (by simp) o q, l1, l2⟩
  item := by
    intro X hP hw hK hc i pins s σ H E I hf ⟨hz, hTI, ⟨x0, y0, hTO⟩, h1, h2, l1, l2⟩ ⟨xs, ys, x, y, hqx, hqy, e1, e2, hx, hy⟩
    subst hP hw hK
    obtain ⟨its, rv, p, _⟩ := I.tuple hqx
    obtain ⟨its2, rv2, p2, _⟩ := I.list hqy
    have hl1 := rv.length
    have hl2 := rv2.length
    have hi1 := (List.getElem?_eq_some_iff.mp hx).1
    have hi2 := (List.getElem?_eq_some_iff.mp hy).1
    have hh : X.A.in1.handled = none := I.ok.hd hc
    have hzl : z < s.heap.objs.size := Heap.lt_size hz
    refine wpAny_pyNext_zipD2_item D (Draws.tuple hh i1 a d1 its.toArray) (Draws.list hh i2 b d2 its2.toArray) hz hTI hTO ⟨h1, p⟩ ⟨h2, p2.isList⟩ (by simp; omega) (by simp; omega) fun u u2 h' tk hu hu2 z' TO' h1' h2' hT hsz hk => ?_
    obtain ⟨v1, hv1, ru⟩ := rv.get hx
    obtain ⟨v2, hv2, ru2⟩ := rv2.get hy
    have q1 : u = v1 := by have : its[i]? = some u := by simpa using hu
                           rw [hv1] at this; exact (Option.some.inj this).symm
    have q2 : u2 = v2 := by have : its2[i]? = some u2 := by simpa using hu2
                            rw [hv2] at this; exact (Option.some.inj this).symm
    subst q1 q2
    refine ⟨_, rfl, wpAny_letOwnedTupleGo_zip (s := { s with heap := h', toks := tk }) z' fun h'' z'' sb => ?_⟩
    have hT2 : h''.get? s.heap.objs.size = some { cls := .type "tuple", data := .seq #[u, u2] } := (sb.2 _ (Nat.ne_of_gt hzl)).trans hT
    have new : ObjOk X.prog X.w (upd H s.heap.objs.size (.tup [x, y])) h'' s.heap.objs.size (.tup [x, y]) :=
      ⟨by show 2 ≤ sizeLine; decide, [u, u2], .cons ru (.cons ru2 .nil), ⟨_, hT2, rfl, _, rfl⟩⟩
    have I1 : Inv X pins σ (upd H s.heap.objs.size (.tup [x, y])) { s with heap := h'', toks := tk } :=
      I.turnedNew (t' := tk) (ch := [z, TI, TO, i1, i2]) (fun c o hb q => by
        simp only [List.mem_cons, List.not_mem_nil, or_false, not_or] at hb
        exact (sb.2 c hb.1).trans (hk c o hb.1 hb.2.2.1 hb.2.2.2.1 hb.2.2.2.2 q)) hf (Nat.le_refl _) new
    refine ⟨.ref s.heap.objs.size, _, I1, rfl, ⟨_, x, y, rfl, I.hok.fresh (Nat.le_refl _), rfl, fun l hl => by rw [I.tuple_inj hl hqx]; exact hx, fun l hl => by rw [I.list_inj hl hqy]; exact hy⟩, ⟨z'', ?_, ⟨u, u2, ?_⟩, ?_, ?_, by omega, by omega⟩, fun c hcm => ?_⟩
    · exact (sb.2 _ D.TIz).trans (hk _ _ D.TIz D.TITO D.TIi1 D.TIi2 hTI)
    · exact (sb.2 _ D.TOz).trans TO'
    · exact h1'.1.at fun o q => (sb.2 _ D.zi1.symm).trans q
    · exact h2'.1.at fun o q => (sb.2 _ D.zi2.symm).trans q
    · have hlt : c < s.heap.objs.size := by
        simp only [List.mem_cons, List.not_mem_nil, or_false] at hcm
        rcases hcm with q | q | q | q | q <;> rw [q]
        · exact hzl
        · exact Heap.lt_size hTI
        · exact Heap.lt_size hTO
        · obtain ⟨_, e1, _⟩ := h1; exact Heap.lt_size e1
        · obtain ⟨_, e2, _⟩ := h2; exact Heap.lt_size e2
      rw [upd_ne (Nat.ne_of_lt hlt)]
      exact (hf c hcm).1
  done := by
    intro X hP hw hK hc i pins s σ H E I hf ⟨hz, hTI, ⟨x0, y0, hTO⟩, h1, h2, l1, l2⟩ ⟨xs, ys, hqx, hqy, e1, e2, hend⟩
    subst hP hw hK
    obtain ⟨its, rv, p, _⟩ := I.tuple hqx
    obtain ⟨its2, rv2, p2, _⟩ := I.list hqy
    have hl1 := rv.length
    have hl2 := rv2.length
    have hh : X.A.in1.handled = none := I.ok.hd hc
    exact wpAny_pyNext_zipD2_end D (Draws.tuple hh i1 a d1 its.toArray) (Draws.list hh i2 b d2 its2.toArray) hz hTI hTO ⟨h1, p⟩ ⟨h2, p2.isList⟩ (by simp; omega) (by simp; omega) (by simp; omega) fun h' tk hk => ⟨rfl, I.turnedL (t' := tk) (ch := [z, TI, TO, i1, i2]) (fun c o hb q => by
      simp only [List.mem_cons, List.not_mem_nil, or_false, not_or] at hb
      exact hk c o hb.1 hb.2.2.1 hb.2.2.2.1 hb.2.2.2.2 q) hf⟩
  self := fun A i s Q E st h => wpAny_pyIter_zip st.1 h
def iZipUL (K : PySem.W.Frag) (ta : TA) : TI := fun σ H R => ta σ H fun vs H1 => ∃ a b xs ys, vs = [.ref a, .ref b] ∧ SqT K H1 a xs ∧ SqL K H1 b ys ∧ R (ItzUL K a b xs.length ys.length) H1
theorem pi_zipUL {X : Cx} {e e2 : Expr} {ta : TA} {p pos tpos : Pos} {elts : List Expr} {kk : Nat} (hg : Gl X "zip") (hm : X.mg "zip" = none) (ha : PA X [e, e2] ta)
    (hs : starEach [e, e2] X.env = (false, eval e X.env) :: starEach [e2] X.env := by rfl) (hpl : (backTo pos (starEach [e2] X.env)).any (·.1) = false := by rfl) :
    PI X (.Tuple elts kk tpos) (.Call (.Name "zip" p) [e, e2] [] pos) (iZipUL X.K ta) := by
  refine ⟨fun pins s σ H R I h => ?_⟩
  refine Call_ (ld_blt I hg hm PyProof.Rows.boot_zip (PyProof.Rows.callWith_type1 (thn (ha.run pos pins s σ H _ I h) fun us s1 ⟨vs, H1, I1, r1, q1⟩ => ?_) hs hpl))
  obtain ⟨a, b, xs, ys, rfl, hqx, hqy, q⟩ := q1
  obtain ⟨u1, u2, rfl, ru1, ru2⟩ : ∃ u1 u2, us = [u1, u2] ∧ RelV (.ref a) u1 ∧ RelV (.ref b) u2 := by
    cases r1 with
    | cons r rr => cases rr with
      | cons r' rr => cases rr; exact ⟨_, _, rfl, r, r'⟩
  cases ru1
  cases ru2
  obtain ⟨its, rv, p1, _⟩ := I1.tuple hqx
  obtain ⟨its2, rv2, p2, _⟩ := I1.list hqy
  have ea : ∃ o, s1.heap.get? a = some o := let ⟨o, e, _⟩ := p1; ⟨o, e⟩
  have eb : ∃ o, s1.heap.get? b = some o := let ⟨o, e, _⟩ := p2.isList; ⟨o, e⟩
  have la : a < s1.heap.objs.size := let ⟨_, e⟩ := ea; Heap.lt_size e
  have lb : b < s1.heap.objs.size := let ⟨_, e⟩ := eb; Heap.lt_size e
  refine zip_begins2 (begins_tuple a its.toArray) (begins_list b its2.toArray) p1 p2.isList fun h' hz hTI hTO h1 h2 hsz hk => wpAny_pyIter_zip hz ?_
  have I2 : Inv X pins σ H1 { s1 with heap := h' } := I1.kept (t' := s1.toks) hk
  refine ⟨s1.heap.objs.size + 4, [s1.heap.objs.size + 4, s1.heap.objs.size + 2, s1.heap.objs.size + 3, s1.heap.objs.size, s1.heap.objs.size + 1], _, _, H1, rfl, I2, turn_zipUL (zip_sep2 (fp1 := [a]) (fp2 := [b]) (fun c hc => by rw [List.mem_singleton.mp hc]; exact la) (fun c hc => by rw [List.mem_singleton.mp hc]; exact lb)) (Nat.ne_of_lt la) (Nat.ne_of_lt (Nat.lt_succ_of_lt lb)), ⟨hz, hTI, ⟨_, _, hTO⟩, ⟨_, h1, rfl, rfl⟩, ⟨_, h2, rfl, rfl⟩, Nat.zero_le _, Nat.zero_le _⟩, fun c hc => ?_, q⟩
  have hle : s1.heap.objs.size ≤ c := by
    simp only [List.mem_cons, List.not_mem_nil, or_false] at hc
    rcases hc with z | z | z | z | z <;> rw [z] <;> first | exact Nat.le_add_right _ _ | exact Nat.le_refl _
  exact I1.fpOk hle (I1.hok.fresh hle)
end L2
namespace TP
open PySem PySem.Spec PyProof.Rows L2
section
variable {K : PySem.W.Frag} {α β : Type} {Γ : TP.Env} {T : Ty α} {U : Ty β}
theorem evi_zipUL {mp : Option (List α × List β × Unit)} {ta : TA} (h : EvA ta Γ (aC (tyU K T) (aC (tyL U) aN)) mp) : EvI (iZipUL K ta) Γ (tyH K (aC T (aC U aN))) (mp.bind mZip) := fun xs e H0 G H σ S R q => by
  obtain ⟨p, ea, e⟩ := bind_inv e
  cases e
  refine h p ea H0 G H σ S _ fun vs G1 H1 s1 r1 => ?_
  obtain ⟨v, us, rfl, ⟨a, ws, rfl, ha, rr⟩, u, us', rfl, ⟨b, zs, rfl, hb, rs⟩, hn⟩ := r1
  obtain rfl : us' = [] := hn
  refine ⟨a, b, ws, zs, rfl, SqT.mono s1.m ha, SqL.of (s1.m _ _ hb), q _ G1 H1 s1 fun i G2 H2 e1 e2 => ⟨fun x ex => ?_, fun hi => ?_⟩⟩
  · obtain ⟨y, z, ey, ez, rfl⟩ := zipL_get ex
    obtain ⟨w, ew, hw⟩ := rr.get ey
    obtain ⟨w2, ew2, hw2⟩ := rs.get ez
    have hs : SqT K H2 a ws := SqT.mono (e1.trans e2) ha
    have hs2 : SqL K H2 b zs := SqL.of ((e1.trans e2) _ _ hb)
    refine ⟨⟨ws, zs, w, w2, hs, hs2, rfl, rfl, ew, ew2⟩, fun v H3 y' => ?_⟩
    obtain ⟨t, w', w2', rfl, hn, rfl, hw', hw2'⟩ := y'
    have e3 : w = w' := Option.some.inj (ew.symm.trans (hw' _ hs))
    have e4 : w2 = w2' := Option.some.inj (ew2.symm.trans (hw2' _ hs2))
    subst e3
    subst e4
    have sn := Stp.new (o := .tup [w, w2]) e2 hn
    exact ⟨_, sn, t, [w, w2], rfl, SqT.of upd_same, w, [w2], rfl, T.mono (e1.trans sn.g) hw, w2, [], rfl, U.mono (e1.trans sn.g) hw2, rfl⟩
  · refine ⟨ws, zs, SqT.mono (e1.trans e2) ha, SqL.of ((e1.trans e2) _ _ hb), rfl, rfl, ?_⟩
    rw [rr.len, rs.len]
    rw [zipL_len] at hi
    omega
end
end TP
set_option maxHeartbeats 2000000
namespace PySem
open Sem (wp)
open AutoSeq1 (wpAny_loadPart')
theorem meets_enum_own {prog : Program} {w : World} (a : Addr) : MeetsIn prog w (Builtin.«enumerate.__new__» ⟨[.type "enumerate", .ref a], []⟩) (fun A R s => ∃ (P : Addr → Shared → Prop) (o : Obj), s.heap.get? a = some o ∧ (∀ (Q : Value → Shared → Prop) (E : Value → Shared → Prop), (∀ it s', P it s' → Q (.ref it) s') → wpAny (model prog w) A.in1 (pyIter (.ref a)) Q E s) ∧
    ∀ it s', P it s' → R (.ok (.ret (.ref s'.heap.objs.size))) { s' with heap := s'.heap.push { cls := .type "enumerate", data := .fields #[.none, .bool false, .ref it, rawInt 0, .none, .none] } }) :=
  .of_wp fun A R s h => by
    obtain ⟨P, o, ho, hI, h⟩ := h
    have hsub := sub_enumerate
    obtain ⟨cl, dc, dt, sl⟩ := o
    wp_walk using wpAny_loadPart' ho
    refine wpAny_stack_any fun st => wpAny_pure ?_
    split
    · rename_i c _ _ _ _ _
      cases (c == Value.type "enumerate")
      · wp_walk using wpAny_loadPart' ho, hI _ _
        intro it s' hp
        wp_walk
        exact ⟨_, rfl, h it s' hp⟩
      · wp_walk using wpAny_loadPart' ho, hI _ _
        intro it s' hp
        wp_walk
        exact ⟨_, rfl, h it s' hp⟩
    · wp_walk using wpAny_loadPart' ho, hI _ _
      intro it s' hp
      wp_walk
      exact ⟨_, rfl, h it s' hp⟩
end PySem
namespace L2
open PySem PySem.Spec PyProof.Rows
section
variable {X : Cx} {k : Nat} {f C : Addr} {fld : Str}
def iEnumOwn (K : PySem.W.Frag) (C : Addr) (fld : Str) (ta : TA) : TI := fun σ H R => ta σ H fun vs H1 => ∃ a dx fs l zs, vs = [.ref a] ∧ H1 a = some (.ins C dx fs) ∧ fs.lookup fld = some (.ref l) ∧ SqT K H1 l zs ∧ R (IteT K l) H1
theorem pi_enumOwn {e : Expr} {ta : TA} {p pos tpos : Pos} {elts : List Expr} {kk : Nat} (hm : Meth X.K C "__iter__" f) (FI : FnRS X.prog X.w X.K X.mg X.base CX0 k f (spIt X.K C fld)) (hr : Room (k + 2) X.A) (hg : Gl X "enumerate") (hmg : X.mg "enumerate" = none) (ha : PA X [e] ta) (hs : starEach [e] X.env = [(false, eval e X.env)] := by rfl) :
    PI X (.Tuple elts kk tpos) (.Call (.Name "enumerate" p) [e] [] pos) (iEnumOwn X.K C fld ta) := by
  refine ⟨fun pins s σ H R I h => ?_⟩
  refine Call_ (ld_blt I hg hmg boot_enumerate (PyProof.Rows.callWith_type1 (thn (ha.run pos pins s σ H _ I h) fun us s1 ⟨vs, H1, I1, r1, q1⟩ => ?_) hs rfl))
  obtain ⟨a, dx, fs, l, zs, rfl, hia, hl, hz, q⟩ := q1
  obtain rfl := Vals.ref1 r1
  obtain ⟨mA, O, _⟩ := ins_get I1.hok hia
  have eo : ∃ o, s1.heap.get? a = some o := by
    obtain ⟨_, _, _, e, _⟩ := I1.hok a _ hia
    exact ⟨_, e⟩
  obtain ⟨o, ho⟩ := eo
  have env : Env0 X.prog X.w X.K X.mg X.base X.A.in1.in1 X.stack s1 H1 := by
    have e := I1.env0
    exact ⟨e.frames, e.mod, e.bs, e.bsz, e.funs, e.frf, e.hok, e.bare⟩
  have hlt : ∀ it s', Inv X pins σ (upd H1 it (ItTO l it)) s' → it < s'.heap.objs.size := fun it s' I' => Heap.lt_size ((I'.hok it _ upd_same).1)
  refine callType_newIn PySem.F.called_enumerate (by decide) (PySem.F.typeCall_enumerate_1 _) (PySem.F.newCall_enumerate_1 _) (fun obj => PySem.F.args_object_init_2 obj _) PySem.F.entry_enumerate_new
    (meets_enum_own (prog := X.prog) (w := X.w) a) ⟨fun it s' => Inv X pins σ (upd H1 it (ItTO l it)) s' ∧ H1 it = none ∧ s1.heap.objs.size ≤ it, o, ho, fun Q E hQ => own_iterT (fld := fld) hm FI (Room.in1 (Room.in1 hr)) env I1 hia hl hz fun it s' I' hn hy => hQ it s' ⟨I', hn, hy⟩, fun it s' hp => ?_⟩
  obtain ⟨I', hn, hy⟩ := hp
  have h1 := hlt it s' I'
  obtain ⟨its, rv, pt, _⟩ := I1.tuple hz
  have hll : l < s1.heap.objs.size := by
    obtain ⟨o, e, _⟩ := pt
    exact Heap.lt_size e
  have I3 := I'.kept (h' := s'.heap.push { cls := .type "enumerate", data := .fields #[.none, .bool false, .ref it, rawInt 0, .none, .none] }) (t' := s'.toks) fun b o e => Heap.get?_push_of_some _ e
  have I4 := ItX.inv_drop I3 (a := it) (φ := fun h => h.get? it = some (itTObj l)) upd_same
  rw [ItX.dropH_upd hn] at I4
  have fp := ItX.inv_fp I3 upd_same (Nat.le_trans I1.sz hy)
  rw [ItX.dropH_upd hn] at fp
  have he : IsEnum (s'.heap.push { cls := .type "enumerate", data := .fields #[.none, .bool false, .ref it, rawInt 0, .none, .none] }) s'.heap.objs.size it 0 .none := Heap.get?_push_size _ rfl
  have hit := (I3.hok it _ upd_same).1
  refine ⟨⟨_, he, rfl⟩, wpAny_pyIter_enum he ⟨s'.heap.objs.size, [s'.heap.objs.size, it], _, _, H1, rfl, I4, turn_enumT l s'.heap.objs.size it (Nat.ne_of_lt (Nat.lt_of_lt_of_le hll hy)) (Nat.ne_of_gt (Nat.lt_trans (Nat.lt_of_lt_of_le hll hy) h1)), ⟨⟨.none, he⟩, ⟨_, hit, rfl, rfl⟩, Nat.ne_of_gt h1⟩, fun b hb => ?_, q⟩⟩
  have e' : b = s'.heap.objs.size ∨ b = it := by simpa using hb
  rcases e' with z | z
  · rw [z]
    have hne : H1 s'.heap.objs.size = none := by
      have := I'.hok.fresh (Nat.le_refl s'.heap.objs.size)
      rw [upd_ne (Nat.ne_of_gt h1)] at this
      exact this
    exact I'.fpOk (Nat.le_refl _) hne
  · rw [z]; exact fp
end
end L2
namespace TP
open PySem PySem.Spec PyProof.Rows L2
section
variable {K : PySem.W.Frag} {α β : Type} {Γ : TP.Env} {T : Ty α} {C : Addr} {F : FTy β} {fld : Str} {g : β → List α}
theorem evi_enumOwn {m : Option (β × Unit)} {ta : TA} (hf : Fld F fld (tyU K T) g) (h : EvA ta Γ (aC (tyO C F) aN) m) : EvI (iEnumOwn K C fld ta) Γ (tyH K (aC tyI (aC T aN))) (m.bind fun p => mEnum (g p.1, ())) := fun xs e H0 G H σ S R q => by
  obtain ⟨p, ea, e⟩ := bind_inv e
  cases e
  refine h p ea H0 G H σ S _ fun vs G1 H1 s1 r1 => ?_
  obtain ⟨v, rfl, a, dx, fs, rfl, hia, ro⟩ := one_arg r1
  obtain ⟨w, ew, l, ws, rfl, ha, rr⟩ := hf _ _ _ ro
  refine ⟨a, dx, fs, l, ws, rfl, s1.m _ _ hia, ew, SqT.mono s1.m ha, q _ G1 H1 s1 fun i G2 H2 e1 e2 => ⟨fun x ex => ?_, fun hi => ?_⟩⟩
  · obtain ⟨y, ey, rfl⟩ := enumL_get _ _ _ ex
    obtain ⟨w, ew, hw⟩ := rr.get ey
    have hs : SqT K H2 l ws := SqT.mono (e1.trans e2) ha
    refine ⟨⟨ws, w, hs, ew⟩, fun v H3 y' => ?_⟩
    obtain ⟨t, w', rfl, hn, rfl, hw'⟩ := y'
    have : w = w' := Option.some.inj (ew.symm.trans (hw' _ hs))
    subst this
    have sn := Stp.new (o := .tup [.int (i : Nat), w]) e2 hn
    refine ⟨_, sn, t, [.int (i : Nat), w], rfl, SqT.of upd_same, .int (i : Nat), [w], rfl, ?_, w, [], rfl, T.mono (e1.trans sn.g) hw, rfl⟩
    show V.int _ = V.int _
    congr 1
    omega
  · exact ⟨ws, SqT.mono (e1.trans e2) ha, by rw [rr.len, ← enumL_len (g p.1) 0]; exact hi⟩
end
end TP
set_option maxHeartbeats 2000000
namespace TP
open PySem PySem.Spec PyProof.Rows L2
section
variable {K : PySem.W.Frag} {Γ : TP.Env} {te : TE}
def mRgU (n : Int) : Option (List Int) := gd (gN n) (rngL 0 n.toNat)
theorem rgV_rngL (n : Int) : L2.rgV 0 n = (rngL 0 n.toNat).map V.int := by
  unfold L2.rgV rngL
  rw [List.map_map, Int.sub_zero]
  rfl
theorem rgOk_gN {n : Int} (h : gN n = true) : RgOk 0 n := by
  have := gN_ok h
  exact RgOk.of_le (by decide) (by omega) (by decide) this.1
theorem ev_tupRg1 {m : Option Int} (h : Ev te Γ tyI m) : Ev (tTupRg (L2.tRg1 te)) Γ (tyU K tyI) (m.bind mRgU) := fun z e H0 G H σ S Q q => by
  obtain ⟨n, en, e⟩ := bind_inv e
  obtain ⟨c, rfl⟩ := gd_inv e
  refine h n en H0 G H σ S _ fun v G1 H1 s1 r1 => ?_
  cases r1
  refine ⟨n, rfl, rgOk_gN c, fun b hb => ?_⟩
  have sn := Stp.new (o := .tup (L2.rgV 0 n)) s1.m hb
  exact q _ _ _ (s1.trans sn) ⟨b, L2.rgV 0 n, rfl, SqT.of upd_same, by rw [rgV_rngL]; exact all2_int_map _⟩
theorem evn_lstRg1 {m : Option Int} (h : Ev te Γ tyI m) : EvN (tLstRg (L2.tRg1 te)) Γ tyI (m.bind mRgU) := fun z e H0 G H σ S Q q => by
  obtain ⟨n, en, e⟩ := bind_inv e
  obtain ⟨c, rfl⟩ := gd_inv e
  refine h n en H0 G H σ S _ fun v G1 H1 s1 r1 => ?_
  cases r1
  refine ⟨n, rfl, rgOk_gN c, fun b hb => ?_⟩
  exact q b _ G1 _ (s1.trans (Stp.priv s1.m hb)) (s1.h.non hb) (s1.m.non hb) upd_same (by rw [rgV_rngL]; exact all2_int_map _)
end
end TP
set_option maxHeartbeats 2000000
namespace L2N
open PySem PySem.Spec PyProof.Rows L2
inductive HdsAs (X : Cx) (n : Str) : List ExceptHandler → List (Value × (Addr → Value → Option Addr → TS)) → Prop
  | nil : HdsAs X n [] []
  | cons {x : Str} {c : Value} {ts : Addr → Value → Option Addr → TS} {b₀ : Stmt} {suite : List Stmt} {np pos' : Pos} {hds : List ExceptHandler} {l : List (Value × (Addr → Value → Option Addr → TS))} (hc : Names X x c)
      (hsu : ∀ (a : Addr) (oe : Obj) (cls : Value) (d : Option Addr) (pn : List (Addr × Obj)), Zn cls d oe → (∃ vs, oe.data = .fields vs) → PSs (X.suite a ((a, oe) :: pn)) (b₀ :: suite) (ts a cls d)) (r : HdsAs X n hds l) :
      HdsAs X n (.ExceptHandler (some (.Name x np)) (some n) (b₀ :: suite) pos' :: hds) ((c, ts) :: l)
def wManyAs (K : PySem.W.Frag) (i : Nat) (Wout : WX) (D : Ends) : List (Value × (Addr → Value → Option Addr → TS)) → WX
  | [] => Wout
  | (c, ts) :: r => wAs K c i ts (wManyAs K i Wout D r) D
section
variable {X : Cx} {n : Str} {i : Nat} {body : List Stmt} {h₀ : ExceptHandler} {hds : List ExceptHandler} {l : List (Value × (Addr → Value → Option Addr → TS))} {pos : Pos} {tb : WX → TS} {Wout : WX}
theorem ps_try_manyAs (hs : X.stack = X.env :: X.outer) (hf : X.env.frame = some X.env.locals) (hN : X.N.Nodup) (hi : X.N[i]? = some n) (hln : X.env.kindOf n = some .local) (tk : Takes X Wout)
    (hb : ∀ (W : WX) (pn : List (Addr × Obj)) (xe : Value → Shared → Prop), Takes (X.tr pn xe) W → PassesOwn (model X.prog X.w) X.A X.env xe → PSs (X.tr pn xe) body (tb W))
    (hh : HdsAs X n (h₀ :: hds) l) : PS X (.Try body (h₀ :: hds) [] [] pos) (fun D σ H => tb (wManyAs X.K i Wout D l) D σ H) := by
  refine ⟨fun pins s σ H D I h => ?_⟩
  have ok := I.ok
  have hfr : X.A.frames = some (X.env :: X.outer) := by rw [ok.frames, hs]
  have hloc : Loc X.env.scope n := .inl hln
  refine wpAny_Try_except ?_
  refine wpAny_mono ((hb (wManyAs X.K i Wout D l) (X.pn ++ pins) (fun e s₁ => wpAny (model X.prog X.w) X.A (noteFrame e X.env) (fun _ s₂ => wpAny (model X.prog X.w) X.A (setFlight e none) (fun _ s₃ =>
    wpAny (model X.prog X.w) X.A (handleBy e X.env (h₀ :: hds)) (SP X pins D) X.xe s₃) X.xe s₂) X.xe s₁) (fun u s' xx => ?_) PassesOwn.looking).run [] s σ H D (I.toTry _) h) (fun f s1 hsp => ?_) (fun e s1 he => he)
  · obtain ⟨a, B, sI, pins', σ', H', cls, d, rfl, J', nb, up, sky, na, os, ag, w⟩ := xx
    have J : Inv X pins σ' H' sI := J'.ofTry ok
    have sky' : Sky B (X.env :: X.outer) a (Zn cls d) X.env.locals s'.heap := by rw [← hs]; exact sky
    show wpAny (model X.prog X.w) X.A (noteFrame (.ref a) X.env) _ _ _
    refine Sky.land Zn.steady hfr hf sky' fun h3 fl3 up3 => ?_
    have J3 : Inv X pins σ' H' { s' with heap := h3 } := J.landed nb fl3.1 (up.trans up3) os ag
    obtain ⟨oe3, vs3, he3, hz3, hd3⟩ := fl3.there
    have nfr : a ∉ frs (X.env :: X.outer) := fun hm => by
      obtain ⟨_, o', e', hnf⟩ := fl3.2.2.1.mem hm
      rw [he3] at e'
      cases e'
      exact hnf _ hd3
    have nL : a ≠ X.env.locals := fun z => nfr (List.mem_filterMap.mpr ⟨X.env, List.mem_cons_self, by rw [hf, z]⟩)
    have nF : a ∉ X.fs := fun hm => by
      obtain ⟨e, he, q⟩ := List.mem_filterMap.mp hm
      exact nfr (List.mem_filterMap.mpr ⟨e, List.mem_cons_of_mem _ he, q⟩)
    have S3 := J3.suite he3 hd3 na nL nF
    have go : ∀ {hds' : List ExceptHandler} {l' : List (Value × (Addr → Value → Option Addr → TS))}, HdsAs X n hds' l' → wManyAs X.K i Wout D l' cls d σ' H' →
        wpAny (model X.prog X.w) X.A (handleBy (.ref a) X.env hds') (SP X pins D) X.xe { s' with heap := h3 } := by
      intro hds' l' hk
      induction hk with
      | nil =>
        intro w
        refine wpAny_handleBy_nil ?_
        obtain ⟨k1, k2, k3, oe, vs, T, oT, ts', he, hz, hd, h1, hr⟩ := id fl3
        unfold PySem.passOn
        refine wpAny_bind (wpAny_field he hd h1 ?_)
        rw [if_neg (show ¬ ((Value.ref T == Value.none) = true) from by simp)]
        have fin : wpAny (model X.prog X.w) X.A (setFlight (.ref a) X.env.frame) (fun _ s4 => wpAny (model X.prog X.w) X.A (throw (.ref a) : Sem Flow) (SP X pins D) X.xe s4) X.xe { s' with heap := h3 } := by
          rw [hf]
          refine HandSPX.setFlight_upZ fl3 fun h4 hh4 up4 => wpAny_throw (tk _ _ ?_)
          exact ⟨a, B, sI, pins, σ', H', cls, d, rfl, J, nb, (up.trans up3).trans up4, .inr (.inr (by rw [hs]; exact hh4)), na, os, ag, w⟩
        first
          | exact wpAny_bind (wpAny_pure (wpAny_bind fin))
          | exact wpAny_bind fin
      | @cons x c ts b₀ suite np pos' hds2 l2 hc hsu r ih =>
        intro w
        obtain ⟨b, hb1, hyes, hno⟩ := w
        refine wpAny_handleBy_cons (codeAny_handlers_test ?_) (by intro q; cases q)
        have LT : PySem.W.Looks (model X.prog X.w) h3 (typeOf (.ref a)) cls := fun A Q E s k q => wpAny_typeOf_ref (k _ _ he3) (by rw [hz3.1]; exact q)
        have LM := PySem.W.exm_one (M := model X.prog X.w) (J3.kIn) LT hb1
        have test : ∀ {Q : Value → Shared → Prop} {E : Value → Shared → Prop}, Q c { s' with heap := h3 } → wpAny (model X.prog X.w) (X.A.mark (some (.ref a))) (eval (.Name x np) X.env) Q E { s' with heap := h3 } := fun {Q E} q => by
          obtain ⟨hg, hdbg, hm | ⟨hm, hv, hnn⟩⟩ := hc
          · exact ld_glob (X := X.suite a ((a, oe3) :: (X.pn ++ pins))) S3 hg hm q hdbg
          · exact ld_blt (X := X.suite a ((a, oe3) :: (X.pn ++ pins))) S3 hg hm hv q hnn hdbg
        refine test (LM.here ?_)
        cases b with
        | true =>
          refine codeAny_handlers_suite_as ?_
          refine HandSPX.lands_againZ fl3 fun h4 fl4 up4 => ?_
          have J4 : Inv X pins σ' H' { s' with heap := h4 } := J.landed nb fl4.1 ((up.trans up3).trans up4) os ag
          obtain ⟨oe4, vs4, he4, hz4, hd4⟩ := fl4.there
          have S4 := J4.suite he4 hd4 na nL nF
          refine store_ok (X := X.suite a ((a, oe4) :: (X.pn ++ pins))) (v := .ref a) S4 hN hi hloc rfl (fun s5 S5 => ?_) (.inr hln)
          refine wpAny_mono ((hsu a oe4 cls d (X.pn ++ pins) hz4 ⟨_, hd4⟩).run [] s5 _ H' _ S5 (hyes rfl a na)) (fun f s6 hsp => ?_) (fun _ _ z => False.elim z)
          have end_ : ∀ {σ6 : St} {H6 : Hp} {Q : Shared → Prop}, Inv (X.suite a ((a, oe4) :: (X.pn ++ pins))) [] σ6 H6 s6 → (∀ s7, Inv X pins (σ6.set i none) H6 s7 → Q s7) →
              wpAny (model X.prog X.w) X.A (do bindName X.env n .none; unbindBehindTheSuite X.env n pos') (fun _ s7 => Q s7) X.xe s6 := fun {σ6 H6 Q} S6 hq => gone_ok (S6.unsuite ok) hN hi hln hq
          cases f with
          | next =>
            obtain ⟨σ6, H6, S6, q6⟩ := hsp
            exact end_ S6 fun s7 J7 => ⟨_, _, J7, q6⟩
          | brk =>
            obtain ⟨σ6, H6, S6, q6⟩ := hsp
            exact end_ S6 fun s7 J7 => ⟨_, _, J7, q6⟩
          | cont =>
            obtain ⟨σ6, H6, S6, q6⟩ := hsp
            exact end_ S6 fun s7 J7 => ⟨_, _, J7, q6⟩
          | ret u =>
            obtain ⟨v6, σ6, H6, S6, r6, q6⟩ := hsp
            exact end_ S6 fun s7 J7 => ⟨_, _, _, J7, r6, q6⟩
        | false =>
          show wpAny _ X.A (handleBy (.ref a) X.env hds2) _ _ _
          exact ih (hno rfl)
    exact go hh w
  · cases f with
    | next =>
      obtain ⟨σ', H', J', q⟩ := hsp
      exact wpAny_execs_nil ⟨σ', H', J'.ofTry ok, q⟩
    | brk =>
      obtain ⟨σ', H', J', q⟩ := hsp
      exact ⟨σ', H', J'.ofTry ok, q⟩
    | cont =>
      obtain ⟨σ', H', J', q⟩ := hsp
      exact ⟨σ', H', J'.ofTry ok, q⟩
    | ret u =>
      obtain ⟨v, σ', H', J', r, q⟩ := hsp
      exact ⟨v, σ', H', J'.ofTry ok, r, q⟩
end
end L2N
namespace TP
open PySem PySem.Spec PyProof.Rows L2
section
variable {α β γ δ : Type} {Γ Γx : TP.Env} {K : PySem.W.Frag} {W : Rt γ} {rest : TS} {env : β → TP.Env}
abbrev HdM (γ δ : Type) : Type := List ((Er → Option Bool) × (Er → Option (Fl γ δ)))
def hdF : HdM γ δ → Er → Option (Fl γ δ)
  | [], _ => none
  | (m, h) :: l, e => match m e with
    | some true => h e
    | some false => hdF l e
    | none => none
def tabO (t : List (Str × Bool)) (e : Er) : Option Bool := t.lookup e.c
def tryFN (mb : Option (Fl (Res γ) δ)) (l : HdM γ δ) : Option (Fl γ δ) := mb.bind fun x => match x with
  | .ret (.ok r) => some (.ret r)
  | .ret (.er e) => hdF l e
  | .nx b => some (.nx b)
@[simp] theorem tryFN_ok (r : γ) (l : HdM γ δ) : tryFN (some (.ret (.ok r))) l = some (.ret r) := rfl
@[simp] theorem tryFN_nx (b : δ) (l : HdM γ δ) : tryFN (some (.nx b)) l = some (.nx b) := rfl
@[simp] theorem tryFN_er (e : Er) (l : HdM γ δ) : tryFN (some (.ret (.er e))) l = hdF l e := rfl
inductive HdS (K : PySem.W.Frag) (Γx : TP.Env) (i : Nat) (W : Rt γ) (envh : δ → TP.Env) : List (Value × (Addr → Value → Option Addr → TS)) → HdM γ δ → Prop
  | nil : HdS K Γx i W envh [] []
  | cons {c : Value} {ts : Addr → Value → Option Addr → TS} {t : List (Str × Bool)} {h : Er → Option (Fl γ δ)} {l : List (Value × (Addr → Value → Option Addr → TS))} {ml : HdM γ δ} (hm : TabM K c t)
      (hs : ∀ a cls d e, Sd (ts a cls d) (Γx.set i (.pu (tyE K a cls d) e)) W envh (h e)) (r : HdS K Γx i W envh l ml) : HdS K Γx i W envh ((c, ts) :: l) ((tabO t, h) :: ml)
theorem sd_tryMany [FlatR W] {env1 envh : δ → TP.Env} {i : Nat} {t : TS} {tb : WX → TS} {l : List (Value × (Addr → Value → Option Addr → TS))} {ml : HdM γ δ} {Wout : WX} {mb : Option (Fl (Res γ) δ)} {f : δ → Option (Fl γ β)}
    (hb : ∀ V, Sd (tb V) Γ (xW W K V Γx) env1 mb) (hs : HdS K Γx i W envh l ml) (wk : ∀ b, Wk ((envh b).set i .no) (env1 b)) (hr : ∀ b, Sd rest (env1 b) W env (f b)) (ht : t = fun D σ H => tb (L2N.wManyAs K i Wout D l) D σ H) :
    Sd (tSeq t rest) Γ W env (thenF (tryFN mb ml) f) := by
  subst ht
  intro o e0 H0 G0 G H σ S s D k
  obtain ⟨y, ey, e⟩ := bind_inv e0
  obtain ⟨z, ez, e2⟩ := bind_inv ey
  have kk : ∀ Gs, Ex G Gs → FlOk { D with nx := rest D } W env1 H0 G0 Gs y := fun Gs eg => by
    cases y with
    | ret r => cases e; exact W.mono eg k
    | nx b => exact fun σ2 G2 H2 S2 s2 e2 => hr b o e H0 G0 G2 H2 σ2 S2 s2 D (k.mono (eg.trans e2))
  refine hb _ z ez H0 G0 G H σ S s _ ?_
  cases z with
  | nx b => cases e2; exact kk G (Ex.refl _)
  | ret r =>
    cases r with
    | ok r => cases e2; exact kk G (Ex.refl _)
    | er e1 =>
      have e2 : hdF ml e1 = some y := e2
      intro cls d σ' G1 H1 S1 s1 eg r1
      clear ey ez e0
      induction hs with
      | nil => cases e2
      | @cons c ts t h l ml hm hs r ih =>
        unfold hdF tabO at e2
        cases q : t.lookup e1.c with
        | none => rw [q] at e2; cases e2
        | some b =>
          rw [q] at e2
          have hx : PySem.W.exmOne K cls c = some b := by rw [r1.1]; exact hm.at q
          cases b with
          | true =>
            refine ⟨true, hx, fun _ a na => ?_, fun z => (by cases z)⟩
            refine hs a cls d e1 y e2 H0 G0 G1 H1 _ (S1.set (T := tyE K a cls d) ⟨rfl, r1⟩) s1 _ ?_
            cases y with
            | ret r => cases e; exact FlatR.flat (W := W) (W.mono eg k)
            | nx b => exact fun σ2 G2 H2 S2 s2 e3 => hr b o e H0 G0 G2 H2 _ ((S2.unset i).wk (wk b)) s2 D (k.mono (eg.trans e3))
          | false => exact ⟨false, hx, fun z => (by cases z), fun _ => ih e2 e2⟩
end
end TP
namespace TP
open PySem PySem.Spec PyProof.Rows L2
section
variable {α β γ δ : Type} {Γ Γx : TP.Env} {K : PySem.W.Frag} {W : Rt γ} {VV : WX} {t u rest : TS} {ta tb : TE} {env : β → TP.Env}
theorem sd_ifNoneX {env1 : δ → TP.Env} {m : Option (Res Unit)} {mA : Option (Fl (Res γ) δ)} {f : δ → Option (Fl (Res γ) β)} (h : EvX ta VV Γ Γx K tyN m) (hN : Ev tb Γ tyN (some ())) (hA : Sd t Γ (xW W K VV Γx) env1 mA) (hr : ∀ b, Sd rest (env1 b) (xW W K VV Γx) env (f b)) :
    Sd (tSeq (tIfS (tTest (tOp (fun x y H Q => y = .non ∧ Q (.bl (decide (x = .non))) H) ta tb)) t u) rest) Γ (xW W K VV Γx) env (thenF (xF m fun _ => mA) f) := fun o e H0 G0 G H σ S s D k => by
  obtain ⟨y, ea, e⟩ := bind_inv e
  obtain ⟨z, ez, eb⟩ := bind_inv ea
  refine h z ez H0 G H σ S _ ?_
  cases z with
  | ok x =>
    intro v G1 H1 s1 r1
    cases r1
    refine hN () rfl H0 G1 H1 σ (S.step s1) _ fun w G2 H2 s2 r2 => ?_
    cases r2
    refine ⟨rfl, true, congrArg V.bl (decide_eq_true rfl), ?_⟩
    have s12 := s1.trans s2
    refine hA y eb H0 G0 G2 H2 σ (S.step s12) (s.trans s12) _ ?_
    cases y with
    | ret r => cases e; exact (xW W K VV Γx).mono s12.g k
    | nx d => exact fun σ2 G3 H3 S2 s3 e2 => hr d o e H0 G0 G3 H3 σ2 S2 s3 D (k.mono (s12.g.trans e2))
  | er e1 =>
    cases eb
    cases e
    exact fun cls d σ' G1 H1 S1 s1 r1 => k cls d σ' G1 H1 S1 (s.trans s1) s1.g r1
end
end TP
set_option maxHeartbeats 2000000
namespace TP
open PySem L2
section
variable {α β γ δ ι κ : Type} {te : TE} {Γ : TP.Env} {T : Ty α} {env : β → TP.Env} {rest t u tbd : TS} {W : Rt γ}
theorem sd_asgG {g : TG} {is : List Nat} {P : Ty ι} {Δ : ι → TP.Env} {m : Option ι} {f : ι → Option (Fl γ β)} (h : Ev te Γ P m) (hg : EvG g is Γ P Δ) (hr : ∀ x, Sd rest (Δ x) W env (f x)) :
    Sd (tSeq (tAsg te g) rest) Γ W env (m.bind f) := fun o e H0 G0 G H σ S s D k => by
  obtain ⟨x, ea, e⟩ := bind_inv e
  refine h x ea H0 G H σ S _ fun v G1 H1 s1 r1 => ?_
  refine hg x v H0 G1 H1 σ (S.step s1) r1 _ fun σ2 S2 _ => ?_
  exact hr x o e H0 G0 G1 H1 σ2 S2 (s.trans s1) D (k.mono s1.g)
inductive Lp (γ δ : Type) : Type where
  | rt (r : γ) : Lp γ δ
  | ct (b : δ) : Lp γ δ
  | bk (b : δ) : Lp γ δ
def lW (W : Rt γ) (env1 : δ → TP.Env) : Rt (Lp γ δ) := ⟨fun rt bk ct H0 G0 Gs r => match r with
  | .rt r => W.go rt bk ct H0 G0 Gs r
  | .ct b => ∀ σ G H, Slots H0 G H σ (env1 b) → Stp G0 H0 G H → Ex Gs G → ct σ H
  | .bk b => ∀ σ G H, Slots H0 G H σ (env1 b) → Stp G0 H0 G H → Ex Gs G → bk σ H, fun {rt bk ct H0 G0 Gs G1 r} e h => by
    cases r with
    | rt r => exact W.mono e h
    | ct b => exact fun σ G H S s eg => h σ G H S s (e.trans eg)
    | bk b => exact fun σ G H S s eg => h σ G H S s (e.trans eg)⟩
theorem sd_cont {env1 : δ → TP.Env} {b : δ} (w : Wk Γ (env1 b)) : Sd (tSeq tCont rest) Γ (lW W env1) env (some (.ret (.ct b))) := fun o e H0 G0 G H σ S s D k => by
  cases e
  exact k σ G H (S.wk w) s (Ex.refl _)
theorem sd_brk {env1 : δ → TP.Env} {b : δ} (w : Wk Γ (env1 b)) : Sd (tSeq tBreak rest) Γ (lW W env1) env (some (.ret (.bk b))) := fun o e H0 G0 G H σ S s D k => by
  cases e
  exact k σ G H (S.wk w) s (Ex.refl _)
def liftF (m : Option (Fl γ β)) : Option (Fl (Lp γ δ) β) := m.bind fun z => match z with
  | .ret r => some (.ret (.rt r))
  | .nx b => some (.nx b)
@[simp] theorem liftF_ret (r : γ) : liftF (some (.ret r) : Option (Fl γ β)) = (some (.ret (.rt r)) : Option (Fl (Lp γ δ) β)) := rfl
@[simp] theorem liftF_nx (b : β) : liftF (some (.nx b) : Option (Fl γ β)) = (some (.nx b) : Option (Fl (Lp γ δ) β)) := rfl
theorem sd_lift {env1 : δ → TP.Env} {m : Option (Fl γ β)} (h : Sd t Γ W env m) : Sd t Γ (lW W env1) env (liftF m) := fun o e H0 G0 G H σ S s D k => by
  obtain ⟨y, ea, e⟩ := bind_inv e
  refine h y ea H0 G0 G H σ S s D ?_
  cases y with
  | ret r => cases e; exact k
  | nx b => cases e; exact k
theorem sd_inL {env0 : ι → TP.Env} {env1 : δ → TP.Env} {m : Option (Fl γ δ)} {f : δ → Option (Fl (Lp γ ι) β)} (h : Sd (tSeq t tNext) Γ W env1 m) (hr : ∀ b, Sd rest (env1 b) (lW W env0) env (f b)) :
    Sd (tSeq t rest) Γ (lW W env0) env (thenF (liftF m) f) := fun o e H0 G0 G H σ S s D k => by
  obtain ⟨y, ea, e⟩ := bind_inv e
  obtain ⟨z, ez, ea⟩ := bind_inv ea
  refine h z ez H0 G0 G H σ S s { D with nx := rest D } ?_
  cases z with
  | ret r => cases ea; cases e; exact k
  | nx b =>
    cases ea
    exact fun σ2 G2 H2 S2 s2 e2 => hr b o e H0 G0 G2 H2 σ2 S2 s2 D (k.mono e2)
def goC (next : δ → Option (Fl γ δ)) : Fl (Lp γ δ) δ → Option (Fl γ δ)
  | .nx b => next b
  | .ret (.ct b) => next b
  | .ret (.bk b) => some (.nx b)
  | .ret (.rt r) => some (.ret r)
@[simp] theorem goC_nx (next : δ → Option (Fl γ δ)) (b : δ) : goC next (.nx b) = next b := rfl
@[simp] theorem goC_ct (next : δ → Option (Fl γ δ)) (b : δ) : goC next (.ret (.ct b)) = next b := rfl
@[simp] theorem goC_bk (next : δ → Option (Fl γ δ)) (b : δ) : goC next (.ret (.bk b)) = some (.nx b) := rfl
@[simp] theorem goC_rt (next : δ → Option (Fl γ δ)) (r : γ) : goC next (.ret (.rt r)) = some (.ret r) := rfl
def forC (step : δ → ι → Option (Fl (Lp γ δ) δ)) : List ι → δ → Option (Fl γ δ)
  | [], b => some (.nx b)
  | x :: xs, b => (step b x).bind (goC fun b' => forC step xs b')
theorem sd_forC [FlatR W] {env1 : δ → TP.Env} {wi : L2.TI} {g : TG} {is : List Nat} {P : Ty ι} {Δ : δ → ι → TP.Env} {b0 : δ} {mxs : Option (List ι)} {step : δ → ι → Option (Fl (Lp γ δ) δ)} {f : δ → Option (Fl γ β)}
    (hi : EvI wi Γ P mxs) (w : Wk Γ (env1 b0)) (hg : ∀ b, EvG g is (env1 b) P (Δ b)) (hb : ∀ b x, Sd tbd (Δ b x) (lW W env1) env1 (step b x)) (hr : ∀ b, Sd rest (env1 b) W env (f b)) :
    Sd (tSeq (tFor wi g tbd) rest) Γ W env (mxs.bind fun xs => thenF (forC step xs b0) f) := fun o e H0 G0 G H σ S s D k => by
  obtain ⟨xs, ea, e⟩ := bind_inv e
  obtain ⟨y, ey, e⟩ := bind_inv e
  refine hi xs ea H0 G H σ S _ fun J G1 H1 s1 yl => ?_
  refine ⟨fun i m σ' H' => m = xs.length - i ∧ i ≤ xs.length ∧ ∃ b G', Slots H0 G' H' σ' (env1 b) ∧ Stp G0 H0 G' H' ∧ Ex G1 G' ∧ forC step (xs.drop i) b = some y,
    ⟨xs.length, by simp, Nat.zero_le _, b0, G1, (S.step s1).wk w, s.trans s1, Ex.refl _, ey⟩, ?_⟩
  rintro i m σ' H' ⟨rfl, hle, b, G', S', s', eg, ef⟩
  obtain ⟨y1, y2⟩ := yl i G' H' eg S'.m
  by_cases hlt : i < xs.length
  · right
    have ex : xs[i]? = some xs[i] := List.getElem?_eq_getElem hlt
    obtain ⟨jg, jy⟩ := y1 _ ex
    have ed : xs.drop i = xs[i] :: xs.drop (i + 1) := List.drop_eq_getElem_cons hlt
    rw [ed] at ef
    obtain ⟨z, ez, ef⟩ := bind_inv ef
    refine ⟨jg, _, fun σ2 H2 n => n, fun x H2 yy => ?_⟩
    obtain ⟨G2, s2, r2⟩ := jy x H2 yy
    refine hg b _ x H0 G2 H2 σ' (S'.step s2) r2 _ fun σ3 S3 _ => ?_
    refine hb b _ z ez H0 G0 G2 H2 σ3 S3 (s'.trans s2) _ ?_
    cases z with
    | ret r =>
      cases r with
      | rt r =>
        cases ef
        cases e
        exact FlatR.flat (W := W) (W.mono ((s1.g.trans eg).trans s2.g) k)
      | ct b' => exact fun σ4 G4 H4 S4 s4 e4 => ⟨xs.length - (i + 1), by omega, rfl, by omega, b', G4, S4, s4, (eg.trans s2.g).trans e4, ef⟩
      | bk b' =>
        cases ef
        exact fun σ4 G4 H4 S4 s4 e4 => hr b' o e H0 G0 G4 H4 σ4 S4 s4 D (k.mono (((s1.g.trans eg).trans s2.g).trans e4))
    | nx b' => exact fun σ4 G4 H4 S4 s4 e4 => ⟨xs.length - (i + 1), by omega, rfl, by omega, b', G4, S4, s4, (eg.trans s2.g).trans e4, ef⟩
  · left
    have ei : xs.length ≤ i := by omega
    refine ⟨y2 ei, ?_⟩
    rw [List.drop_eq_nil_of_le ei] at ef
    cases ef
    exact hr b o e H0 G0 G' H' σ' S' s' D (k.mono (s1.g.trans eg))
def whileF (c : δ → Option Bool) (step : δ → Option (Fl (Lp γ δ) δ)) : Nat → δ → Option (Fl γ δ)
  | 0, _ => none
  | n + 1, b => (c b).bind fun q => if q = true then (step b).bind (goC fun b' => whileF c step n b') else some (.nx b)
theorem sd_while [FlatR W] {env1 : δ → TP.Env} {tc : TT} {b0 : δ} {N : Nat} {c : δ → Option Bool} {step : δ → Option (Fl (Lp γ δ) δ)} {f : δ → Option (Fl γ β)}
    (hc : ∀ b, EvT tc (env1 b) (c b)) (w : Wk Γ (env1 b0)) (hb : ∀ b, Sd tbd (env1 b) (lW W env1) env1 (step b)) (hr : ∀ b, Sd rest (env1 b) W env (f b)) :
    Sd (tSeq (tWhile tc tbd) rest) Γ W env (thenF (whileF c step N b0) f) := fun o e H0 G0 G H σ S s D k => by
  obtain ⟨y, ey, e⟩ := bind_inv e
  refine ⟨fun m σ' H' => ∃ b G', Slots H0 G' H' σ' (env1 b) ∧ Stp G0 H0 G' H' ∧ Ex G G' ∧ whileF c step m b = some y, ⟨N, b0, G, S.wk w, s, Ex.refl _, ey⟩, ?_⟩
  rintro m σ' H' ⟨b, G', S', s', eg, ef⟩
  cases m with
  | zero => cases ef
  | succ m =>
    obtain ⟨q, ec, ef⟩ := bind_inv ef
    refine hc b q ec H0 G' H' σ' S' _ fun G1 H1 s1 => ?_
    cases q with
    | true =>
      rw [if_pos rfl] at ef
      rw [if_pos rfl]
      obtain ⟨z, ez, ef⟩ := bind_inv ef
      refine ⟨_, fun σ2 H2 n => ⟨m, Nat.lt_succ_self m, n⟩, ?_⟩
      refine hb b z ez H0 G0 G1 H1 σ' (S'.step s1) (s'.trans s1) _ ?_
      cases z with
      | ret r =>
        cases r with
        | rt r =>
          cases ef
          cases e
          exact FlatR.flat (W := W) (W.mono (eg.trans s1.g) k)
        | ct b' => exact fun σ4 G4 H4 S4 s4 e4 => ⟨b', G4, S4, s4, (eg.trans s1.g).trans e4, ef⟩
        | bk b' =>
          cases ef
          exact fun σ4 G4 H4 S4 s4 e4 => hr b' o e H0 G0 G4 H4 σ4 S4 s4 D (k.mono ((eg.trans s1.g).trans e4))
      | nx b' => exact fun σ4 G4 H4 S4 s4 e4 => ⟨b', G4, S4, s4, (eg.trans s1.g).trans e4, ef⟩
    | false =>
      rw [if_neg Bool.false_ne_true] at ef
      rw [if_neg Bool.false_ne_true]
      cases ef
      exact hr b o e H0 G0 G1 H1 σ' (S'.step s1) (s'.trans s1) D (k.mono (eg.trans s1.g))
theorem whileF_more {c : δ → Option Bool} {step : δ → Option (Fl (Lp γ δ) δ)} {y : Fl γ δ} : ∀ {n k : Nat} {b : δ}, whileF c step n b = some y → whileF c step (n + k) b = some y
  | 0, _, _, h => by cases h
  | n + 1, k, b, h => by
    obtain ⟨q, ec, ef⟩ := bind_inv h
    rw [Nat.succ_add]
    show (c b).bind _ = _
    rw [ec]
    cases q with
    | false => exact ef
    | true =>
      rw [if_pos rfl] at ef
      obtain ⟨z, ez, ef⟩ := bind_inv ef
      show (if true = true then (step b).bind (goC fun b' => whileF c step (n + k) b') else some (.nx b)) = some y
      rw [if_pos rfl, ez]
      cases z with
      | ret r =>
        cases r with
        | rt r => exact ef
        | ct b' => exact whileF_more ef
        | bk b' => exact ef
      | nx b' => exact whileF_more ef
end
end TP
set_option maxHeartbeats 2000000
namespace TP
open PySem PySem.Spec PyProof.Rows L2
def jn (G E : Hp) : Hp := fun a => match G a with
  | some o => some o
  | none => E a
theorem jn_l {G E : Hp} {a : Addr} {o : HO} (h : G a = some o) : jn G E a = some o := by unfold jn; rw [h]
theorem jn_r {G E : Hp} {a : Addr} (h : G a = none) : jn G E a = E a := by unfold jn; rw [h]
theorem jn_ex (G E : Hp) : Ex G (jn G E) := fun a o h => jn_l h
theorem jn_m {G E H : Hp} (hg : Ex G H) (he : Ex E H) : Ex (jn G E) H := fun a o h => by
  unfold jn at h
  cases q : G a with
  | some u => rw [q] at h; cases h; exact hg a _ q
  | none => rw [q] at h; exact he a o h
theorem jn_none {G E : Hp} {a : Addr} (h : G a = none) (k : E a = none) : jn G E a = none := by rw [jn_r h]; exact k
def mn (H E : Hp) : Hp := fun a => match E a with
  | some _ => none
  | none => H a
theorem mn_at {H E : Hp} {a : Addr} (h : E a = none) : mn H E a = H a := by unfold mn; rw [h]
theorem mn_on {H E : Hp} {a : Addr} (h : E a ≠ none) : mn H E a = none := by
  unfold mn
  cases q : E a with
  | some o => rfl
  | none => exact absurd q h
theorem mn_some {H E : Hp} {a : Addr} {o : HO} (h : mn H E a = some o) : E a = none ∧ H a = some o := by
  unfold mn at h
  cases q : E a with
  | some u => rw [q] at h; cases h
  | none => rw [q] at h; exact ⟨rfl, h⟩
theorem mn_ne {H E : Hp} {a : Addr} (h : mn H E a ≠ none) : E a = none ∧ H a ≠ none := by
  unfold mn at h
  cases q : E a with
  | some u => rw [q] at h; exact absurd rfl h
  | none => rw [q] at h; exact ⟨rfl, h⟩
structure OTy (α : Type) where
  rp : Hp → Hp → V → α → Prop
  mono : ∀ {G G' E : Hp} {v : V} {x : α}, Ex G G' → rp G E v x → rp G' E v x
  T : Ty α
  lend : ∀ {G E : Hp} {v : V} {x : α}, rp G E v x → (∀ a, E a ≠ none → G a = none) → T.rp (jn G E) v x
structure Rg (H0 G H : Hp) (σ : L2.St) (Γ : TP.Env) (E : Hp) : Prop where
  m : Ex E H
  n : ∀ a, E a ≠ none → G a = none ∧ H0 a = none
  o : ∀ (j : Nat) (t : Slot) (a : Addr), Γ[j]? = some t → t.isOw = true → σ[j]? = some (some (.ref a)) → E a = none
theorem Rg.step {H0 G H G' H' E : Hp} {σ : L2.St} {Γ : TP.Env} (R : Rg H0 G H σ Γ E) (s : Stp G H G' H') : Rg H0 G' H' σ Γ E :=
  ⟨R.m.trans s.h, fun a ha => ⟨s.p a (fun z => by
    cases q : E a with
    | none => exact ha q
    | some o => rw [R.m a o q] at z; cases z) (R.n a ha).1, (R.n a ha).2⟩, R.o⟩
theorem Slots.lendR {α : Type} {H0 G H E : Hp} {σ : L2.St} {Γ : TP.Env} {i : Nat} {v : V} {O : OTy α} {x : α} (S : Slots H0 G H σ Γ) (R : Rg H0 G H σ Γ E) (hv : σ[i]? = some (some v)) (hi : Γ[i]? = some .no) (r : O.rp G E v x) : Slots H0 (jn G E) H σ (Γ.set i (.pu O.T x)) := by
  have eG := jn_ex G E
  refine ⟨jn_m S.m R.m, by rw [List.length_set, S.len], fun j t hj => ?_, fun j k a t u ne hj hk ht hu ej ek => ?_⟩
  · rcases set_get hj with ⟨rfl, rfl, hl⟩ | ⟨ne, hj⟩
    · exact ⟨_, hv, v, rfl, O.lend r fun a ha => (R.n a ha).1⟩
    · obtain ⟨o, e, q⟩ := S.at_ j t hj
      refine ⟨o, e, ?_⟩
      cases t with
      | no => trivial
      | pu U y => obtain ⟨w, e1, r1⟩ := q; exact ⟨w, e1, U.mono eG r1⟩
      | ow U zs =>
        obtain ⟨b, ws, eb, hb, gb, b0, rb⟩ := q
        exact ⟨b, ws, eb, hb, jn_none gb (R.o j _ b hj rfl (by rw [e, eb])), b0, rb.mono fun _ _ q => U.mono eG q⟩
      | ob b C zs =>
        obtain ⟨dx, ws, eb, hb, gb, b0, rb⟩ := q
        exact ⟨dx, ws, eb, hb, jn_none gb (R.o j _ b hj rfl (by rw [e, eb])), b0, rb.mono eG⟩
  · rcases set_get hj with ⟨rfl, rfl, _⟩ | ⟨nj, hj⟩
    · cases ht
    · rcases set_get hk with ⟨rfl, rfl, _⟩ | ⟨nk, hk⟩
      · cases hu
      · exact S.dis j k a t u ne hj hk ht hu ej ek
theorem Stp.back {G H G2 H2 G1 : Hp} (eG : Ex G H) (s : Stp G1 H G2 H2) : Stp G H G H2 := ⟨Ex.refl _, s.h, eG.trans s.h, fun _ _ h => h⟩
theorem Slots.stepE {H0 G H G' H' E : Hp} {σ : L2.St} {Γ : TP.Env} (S : Slots H0 G H σ Γ) (R : Rg H0 G H σ Γ E) (s : Stp G (mn H E) G' H') : Slots H0 G' H' σ Γ := by
  refine ⟨s.m, S.len, fun j t hj => ?_, S.dis⟩
  obtain ⟨o, e, q⟩ := S.at_ j t hj
  refine ⟨o, e, ?_⟩
  cases t with
  | no => trivial
  | pu U y => obtain ⟨w, e1, r1⟩ := q; exact ⟨w, e1, U.mono s.g r1⟩
  | ow U zs =>
    obtain ⟨b, ws, eb, hb, gb, b0, rb⟩ := q
    have en := R.o j _ b hj rfl (by rw [e, eb])
    have hb' : mn H E b = some (.lst ws) := by rw [mn_at en]; exact hb
    exact ⟨b, ws, eb, s.h _ _ hb', s.p b (ne_none_of hb') gb, b0, rb.mono fun _ _ q => U.mono s.g q⟩
  | ob b C zs =>
    obtain ⟨dx, ws, eb, hb, gb, b0, rb⟩ := q
    have en := R.o j _ b hj rfl (by rw [e, eb])
    have hb' := mn_at (H := H) en
    rw [hb] at hb'
    exact ⟨dx, ws, eb, s.h _ _ hb', s.p b (ne_none_of hb') gb, b0, rb.mono s.g⟩
theorem Stp.transE {G0 H0 G H G' H' E : Hp} (a : Stp G0 H0 G H) (hn : ∀ x, E x ≠ none → H0 x = none) (s : Stp G (mn H E) G' H') : Stp G0 H0 G' H' :=
  have key : ∀ x, H0 x ≠ none → E x = none := fun x hx => by
    cases q : E x with
    | none => rfl
    | some o => exact absurd (hn x (ne_none_of q)) hx
  ⟨a.g.trans s.g, fun x o h => s.h x o (by rw [mn_at (key x (ne_none_of h))]; exact a.h x o h), s.m, fun x hx hg => s.p x (by
    rw [mn_at (key x hx)]
    intro z
    exact hx (a.h.non z)) (a.p x hx hg)⟩
theorem Slots.turnR {H0 G H E : Hp} {σ : L2.St} {Γ : TP.Env} {p : Addr} {o : HO} (S : Slots H0 G H σ Γ) (R : Rg H0 G H σ Γ E) (hp : E p ≠ none) : Slots H0 G (upd H p o) σ Γ := by
  refine ⟨S.m.right (R.n p hp).1, S.len, fun j t hj => ?_, S.dis⟩
  obtain ⟨u, e, q⟩ := S.at_ j t hj
  refine ⟨u, e, ?_⟩
  have ne : ∀ b, t.isOw = true → u = some (.ref b) → b ≠ p := fun b ht eb z => hp (by rw [← z]; exact R.o j t b hj ht (by rw [e, eb]))
  cases t with
  | no => trivial
  | pu U y => exact q
  | ow U zs =>
    obtain ⟨b, ws, eb, hb, gb, b0, rb⟩ := q
    exact ⟨b, ws, eb, by rw [upd_ne (ne b rfl eb)]; exact hb, gb, b0, rb⟩
  | ob b C zs =>
    obtain ⟨dx, ws, eb, hb, gb, b0, rb⟩ := q
    exact ⟨dx, ws, eb, by rw [upd_ne (ne b rfl eb)]; exact hb, gb, b0, rb⟩
theorem Rg.turn {H0 G H E : Hp} {σ : L2.St} {Γ : TP.Env} {p : Addr} {o : HO} (R : Rg H0 G H σ Γ E) (hp : E p ≠ none) : Rg H0 G (upd H p o) σ Γ (upd E p o) := by
  have dom : ∀ a, upd E p o a ≠ none → E a ≠ none := fun a ha => by
    by_cases q : a = p
    · rw [q]; exact hp
    · rw [upd_ne q] at ha; exact ha
  refine ⟨R.m.both, fun a ha => R.n a (dom a ha), fun j t a hj ht ea => ?_⟩
  have := R.o j t a hj ht ea
  have ne : a ≠ p := fun z => hp (by rw [← z]; exact this)
  rw [upd_ne ne]
  exact this
section
variable {α β γ δ ι κ : Type} {te ta : TE} {Γ : TP.Env} {T : Ty α} {env : β → TP.Env} {rest t u tbd : TS} {W : Rt γ} {O : OTy α} {K : PySem.W.Frag}
def EvR (te : TE) (Γ : TP.Env) (O : OTy α) (m : Option α) : Prop :=
  ∀ x, m = some x → ∀ H0 G H σ, Slots H0 G H σ Γ → ∀ Q : VK, (∀ v G' H' E, Stp G H G' H' → Ex E H' → (∀ a, E a ≠ none → G' a = none ∧ H a = none) → O.rp G' E v x → Q v H') → te σ H Q
theorem EvR.ev {m : Option α} (h : EvR te Γ O m) : Ev te Γ O.T m := fun x e H0 G H σ S Q q =>
  h x e H0 G H σ S Q fun v G' H' E s hE hn r =>
    q v (jn G' E) H' ⟨s.g.trans (jn_ex G' E), s.h, jn_m s.m hE, fun a ha hg => jn_none (s.p a ha hg) (by
      cases z : E a with
      | none => rfl
      | some o => exact absurd (hn a (ne_none_of z)).2 ha)⟩ (O.lend r fun a ha => (hn a ha).1)
def SdT (O : OTy α) (i : Nat) (x : α) (ts : TS) (Γ : TP.Env) (W : Rt γ) (env : β → TP.Env) (m : Option (Fl γ β)) : Prop :=
  ∀ o, m = some o → ∀ H0 G0 G H σ E v, Slots H0 G H σ Γ → Stp G0 H0 G H → Rg H0 G H σ Γ E → σ[i]? = some (some v) → O.rp G E v x → ∀ D : Ends, FlOk D W env H0 G0 G o → ts D σ H
theorem sdt_drop {i : Nat} {x : α} {ts : TS} {m : Option (Fl γ β)} (h : Sd ts Γ W env m) : SdT O i x ts Γ W env m :=
  fun o e H0 G0 G H σ E v S s R hv r D k => h o e H0 G0 G H σ S s D k
theorem sd_asgR {i : Nat} {m : Option α} {f : α → Option (Fl γ β)} (hi : i < Γ.length) (h : EvR te Γ O m) (hr : ∀ x, SdT O i x rest (Γ.set i .no) W env (f x)) : Sd (tSeq (tAsg te (gName i)) rest) Γ W env (m.bind f) := fun o e H0 G0 G H σ S s D k => by
  obtain ⟨x, ea, e⟩ := bind_inv e
  refine h x ea H0 G H σ S _ fun v G1 H1 E s1 hE hn r1 => ?_
  have S1 := S.step s1
  have S2 : Slots H0 G1 H1 (σ.set i (some v)) (Γ.set i .no) := by
    refine ⟨S1.m, by rw [List.length_set, List.length_set, S1.len], fun j t hj => ?_, fun j k a t u ne hj hk ht hu ej ek => ?_⟩
    · rcases set_get hj with ⟨rfl, rfl, hl⟩ | ⟨ne, hj⟩
      · exact ⟨some v, List.getElem?_set_self (by rw [S1.len]; exact hl), trivial⟩
      · obtain ⟨o, e, q⟩ := S1.at_ j t hj
        exact ⟨o, by rw [List.getElem?_set_ne ne]; exact e, q⟩
    · rcases set_get hj with ⟨rfl, rfl, _⟩ | ⟨nj, hj⟩
      · cases ht
      · rcases set_get hk with ⟨rfl, rfl, _⟩ | ⟨nk, hk⟩
        · cases hu
        · rw [List.getElem?_set_ne nj] at ej
          rw [List.getElem?_set_ne nk] at ek
          exact S1.dis j k a t u ne hj hk ht hu ej ek
  have R : Rg H0 G1 H1 (σ.set i (some v)) (Γ.set i .no) E := ⟨hE, fun a ha => ⟨(hn a ha).1, s.h.non (hn a ha).2⟩, fun j t a hj ht ej => by
    rcases set_get hj with ⟨rfl, rfl, _⟩ | ⟨nj, hj⟩
    · cases ht
    · rw [List.getElem?_set_ne nj] at ej
      obtain ⟨o, eo, q⟩ := S.at_ j t hj
      obtain ⟨b, eb, hb, _⟩ := Slot.own q ht
      rw [ej] at eo
      have e2 := Option.some.inj eo
      rw [eb] at e2
      have e3 : a = b := by cases e2; rfl
      cases z : E a with
      | none => rfl
      | some o => exact absurd (hn a (ne_none_of z)).2 (by rw [e3]; exact hb)⟩
  exact hr x o e H0 G0 G1 H1 _ E v S2 (s.trans s1) R (List.getElem?_set_self (by rw [S.len]; exact hi)) r1 D (k.mono s1.g)
theorem sdt_if {i : Nat} {x : α} {c : L2.TT} {mc : Option Bool} {mr : Option γ} {f : δ → Option (Fl γ β)} {d : δ} {env1 : δ → TP.Env} (hi : Γ[i]? = some .no) (hc : EvT c (Γ.set i (.pu O.T x)) mc) (hA : Sd t Γ W env1 (rtF mr)) (hr : SdT O i x rest Γ W env (f d)) :
    SdT O i x (tSeq (tIfS c t tNext) rest) Γ W env (thenF (mIf mc (rtF mr) (some (.nx d))) f) := fun o e H0 G0 G H σ E v S s R hv r D k => by
  obtain ⟨y, ea, e⟩ := bind_inv e
  obtain ⟨b, ec, eb⟩ := bind_inv ea
  refine hc b ec H0 (jn G E) H σ (S.lendR R hv hi r) _ fun G1 H1 s1 => ?_
  have sb := Stp.back S.m s1
  have S1 := S.step sb
  have s01 := s.trans sb
  cases b with
  | true =>
    rw [if_pos rfl] at eb ⊢
    refine hA y eb H0 G0 G H1 σ S1 s01 _ ?_
    cases y with
    | ret r => cases e; exact k
    | nx d' =>
      obtain ⟨_, _, eb⟩ := bind_inv eb
      cases eb
  | false =>
    rw [if_neg Bool.false_ne_true] at eb ⊢
    cases eb
    exact hr o e H0 G0 G H1 σ E v S1 s01 (R.step sb) hv r D k
theorem sdt_asgN {i j : Nat} {x : α} {U : Ty ι} {m : Option (List ι)} {f : List ι → Option (Fl γ β)} (hi : Γ[i]? = some .no) (hij : i ≠ j) (hj : j < Γ.length) (hU : Flat U) (h : EvN te (Γ.set i (.pu O.T x)) U m) (hr : ∀ ys, SdT O i x rest (Γ.set j (.ow U ys)) W env (f ys)) :
    SdT O i x (tSeq (tAsg te (gName j)) rest) Γ W env (m.bind f) := fun o e H0 G0 G H σ E v S s R hv r D k => by
  obtain ⟨ys, ea, e⟩ := bind_inv e
  refine h ys ea H0 (jn G E) H σ (S.lendR R hv hi r) _ fun p vs G1 H1 s1 hn hg hp r1 => ?_
  have sb := Stp.back S.m s1
  have S1 := S.step sb
  have gp : G p = none := S.m.non hn
  have h0 : H0 p = none := s.h.non hn
  have ep : E p = none := R.m.non hn
  have S2 : Slots H0 G H1 (σ.set j (some (.ref p))) (Γ.set j (.ow U ys)) := by
    refine ⟨S1.m, by rw [List.length_set, List.length_set, S1.len], fun l t hl => ?_, fun l k a t u ne hl hk ht hu el ek => ?_⟩
    · rcases set_get hl with ⟨rfl, rfl, _⟩ | ⟨ne, hl⟩
      · exact ⟨some (.ref p), List.getElem?_set_self (by rw [S1.len]; exact hj), p, vs, rfl, hp, gp, h0, r1.mono fun _ _ q => hU _ _ _ _ q⟩
      · obtain ⟨o, e, q⟩ := S1.at_ l t hl
        exact ⟨o, by rw [List.getElem?_set_ne ne]; exact e, q⟩
    · have key : ∀ (m : Nat) (t : Slot), Γ[m]? = some t → t.isOw = true → σ[m]? = some (some (.ref p)) → False := fun m t hm ht em => by
        obtain ⟨o, eo, q⟩ := S.at_ m t hm
        obtain ⟨b, e, hb, _⟩ := Slot.own q ht
        rw [em] at eo
        have := Option.some.inj eo
        rw [e] at this
        have e2 : p = b := by cases this; rfl
        exact hb (by rw [← e2, hn])
      rcases set_get hl with ⟨rfl, rfl, _⟩ | ⟨nl, hl⟩
      · rcases set_get hk with ⟨rfl, _, _⟩ | ⟨nk, hk⟩
        · exact ne rfl
        · rw [List.getElem?_set_self (by rw [S1.len]; exact hj)] at el
          have e2 : p = a := by cases el; rfl
          rw [List.getElem?_set_ne nk] at ek
          exact key k u hk hu (by rw [e2]; exact ek)
      · rcases set_get hk with ⟨rfl, rfl, _⟩ | ⟨nk, hk⟩
        · rw [List.getElem?_set_self (by rw [S1.len]; exact hj)] at ek
          have e2 : p = a := by cases ek; rfl
          rw [List.getElem?_set_ne nl] at el
          exact key l t hl ht (by rw [e2]; exact el)
        · rw [List.getElem?_set_ne nl] at el
          rw [List.getElem?_set_ne nk] at ek
          exact S1.dis l k a t u ne hl hk ht hu el ek
  have R1 := R.step sb
  have R2 : Rg H0 G H1 (σ.set j (some (.ref p))) (Γ.set j (.ow U ys)) E := ⟨R1.m, R1.n, fun l t a hl ht el => by
    rcases set_get hl with ⟨rfl, rfl, _⟩ | ⟨nl, hl⟩
    · rw [List.getElem?_set_self (by rw [S1.len]; exact hj)] at el
      have e2 : p = a := by cases el; rfl
      rw [← e2]; exact ep
    · rw [List.getElem?_set_ne nl] at el
      exact R1.o l t a hl ht el⟩
  exact hr ys o e H0 G0 G H1 _ E v S2 (s.trans sb) R2 (by rw [List.getElem?_set_ne (Ne.symm hij)]; exact hv) r D k
def spR (A : ATy β) (O : OTy α) (f : β → Option α) : Sp := fun vs H Q _ => ∃ p r G, f p = some r ∧ Ex G H ∧ A.rp G vs p ∧ ∀ v G' H' E, Stp G H G' H' → Ex E H' → (∀ a, E a ≠ none → G' a = none ∧ H a = none) → O.rp G' E v r → Q v H'
theorem evr_call {ta : TA} {A : ATy β} {f : β → Option α} {mp : Option β} {E : XK} (h : EvA ta Γ A mp) : EvR (tCall (spR A O f) [] E ta) Γ O (mp.bind f) := fun z e H0 G H σ S Q q => by
  obtain ⟨x, ea, ef⟩ := bind_inv e
  refine h x ea H0 G H σ S _ fun vs G1 H1 s1 r1 => ⟨x, z, G1, ef, s1.m, by rw [List.append_nil]; exact r1, fun v G2 H2 E2 s2 hE hn r2 => q v G2 H2 E2 (s1.trans s2) hE (fun a ha => ⟨(hn a ha).1, s1.h.non (hn a ha).2⟩) r2⟩
def trR (O : OTy α) : Rt α := ⟨fun rt _ _ H0 G0 _ r => ∀ v G H E, Stp G0 H0 G H → Ex E H → (∀ a, E a ≠ none → G a = none ∧ H0 a = none) → O.rp G E v r → rt v H, fun _ h => h⟩
instance : FlatR (trR O) := ⟨fun h => h⟩
def spT (O : OTy α) (T : Ty γ) (f : α × Unit → Option γ) : Sp := fun vs H Q _ => ∃ x r G E v, f (x, ()) = some r ∧ vs = [v] ∧ Ex G H ∧ Ex E H ∧ (∀ a, E a ≠ none → G a = none) ∧ O.rp G E v x ∧ ∀ w G' H', Stp G (mn H E) G' H' → T.rp G' w r → Q w H'
theorem sdt_ifTake {i : Nat} {x : α} {cA cB : L2.TT} {mA mB : Option Bool} {g : α × Unit → Option Bool} {m1 : Option (Fl γ δ)} {f : δ → Option (Fl γ β)} {d : δ} {env1 : δ → TP.Env} {EE : XK} (hi : Γ[i]? = some .no) (hA : EvT cA (Γ.set i (.pu O.T x)) mA) (hB : EvT cB (Γ.set i (.pu O.T x)) mB) (h1 : Sd t Γ W env1 m1) (hw : Wk Γ (env1 d)) (hr : ∀ b, Sd rest (env1 b) W env (f b)) :
    SdT O i x (tSeq (tIfS (L2.tOr cA (L2.tOr cB (L2.tNot (L2.tB (tCall (spT O tyB g) [] EE (tCons (tVar i) tNil)))))) t tNext) rest) Γ W env (thenF (mIf (mOr mA (mOr mB (mNot ((aPair (some x) (some ())).bind g)))) m1 (some (.nx d))) f) := fun o e H0 G0 G H σ E v S s R hv r D k => by
  obtain ⟨y, ea, e⟩ := bind_inv e
  obtain ⟨b, ec, eb⟩ := bind_inv ea
  obtain ⟨bA, eA, ec⟩ := bind_inv ec
  -- what is done behind the test
  have fin : ∀ (b : Bool) (G2 H2 : Hp), Slots H0 G2 H2 σ Γ → Stp G0 H0 G2 H2 → Ex G G2 → (if b = true then m1 else some (Fl.nx d)) = some y → (if b = true then t { D with nx := rest D } σ H2 else tNext { D with nx := rest D } σ H2) := fun b G2 H2 S2 s2 e2 eb => by
    cases b with
    | true =>
      rw [if_pos rfl] at eb ⊢
      refine h1 y eb H0 G0 G2 H2 σ S2 s2 _ ?_
      cases y with
      | ret r => cases e; exact W.mono e2 k
      | nx d' => exact fun σ2 G3 H3 S3 s3 e3 => hr d' o e H0 G0 G3 H3 σ2 S3 s3 D (k.mono (e2.trans e3))
    | false =>
      rw [if_neg Bool.false_ne_true] at eb ⊢
      cases eb
      exact hr d o e H0 G0 G2 H2 σ (S2.wk hw) s2 D (k.mono e2)
  refine hA bA eA H0 (jn G E) H σ (S.lendR R hv hi r) _ fun G1 H1 s1 => ?_
  have sb := Stp.back S.m s1
  have S1 := S.step sb
  have s01 := s.trans sb
  have R1 := R.step sb
  cases bA with
  | true =>
    rw [if_pos rfl] at ec ⊢
    cases ec
    exact fin true G H1 S1 s01 (Ex.refl _) eb
  | false =>
    rw [if_neg Bool.false_ne_true] at ec ⊢
    obtain ⟨bB, eB, ec⟩ := bind_inv ec
    refine hB bB eB H0 (jn G E) H1 σ (S1.lendR R1 hv hi r) _ fun G2 H2 s2 => ?_
    have sb2 := Stp.back S1.m s2
    have S2 := S1.step sb2
    have s02 := s01.trans sb2
    have R2 := R1.step sb2
    cases bB with
    | true =>
      rw [if_pos rfl] at ec ⊢
      cases ec
      exact fin true G H2 S2 s02 (Ex.refl _) eb
    | false =>
      rw [if_neg Bool.false_ne_true] at ec ⊢
      obtain ⟨bC, eC, ec⟩ := bind_inv ec
      cases ec
      refine ⟨v, hv, ?_⟩
      refine ⟨x, bC, G, E, v, eC, rfl, S2.m, R2.m, fun a ha => (R2.n a ha).1, r, fun w G3 H3 s3 rw3 => ⟨bC, rw3, ?_⟩⟩
      exact fin (!bC) G3 H3 (S2.stepE R2 s3) (s02.transE (fun a ha => (R2.n a ha).2) s3) s3.g eb
end
end TP
set_option maxHeartbeats 2000000
namespace TP
open PySem PySem.Spec PyProof.Rows L2
section
variable {α β γ δ ι κ : Type} {te ta te0 te2 : TE} {Γ : TP.Env} {T : Ty α} {env : β → TP.Env} {rest t u tbd : TS} {W : Rt γ} {K : PySem.W.Frag}
def mLenH (n : Nat) (_ : β × Unit) : Option Int := some (n : Int)
@[simp] theorem mLenH_ (n : Nat) (x : β × Unit) : mLenH n x = some (n : Int) := rfl
theorem cv_lenH {A : ATy β} {n : Nat} (hn : A.n = n) : CallV (rLenQ K) (aC (tyH K A) aN) tyI (mLenH n) := fun p z e G H vs eG r Q q => by
  cases e
  obtain ⟨v, rfl, a, ws, rfl, ha, rr⟩ := one_arg r
  exact ⟨a, ws, rfl, .inr (SqT.mono eG ha), by rw [A.len rr, hn]; exact q _ G H (Stp.refl eG) rfl⟩
theorem cv_lenHL {A : ATy β} {n : Nat} (hn : A.n = n) : CallV (rLenQ K) (aC (tyHL A) aN) tyI (mLenH n) := fun p z e G H vs eG r Q q => by
  cases e
  obtain ⟨v, rfl, a, ws, rfl, ha, rr⟩ := one_arg r
  exact ⟨a, ws, rfl, .inl (SqL.of (eG _ _ ha)), by rw [A.len rr, hn]; exact q _ G H (Stp.refl eG) rfl⟩
theorem ints_all {G : Hp} : ∀ {vs : List V} {xs : List Int}, All2 (tyI.rp G) vs xs → vs = xs.map V.int
  | [], [], _ => rfl
  | v :: vs, x :: xs, h => by
    have h1 : v = .int x := h.1
    rw [h1, ints_all h.2, List.map_cons]
  | [], _ :: _, h => h.elim
  | _ :: _, [], h => h.elim
theorem all_ints (G : Hp) : ∀ xs : List Int, All2 (tyI.rp G) (xs.map V.int) xs
  | [] => trivial
  | x :: xs => ⟨rfl, all_ints G xs⟩
def li (xs : List Int) : HO := .lst (xs.map V.int)
abbrev M3 := List Int × List Int × List Int × Unit
def o3 (K : PySem.W.Frag) : OTy M3 := ⟨fun G E v x => ∃ t a b c, v = .ref t ∧ SqT K G t [.ref a, .ref b, .ref c] ∧ a ≠ b ∧ a ≠ c ∧ b ≠ c ∧ E a = some (li x.1) ∧ E b = some (li x.2.1) ∧ E c = some (li x.2.2.1),
  fun e ⟨t, a, b, c, h1, h2, h3⟩ => ⟨t, a, b, c, h1, SqT.mono e h2, h3⟩,
  tyH K (aC (tyL tyI) (aC (tyL tyI) (aC (tyL tyI) aN))),
  fun {G E v x} h hn => by
    obtain ⟨t, a, b, c, h1, h2, _, _, _, ha, hb, hc⟩ := h
    have one : ∀ {q : Addr} {ys : List Int}, E q = some (li ys) → (tyL tyI).rp (jn G E) (.ref q) ys := fun {q ys} e => ⟨q, _, rfl, by rw [jn_r (hn q (ne_none_of e))]; exact e, all_ints _ ys⟩
    exact ⟨t, _, h1, SqT.mono (jn_ex G E) h2, _, _, rfl, one ha, _, _, rfl, one hb, _, _, rfl, one hc, rfl⟩⟩
theorem sd_retT3 {j : Nat} {ys : List Int} {m0 m2 : Option (List Int)} {k : List Bool} (h0 : EvN te0 Γ tyI m0) (hj : Γ[j]? = some (.ow tyI ys)) (h2 : EvN te2 (Γ.set j .no) tyI m2) (hw : maskE Γ k = Γ.set j .no) :
    Sd (tSeq (tRet (tTup (tCons te0 (tCons (tVar j) (tCons te2 tNil))))) rest) Γ (trR (o3 K)) env (rtF (aPair m0 (aPair (some ys) (aPair m2 (some ()))))) := fun o e H0 G0 G H σ S s D kk => by
  obtain ⟨r, ea, e⟩ := bind_inv e
  cases e
  obtain ⟨xs, e0, ea⟩ := bind_inv ea
  obtain ⟨q, eq, ea⟩ := bind_inv ea
  cases ea
  obtain ⟨y', ey, eq⟩ := bind_inv eq
  cases ey
  obtain ⟨q2, e2, eq⟩ := bind_inv eq
  cases eq
  obtain ⟨zs, ez, e2⟩ := bind_inv e2
  obtain ⟨u0, eu, e2⟩ := bind_inv e2
  cases e2
  obtain ⟨a, ws, ep, ha, hg, ha0, r1⟩ := own_at S hj
  refine h0 xs e0 H0 G H σ S _ fun p vs G1 H1 s1 hn1 hg1 hp1 rx => ?_
  refine ⟨.ref a, ep, ?_⟩
  have S1 := (S.step s1).wk (wk_m k hw)
  refine h2 zs ez H0 G1 H1 σ S1 _ fun p2 us G2 H2 s2 hn2 hg2 hp2 rz => ?_
  have ha1 := s1.h _ _ ha
  have hga1 := s1.p a (ne_none_of ha) hg
  have ha2 := s2.h _ _ ha1
  have hga2 := s2.p a (ne_none_of ha1) hga1
  have hp1' := s2.h _ _ hp1
  have hg1' := s2.p p (ne_none_of hp1) hg1
  have npa : p ≠ a := fun z => by rw [z, ha] at hn1; cases hn1
  have np2 : p ≠ p2 := fun z => by rw [← z, hp1] at hn2; cases hn2
  have na2 : a ≠ p2 := fun z => by rw [← z, ha1] at hn2; cases hn2
  refine ⟨by show 3 ≤ _; decide, fun q hq => ?_⟩
  have sn := Stp.new (o := .tup [.ref p, .ref a, .ref p2]) s2.m hq
  have nqp : p ≠ q := fun z => by rw [z, hq] at hp1'; cases hp1'
  have nqa : a ≠ q := fun z => by rw [z, hq] at ha2; cases ha2
  have nq2 : p2 ≠ q := fun z => by rw [z, hq] at hp2; cases hp2
  have ex := ints_all rx
  have ey := ints_all r1
  have ez2 := ints_all rz
  subst ex; subst ey; subst ez2
  have at1 : ∀ b, upd (upd (upd (fun _ => none) p (li xs)) a (li ys)) p2 (li zs) b ≠ none → b = p ∨ b = a ∨ b = p2 := fun b hb => by
    by_cases c1 : b = p2
    · exact .inr (.inr c1)
    · rw [upd_ne c1] at hb
      by_cases c2 : b = a
      · exact .inr (.inl c2)
      · rw [upd_ne c2] at hb
        by_cases c3 : b = p
        · exact .inl c3
        · rw [upd_ne c3] at hb; exact absurd rfl hb
  have va : upd (upd (upd (fun _ => none) p (li xs)) a (li ys)) p2 (li zs) a = some (li ys) := by rw [upd_ne na2, upd_same]
  have vp : upd (upd (upd (fun _ => none) p (li xs)) a (li ys)) p2 (li zs) p = some (li xs) := by rw [upd_ne np2, upd_ne npa, upd_same]
  refine kk (.ref q) _ _ (upd (upd (upd (fun _ => none) p (li xs)) a (li ys)) p2 (li zs)) ((s.trans (s1.trans s2)).trans sn) (fun b o hb => ?_) (fun b hb => ?_) ⟨q, p, a, p2, rfl, SqT.of upd_same, npa, np2, na2, vp, va, upd_same⟩
  · rcases at1 b (ne_none_of hb) with rfl | rfl | rfl
    · rw [vp] at hb; cases hb; rw [upd_ne nqp]; exact hp1'
    · rw [va] at hb; cases hb; rw [upd_ne nqa]; exact ha2
    · rw [upd_same] at hb; cases hb; rw [upd_ne nq2]; exact hp2
  · rcases at1 b hb with rfl | rfl | rfl
    · exact ⟨by rw [upd_ne nqp]; exact hg1', s.h.non hn1⟩
    · exact ⟨by rw [upd_ne nqa]; exact hga2, ha0⟩
    · exact ⟨by rw [upd_ne nq2]; exact hg2, s.h.non (s1.h.non hn2)⟩
theorem sdt_app3 {i : Nat} {x : M3} {k : Nat} {ys : List Int} {up : List Int → M3} {m : Option Int} {f : Int → Option (Fl γ β)}
    (hk : (k = 0 ∧ ys = x.1 ∧ up = fun z => (z, x.2.1, x.2.2.1, ())) ∨ (k = 1 ∧ ys = x.2.1 ∧ up = fun z => (x.1, z, x.2.2.1, ())) ∨ (k = 2 ∧ ys = x.2.2.1 ∧ up = fun z => (x.1, x.2.1, z, ())))
    (h : Ev te Γ tyI m) (hr : ∀ y, SdT (o3 K) i (up (ys ++ [y])) rest Γ W env (f y)) :
    SdT (o3 K) i x (tSeq (tDrop (tBM K "list" rAppend (tOp (rIxT K) (tVar i) (tC (.int (k : Nat)))) (tCons te tNil))) rest) Γ W env (m.bind fun y => if ys.length ≤ lim then f y else none) := fun o e H0 G0 G H σ E v S s R hv r D kk => by
  obtain ⟨y, ea, e⟩ := bind_inv e
  by_cases cl : ys.length ≤ lim
  case neg => rw [if_neg cl] at e; cases e
  rw [if_pos cl] at e
  obtain ⟨t, a, b, c, rfl, ht, nab, nac, nbc, ha, hb, hc⟩ := r
  have main : ∀ (p : Addr), E p = some (li ys) → [V.ref a, V.ref b, V.ref c][k]? = some (.ref p) → (∀ z G', Ex G G' → (o3 K).rp G' (upd E p (li z)) (.ref t) (up z)) → tSeq (tDrop (tBM K "list" rAppend (tOp (rIxT K) (tVar i) (tC (.int (k : Nat)))) (tCons te tNil))) rest D σ H := fun p hp hix hup => by
    refine ⟨.ref t, hv, t, [.ref a, .ref b, .ref c], (k : Int), .ref p, rfl, rfl, SqT.mono S.m ht, atI_nat (j := k) hix, ?_⟩
    have hH := R.m _ _ hp
    refine ⟨.inl ⟨rfl, _, SqL.of hH⟩, ?_⟩
    refine h y ea H0 G H σ S _ fun w G1 H1 s1 r1 => ?_
    cases r1
    have hH1 := s1.h _ _ hH
    have S1 := S.step s1
    have R1 := R.step s1
    have hne := ne_none_of hp
    refine ⟨p, ys.map V.int, .int y, rfl, rfl, hH1, by rw [List.length_map]; exact lim_lt cl, ?_⟩
    have e2 : (HO.lst (ys.map V.int ++ [V.int y])) = li (ys ++ [y]) := by unfold li; rw [List.map_append]; rfl
    rw [e2]
    exact hr y o e H0 G0 G1 _ σ (upd E p (li (ys ++ [y]))) (.ref t) (S1.turnR R1 hne) ((s.trans s1).turn (R1.n p hne).2 (R1.n p hne).1) (R1.turn hne) hv (hup _ _ s1.g) D (kk.mono s1.g)
  rcases hk with ⟨rfl, rfl, rfl⟩ | ⟨rfl, rfl, rfl⟩ | ⟨rfl, rfl, rfl⟩
  · exact main a ha rfl fun z G' e => ⟨t, a, b, c, rfl, SqT.mono e ht, nab, nac, nbc, upd_same, by rw [upd_ne (Ne.symm nab)]; exact hb, by rw [upd_ne (Ne.symm nac)]; exact hc⟩
  · exact main b hb rfl fun z G' e => ⟨t, a, b, c, rfl, SqT.mono e ht, nab, nac, nbc, by rw [upd_ne nab]; exact ha, upd_same, by rw [upd_ne (Ne.symm nbc)]; exact hc⟩
  · exact main c hc rfl fun z G' e => ⟨t, a, b, c, rfl, SqT.mono e ht, nab, nac, nbc, by rw [upd_ne nac]; exact ha, by rw [upd_ne nbc]; exact hb, upd_same⟩
end
section
variable {α β γ δ ι : Type} {K : PySem.W.Frag} {P : Program} {w : World} {mg : Str → Option Value} {base : Heap}
theorem ok_R {x qual : Str} {params : Arguments} {body : List Stmt} {scope : Scope} {fa : Addr} {N ps : List Str} {k : Nat} {A : ATy β} {O : OTy γ} {f : β → Option γ} {sl : β → TP.Env} (F : ∃ fd, FunD K x qual params body scope [] [] fa fd) (S : FnScope N ps scope) (hs : ASl A sl) (hn : A.n = ps.length) (hN : A.n ≤ N.length)
    (hb : ∀ (kV doc pm : Value) (an : Option Addr) (cdv ct : Value) (us : List Value), us.length = ps.length → bindArgs (PySem.W.fnOf x qual params body scope .none kV doc pm an cdv ct) ⟨us, []⟩ = pure (ps.zip us))
    (h : ∀ (cdv : Value) (Ar : Around) (outer : List PySem.Env) (s : Shared) (H : Hp) (E : XK), Room k (Ar.deeper (envOfC qual scope s.heap.objs.size fa cdv)) →
      ∃ t, PSs (cxOf CX0 P w K mg base N qual scope fa cdv Ar outer s H E).nox body t ∧ ∀ p, ∃ m : Option (Fl γ Unit), f p = outF m ∧ Sd t (sl p ++ List.replicate (N.length - A.n) .no) (trR O) (noE N.length) m) :
    Ok P w K mg base (k + 1) fa ps (spR A O f) := by
  obtain ⟨fd, F⟩ := F
  refine ⟨⟨fd, F.ok S (fun vs H Q E q => ?_) (fun cdv Ar outer s H vs Q E hr q => ?_), F.bindsN hb, FunD.lk F⟩, F.kp⟩
  · obtain ⟨p, r, G, _, _, ra, _⟩ := q
    rw [A.len ra, hn]
  · obtain ⟨p, r, G, ef, eG, ra, q⟩ := q
    obtain ⟨t, d, m⟩ := h cdv Ar outer s H E hr
    refine ⟨t, d.nox, ?_⟩
    obtain ⟨m, em, sd⟩ := m p
    rw [em] at ef
    obtain ⟨o, eo, e⟩ := bind_inv ef
    refine sd o eo H G G H _ (start_slots hs ra eG hN) (Stp.refl eG) _ ?_
    cases o with
    | ret r' =>
      cases e
      exact fun v G' H' E' s' hE hn rv => q v G' H' E' s' hE hn rv
    | nx b => cases e
theorem ok_T {x qual p0 : Str} {params : Arguments} {body : List Stmt} {scope : Scope} {fa : Addr} {N : List Str} {k : Nat} {O : OTy α} {T : Ty γ} {f : α × Unit → Option γ} (F : ∃ fd, FunD K x qual params body scope [] [] fa fd) (S : FnScope N [p0] scope) (hN : 1 ≤ N.length)
    (hb : ∀ (kV doc pm : Value) (an : Option Addr) (cdv ct : Value) (us : List Value), us.length = [p0].length → bindArgs (PySem.W.fnOf x qual params body scope .none kV doc pm an cdv ct) ⟨us, []⟩ = pure ([p0].zip us))
    (h : ∀ (cdv : Value) (Ar : Around) (outer : List PySem.Env) (s : Shared) (H : Hp) (E : XK), Room k (Ar.deeper (envOfC qual scope s.heap.objs.size fa cdv)) →
      ∃ t, PSs (cxOf CX0 P w K mg base N qual scope fa cdv Ar outer s H E).nox body t ∧ ∀ p : α × Unit, ∃ m : Option (Fl γ Unit), f p = outF m ∧ SdT O 0 p.1 t (List.replicate N.length .no) (pureR T) (noE N.length) m) :
    Ok P w K mg base (k + 1) fa [p0] (spT O T f) := by
  obtain ⟨fd, F⟩ := F
  refine ⟨⟨fd, F.ok S (fun vs H Q E q => ?_) (fun cdv Ar outer s H vs Q E hr q => ?_), F.bindsN hb, FunD.lk F⟩, F.kp⟩
  · obtain ⟨x, r, G, E1, v, _, rfl, _⟩ := q
    rfl
  · obtain ⟨x, r, G, E1, v, ef, rfl, eG, eE, hn, rx, q⟩ := q
    obtain ⟨t, d, m⟩ := h cdv Ar outer s H E hr
    refine ⟨t, d.nox, ?_⟩
    obtain ⟨m, em, sd⟩ := m (x, ())
    rw [em] at ef
    obtain ⟨o, eo, e⟩ := bind_inv ef
    have slen : (L2.start N [v]).length = N.length := by
      unfold L2.start
      rw [List.length_append, List.length_map, List.length_replicate, List.length_singleton]
      omega
    have no : ∀ (i : Nat) (t : Slot), (List.replicate N.length Slot.no)[i]? = some t → t = .no := fun i t ht => (List.mem_replicate.mp (List.mem_of_getElem? ht)).2
    have Sl : Slots (mn H E1) G H (L2.start N [v]) (List.replicate N.length .no) := by
      refine ⟨eG, by rw [slen, List.length_replicate], fun i t ht => ?_, fun i j a t u ne hi hj ht hu _ _ => ?_⟩
      · have hlt := (List.getElem?_eq_some_iff.mp ht).1
        rw [List.length_replicate] at hlt
        rw [no i t ht]
        exact ⟨_, List.getElem?_eq_getElem (by rw [slen]; exact hlt), trivial⟩
      · rw [no i t hi] at ht; cases ht
    refine sd o eo (mn H E1) G G H _ E1 v Sl ⟨Ex.refl _, fun a o h => (mn_some h).2, eG, fun a _ h => h⟩ ⟨eE, fun a ha => ⟨hn a ha, mn_on ha⟩, fun j t a hj ht _ => by rw [no j t hj] at ht; cases ht⟩ ?_ rx _ ?_
    · unfold L2.start; rfl
    · cases o with
      | ret r' => cases e; exact fun w G' H' s' rv => q w G' H' s' rv
      | nx b => cases e
end
end TP
set_option maxHeartbeats 2000000
namespace TP
open PySem PySem.Spec PyProof.Rows L2
structure RA where
  at_ : Hp → Hp → L2.St → Prop
  vs : List Nat
  mono : ∀ {G G' E : Hp} {σ : L2.St}, Ex G G' → at_ G E σ → at_ G' E σ
  fr : ∀ {G E : Hp} {σ σ' : L2.St}, (∀ i ∈ vs, σ'[i]? = σ[i]?) → at_ G E σ → at_ G E σ'
theorem RA.set {A : RA} {G E : Hp} {σ : L2.St} {k : Nat} {v : Option V} (hk : k ∉ A.vs) (h : A.at_ G E σ) : A.at_ G E (σ.set k v) :=
  A.fr (fun i hi => List.getElem?_set_ne fun z => hk (by rw [z]; exact hi)) h
def raO {α : Type} (O : OTy α) (i : Nat) (x : α) : RA := ⟨fun G E σ => ∃ v, σ[i]? = some (some v) ∧ O.rp G E v x, [i],
  fun e ⟨v, h1, h2⟩ => ⟨v, h1, O.mono e h2⟩, fun hf ⟨v, h1, h2⟩ => ⟨v, by rw [hf i List.mem_cons_self]; exact h1, h2⟩⟩
def Lends (A : RA) (Γ Γ' : TP.Env) : Prop := ∀ H0 G H σ E, Slots H0 G H σ Γ → Rg H0 G H σ Γ E → A.at_ G E σ → Slots H0 (jn G E) H σ Γ'
theorem Slots.jn {H0 G H E : Hp} {σ : L2.St} {Γ : TP.Env} (S : Slots H0 G H σ Γ) (R : Rg H0 G H σ Γ E) : Slots H0 (jn G E) H σ Γ := by
  have eG := jn_ex G E
  refine ⟨jn_m S.m R.m, S.len, fun j t hj => ?_, S.dis⟩
  obtain ⟨o, e, q⟩ := S.at_ j t hj
  refine ⟨o, e, ?_⟩
  cases t with
  | no => trivial
  | pu U y => obtain ⟨w, e1, r1⟩ := q; exact ⟨w, e1, U.mono eG r1⟩
  | ow U zs =>
    obtain ⟨b, ws, eb, hb, gb, b0, rb⟩ := q
    exact ⟨b, ws, eb, hb, jn_none gb (R.o j _ b hj rfl (by rw [e, eb])), b0, rb.mono fun _ _ q => U.mono eG q⟩
  | ob b C zs =>
    obtain ⟨dx, ws, eb, hb, gb, b0, rb⟩ := q
    exact ⟨dx, ws, eb, hb, jn_none gb (R.o j _ b hj rfl (by rw [e, eb])), b0, rb.mono eG⟩
theorem lends_refl {A : RA} {Γ : TP.Env} : Lends A Γ Γ := fun _ _ _ _ _ S R _ => S.jn R
theorem Slots.putp {α : Type} {H0 G H : Hp} {σ : L2.St} {Γ : TP.Env} {i : Nat} {v : V} {T : Ty α} {x : α} (S : Slots H0 G H σ Γ) (hv : σ[i]? = some (some v)) (r : T.rp G v x) : Slots H0 G H σ (Γ.set i (.pu T x)) := by
  refine ⟨S.m, by rw [List.length_set, S.len], fun j t hj => ?_, fun j k a t u ne hj hk ht hu ej ek => ?_⟩
  · rcases set_get hj with ⟨rfl, rfl, hl⟩ | ⟨ne, hj⟩
    · exact ⟨_, hv, v, rfl, r⟩
    · exact S.at_ j t hj
  · rcases set_get hj with ⟨rfl, rfl, _⟩ | ⟨nj, hj⟩
    · cases ht
    · rcases set_get hk with ⟨rfl, rfl, _⟩ | ⟨nk, hk⟩
      · cases hu
      · exact S.dis j k a t u ne hj hk ht hu ej ek
theorem lends_O {α : Type} {O : OTy α} {i : Nat} {x : α} {Γ : TP.Env} : Lends (raO O i x) Γ (Γ.set i (.pu O.T x)) := fun H0 G H σ E S R ⟨v, hv, r⟩ =>
  (S.jn R).putp hv (O.lend r fun a ha => (R.n a ha).1)
theorem Rg.set {α : Type} {H0 G H E : Hp} {σ : L2.St} {Γ : TP.Env} {k : Nat} {v : V} {T : Ty α} {x : α} (R : Rg H0 G H σ Γ E) : Rg H0 G H (σ.set k (some v)) (Γ.set k (.pu T x)) E := ⟨R.m, R.n, fun j t a hj ht ej => by
  rcases set_get hj with ⟨rfl, rfl, _⟩ | ⟨nj, hj⟩
  · cases ht
  · rw [List.getElem?_set_ne nj] at ej
    exact R.o j t a hj ht ej⟩
theorem Rg.wk {H0 G H E : Hp} {σ : L2.St} {Γ Δ : TP.Env} (R : Rg H0 G H σ Γ E) (w : Wk Γ Δ) : Rg H0 G H σ Δ E := ⟨R.m, R.n, fun j t a hj ht ej => by
  rcases w.get.2 j t hj with ⟨rfl, _⟩ | hj
  · cases ht
  · exact R.o j t a hj ht ej⟩
section
variable {α β γ δ ι κ : Type} {te ta : TE} {Γ Γ' : TP.Env} {T : Ty α} {env : β → TP.Env} {rest t u tbd : TS} {W : Rt γ} {O : OTy α} {K : PySem.W.Frag} {A A' : RA} {B : β → RA}
def FlOkA (D : Ends) (W : Rt γ) (env : β → TP.Env) (B : β → RA) (H0 G0 Gs : Hp) : Fl γ β → Prop
  | .ret r => W.go D.rt D.bk D.ct H0 G0 Gs r
  | .nx b => ∀ σ G H E, Slots H0 G H σ (env b) → Stp G0 H0 G H → Ex Gs G → Rg H0 G H σ (env b) E → (B b).at_ G E σ → D.nx σ H
theorem FlOkA.mono {D : Ends} {H0 G0 Gs G1 : Hp} {o : Fl γ β} (e : Ex Gs G1) (h : FlOkA D W env B H0 G0 Gs o) : FlOkA D W env B H0 G0 G1 o := by
  cases o with
  | ret r => exact W.mono e h
  | nx b => exact fun σ G H E S s e1 R r => h σ G H E S s (e.trans e1) R r
def SdA (A : RA) (ts : TS) (Γ : TP.Env) (W : Rt γ) (env : β → TP.Env) (B : β → RA) (m : Option (Fl γ β)) : Prop :=
  ∀ o, m = some o → ∀ H0 G0 G H σ E, Slots H0 G H σ Γ → Stp G0 H0 G H → Rg H0 G H σ Γ E → A.at_ G E σ → ∀ D : Ends, FlOkA D W env B H0 G0 G o → ts D σ H
theorem sd_intoA {i : Nat} {m : Option α} {f : α → Option (Fl γ β)} (B : β → RA) (hi : i < Γ.length) (h : EvR te Γ O m) (hr : ∀ x, SdA (raO O i x) rest (Γ.set i .no) W env B (f x)) : Sd (tSeq (tAsg te (gName i)) rest) Γ W env (m.bind f) :=
  sd_asgR hi h fun x o e H0 G0 G H σ E v S s R hv r D k => hr x o e H0 G0 G H σ E S s R ⟨v, hv, r⟩ D (by
    cases o with
    | ret r => exact k
    | nx b => exact fun σ G H E S s e _ _ => k σ G H S s e)
theorem sdt_A {i : Nat} {x : α} {m : Option (Fl γ β)} (B : β → RA) {ts : TS} (h : SdA (raO O i x) ts Γ W env B m) : SdT O i x ts Γ W env m := fun o e H0 G0 G H σ E v S s R hv r D k => h o e H0 G0 G H σ E S s R ⟨v, hv, r⟩ D (by
    cases o with
    | ret r => exact k
    | nx b => exact fun σ G H E S s e _ _ => k σ G H S s e)
theorem sda_nx {b : β} (w : Wk Γ (env b)) (hA : ∀ G E σ, A.at_ G E σ → (B b).at_ G E σ) : SdA A tNext Γ W env B (some (.nx b)) := fun o e H0 G0 G H σ E S s R r D k => by
  cases e
  exact k σ G H E (S.wk w) s (Ex.refl _) (R.wk w) (hA _ _ _ r)
theorem sda_if {env1 : δ → TP.Env} {B1 : δ → RA} {c : L2.TT} {mc : Option Bool} {mA mB : Option (Fl γ δ)} {f : δ → Option (Fl γ β)} (hl : Lends A Γ Γ') (hc : EvT c Γ' mc) (hA : SdA A t Γ W env1 B1 mA) (hB : SdA A u Γ W env1 B1 mB) (hr : ∀ b, SdA (B1 b) rest (env1 b) W env B (f b)) :
    SdA A (tSeq (tIfS c t u) rest) Γ W env B (thenF (mIf mc mA mB) f) := fun o e H0 G0 G H σ E S s R r D k => by
  obtain ⟨y, ea, e⟩ := bind_inv e
  obtain ⟨b, ec, eb⟩ := bind_inv ea
  refine hc b ec H0 (jn G E) H σ (hl H0 G H σ E S R r) _ fun G1 H1 s1 => ?_
  have sb := Stp.back S.m s1
  have S1 := S.step sb
  have s01 := s.trans sb
  have R1 := R.step sb
  have kk : FlOkA { D with nx := rest D } W env1 B1 H0 G0 G y := by
    cases y with
    | ret r => cases e; exact k
    | nx d => exact fun σ2 G2 H2 E2 S2 s2 e2 R2 r2 => hr d o e H0 G0 G2 H2 σ2 E2 S2 s2 R2 r2 D (k.mono e2)
  cases b with
  | true => exact hA y eb H0 G0 G H1 σ E S1 s01 R1 r _ kk
  | false => exact hB y eb H0 G0 G H1 σ E S1 s01 R1 r _ kk
theorem sda_asg {k : Nat} {m : Option ι} {P : Ty ι} {f : ι → Option (Fl γ β)} (hk : k ∉ A.vs) (h : Ev te Γ P m) (hr : ∀ x, SdA A rest (Γ.set k (.pu P x)) W env B (f x)) : SdA A (tSeq (tAsg te (gName k)) rest) Γ W env B (m.bind f) := fun o e H0 G0 G H σ E S s R r D kk => by
  obtain ⟨x, ea, e⟩ := bind_inv e
  refine h x ea H0 G H σ S _ fun v G1 H1 s1 r1 => ?_
  exact hr x o e H0 G0 G1 H1 _ E ((S.step s1).set r1) (s.trans s1) (R.step s1).set (RA.set hk (A.mono s1.g r)) D (kk.mono s1.g)
theorem sda_ret {P : Ty γ} {m : Option γ} (hP : Flat P) (hl : Lends A Γ Γ') (h : Ev te Γ' P m) : SdA A (tSeq (tRet te) rest) Γ (pureR P) env B (rtF m) := fun o e H0 G0 G H σ E S s R r D k => by
  obtain ⟨x, ea, e⟩ := bind_inv e
  cases e
  exact h x ea H0 (jn G E) H σ (hl H0 G H σ E S R r) _ fun v G1 H1 s1 r1 => k v G H1 (s.trans (Stp.back S.m s1)) (hP _ _ _ _ r1)
theorem sda_for [FlatR W] {env1 : δ → TP.Env} {A1 : δ → RA} {wi : L2.TI} {j : Nat} {P : Ty ι} {b0 : δ} {mxs : Option (List ι)} {step : δ → ι → Option (Fl γ δ)} {f : δ → Option (Fl γ β)}
    (hi : EvI wi Γ P mxs) (w : Wk Γ (env1 b0)) (hA : ∀ G E σ, A.at_ G E σ → (A1 b0).at_ G E σ) (hj : ∀ b, j ∉ (A1 b).vs) (hb : ∀ b x, SdA (A1 b) tbd ((env1 b).set j (.pu P x)) W env1 A1 (step b x)) (hr : ∀ b, SdA (A1 b) rest (env1 b) W env B (f b)) :
    SdA A (tSeq (tFor wi (gName j) tbd) rest) Γ W env B (mxs.bind fun xs => thenF (forF step xs b0) f) := fun o e H0 G0 G H σ E S s R r D k => by
  obtain ⟨xs, ea, e⟩ := bind_inv e
  obtain ⟨y, ey, e⟩ := bind_inv e
  refine hi xs ea H0 G H σ S _ fun J G1 H1 s1 yl => ?_
  refine ⟨fun i m σ' H' => m = xs.length - i ∧ i ≤ xs.length ∧ ∃ b G' E', Slots H0 G' H' σ' (env1 b) ∧ Stp G0 H0 G' H' ∧ Ex G1 G' ∧ Rg H0 G' H' σ' (env1 b) E' ∧ (A1 b).at_ G' E' σ' ∧ forF step (xs.drop i) b = some y,
    ⟨xs.length, by simp, Nat.zero_le _, b0, G1, E, (S.step s1).wk w, s.trans s1, Ex.refl _, (R.step s1).wk w, hA _ _ _ (A.mono s1.g r), ey⟩, ?_⟩
  rintro i m σ' H' ⟨rfl, hle, b, G', E', S', s', eg, R', r', ef⟩
  obtain ⟨y1, y2⟩ := yl i G' H' eg S'.m
  by_cases hlt : i < xs.length
  · right
    have ex : xs[i]? = some xs[i] := List.getElem?_eq_getElem hlt
    obtain ⟨jg, jy⟩ := y1 _ ex
    have ed : xs.drop i = xs[i] :: xs.drop (i + 1) := List.drop_eq_getElem_cons hlt
    rw [ed] at ef
    obtain ⟨z, ez, ef⟩ := bind_inv ef
    refine ⟨jg, _, fun σ2 H2 n => n, fun x H2 yy => ?_⟩
    obtain ⟨G2, s2, r2⟩ := jy x H2 yy
    have S2 := (S'.step s2).set (i := j) r2
    refine hb b _ z ez H0 G0 G2 H2 _ E' S2 (s'.trans s2) (R'.step s2).set (RA.set (hj b) ((A1 b).mono s2.g r')) _ ?_
    cases z with
    | ret r =>
      cases ef
      cases e
      exact FlatR.flat (W.mono ((s1.g.trans eg).trans s2.g) k)
    | nx b' => exact fun σ4 G4 H4 E4 S4 s4 e4 R4 r4 => ⟨xs.length - (i + 1), by omega, rfl, by omega, b', G4, E4, S4, s4, (eg.trans s2.g).trans e4, R4, r4, ef⟩
  · left
    have ei : xs.length ≤ i := by omega
    refine ⟨y2 ei, ?_⟩
    rw [List.drop_eq_nil_of_le ei] at ef
    cases ef
    exact hr b o e H0 G0 G' H' σ' E' S' s' R' r' D (k.mono (s1.g.trans eg))
def TurnA (ts : TS) (A A' : RA) (Γ : TP.Env) : Prop := ∀ H0 G H σ E, Slots H0 G H σ Γ → Rg H0 G H σ Γ E → A.at_ G E σ → ∀ D : Ends, (∀ G1 H1 p o, Stp G H G1 H1 → E p ≠ none → A'.at_ G1 (upd E p o) σ → D.nx σ (upd H1 p o)) → ts D σ H
theorem sda_turn {m : Option (Fl γ β)} (h : TurnA t A A' Γ) (hr : SdA A' rest Γ W env B m) : SdA A (tSeq t rest) Γ W env B m := fun o e H0 G0 G H σ E S s R r D k =>
  h H0 G H σ E S R r _ fun G1 H1 p ob s1 hp r' => by
    have S1 := S.step s1
    have R1 := R.step s1
    exact hr o e H0 G0 G1 _ σ (upd E p ob) (S1.turnR R1 hp) ((s.trans s1).turn (R1.n p hp).2 (R1.n p hp).1) (R1.turn hp) r' D (k.mono s1.g)
end
end TP
set_option maxHeartbeats 2000000
namespace TP
open PySem PySem.Spec PyProof.Rows L2
section
variable {α β γ δ ι κ : Type} {te ta te0 te2 : TE} {Γ Γ' : TP.Env} {T : Ty α} {env : β → TP.Env} {rest t u tbd : TS} {W : Rt γ} {K : PySem.W.Frag} {O : OTy α} {B : β → RA}
theorem evg_trip {i j k : Nat} {A : Ty α} {B : Ty β} {C : Ty γ} : EvG (gTup K 3 (gCons (gName i) (gCons (gName j) (gCons (gName k) gNil)))) [i, j, k] Γ (tyH K (aC A (aC B (aC C aN)))) (fun x => ((Γ.set i (.pu A x.1)).set j (.pu B x.2.1)).set k (.pu C x.2.2.1)) := fun x v H0 G H σ S r Q q => by
  obtain ⟨a, vs, rfl, ha, v1, r1, rfl, h1, v2, r2, rfl, h2, v3, r3, rfl, h3, h4⟩ := r
  cases h4
  refine ⟨a, [v1, v2, v3], rfl, SqT.mono S.m ha, rfl, v1, [v2, v3], rfl, v2, [v3], rfl, v3, [], rfl, rfl, ?_⟩
  exact q _ (((S.set h1).set h2).set h3) fun vs h => by
    rw [wipe_set (h k (by simp)), wipe_set (h j (by simp)), wipe_set (h i (by simp))]
theorem Slots.addOw {H0 G H : Hp} {σ : L2.St} {i : Nat} {p : Addr} {vs : List V} {T : Ty α} {xs : List α} (S : Slots H0 G H σ Γ) (hp : H p = some (.lst vs)) (hg : G p = none) (h0 : H0 p = none) (r : All2 (T.rp G) vs xs) (hn : ∀ (m : Nat) (t : Slot), Γ[m]? = some t → t.isOw = true → σ[m]? = some (some (.ref p)) → m = i) :
    Slots H0 G H (σ.set i (some (.ref p))) (Γ.set i (.ow T xs)) := by
  refine ⟨S.m, by rw [List.length_set, List.length_set, S.len], fun j t hj => ?_, fun j k a t u ne hj hk ht hu ej ek => ?_⟩
  · rcases set_get hj with ⟨rfl, rfl, hl⟩ | ⟨ne, hj⟩
    · exact ⟨some (.ref p), List.getElem?_set_self (by rw [S.len]; exact hl), p, vs, rfl, hp, hg, h0, r⟩
    · obtain ⟨o, e, q⟩ := S.at_ j t hj
      exact ⟨o, by rw [List.getElem?_set_ne ne]; exact e, q⟩
  · rcases set_get hj with ⟨rfl, rfl, hl⟩ | ⟨nj, hj⟩
    · rcases set_get hk with ⟨rfl, _, _⟩ | ⟨nk, hk⟩
      · exact ne rfl
      · rw [List.getElem?_set_self (by rw [S.len]; exact hl)] at ej
        have e2 : p = a := by cases ej; rfl
        rw [List.getElem?_set_ne nk] at ek
        exact nk (hn k u hk hu (by rw [e2]; exact ek)).symm
    · rcases set_get hk with ⟨rfl, rfl, hl⟩ | ⟨nk, hk⟩
      · rw [List.getElem?_set_self (by rw [S.len]; exact hl)] at ek
        have e2 : p = a := by cases ek; rfl
        rw [List.getElem?_set_ne nj] at ej
        exact nj (hn j t hj ht (by rw [e2]; exact ej)).symm
      · rw [List.getElem?_set_ne nj] at ej
        rw [List.getElem?_set_ne nk] at ek
        exact S.dis j k a t u ne hj hk ht hu ej ek
theorem own_at_ne {H0 G H : Hp} {σ : L2.St} (S : Slots H0 G H σ Γ) {m : Nat} {t : Slot} {p : Addr} (hm : Γ[m]? = some t) (ht : t.isOw = true) (em : σ[m]? = some (some (.ref p))) : H p ≠ none := by
  obtain ⟨o, eo, q⟩ := S.at_ m t hm
  obtain ⟨a, e, ha, _⟩ := Slot.own q ht
  rw [em] at eo
  have := Option.some.inj eo
  rw [e] at this
  have e2 : p = a := by cases this; rfl
  rw [e2]; exact ha
theorem sd_asg3R {i j k : Nat} {m : Option M3} {f : M3 → Option (Fl γ β)} (hij : i ≠ j) (hik : i ≠ k) (hjk : j ≠ k) (hj : j < Γ.length) (hk : k < Γ.length) (h : EvR te Γ (o3 K) m) (hr : ∀ x, Sd rest (((Γ.set i (.pu (tyL tyI) x.1)).set j (.ow tyI x.2.1)).set k (.ow tyI x.2.2.1)) W env (f x)) :
    Sd (tSeq (tAsg te (gTup K 3 (gCons (gName i) (gCons (gName j) (gCons (gName k) gNil))))) rest) Γ W env (m.bind f) := fun o e H0 G0 G H σ S s D kk => by
  obtain ⟨x, ea, e⟩ := bind_inv e
  refine h x ea H0 G H σ S _ fun v G1 H1 E s1 hE hn r1 => ?_
  obtain ⟨t, a, b, c, rfl, ht, nab, nac, nbc, ha, hb, hc⟩ := r1
  have na := hn a (ne_none_of ha)
  have nb := hn b (ne_none_of hb)
  have nc := hn c (ne_none_of hc)
  have hfz := Stp.freeze s1 na.2 na.1 (hE _ _ ha)
  have eG : Ex G1 (upd G1 a (li x.1)) := Ex.new na.1
  have S1 := S.step hfz
  have gb : upd G1 a (li x.1) b = none := by rw [upd_ne (Ne.symm nab)]; exact nb.1
  have gc : upd G1 a (li x.1) c = none := by rw [upd_ne (Ne.symm nac)]; exact nc.1
  refine ⟨t, [.ref a, .ref b, .ref c], rfl, SqT.mono s1.m ht, rfl, .ref a, [.ref b, .ref c], rfl, .ref b, [.ref c], rfl, .ref c, [], rfl, rfl, ?_⟩
  have S2 : Slots H0 _ H1 (σ.set i (some (.ref a))) (Γ.set i (.pu (tyL tyI) x.1)) := S1.set ⟨a, _, rfl, upd_same, all_ints _ x.1⟩
  have own2 : ∀ (m : Nat) (t : Slot) (p : Addr), (Γ.set i (.pu (tyL tyI) x.1))[m]? = some t → t.isOw = true → (σ.set i (some (.ref a)))[m]? = some (some (.ref p)) → H p ≠ none := fun m t p hm htt em => by
    rcases set_get hm with ⟨rfl, rfl, _⟩ | ⟨nm, hm⟩
    · cases htt
    · rw [List.getElem?_set_ne nm] at em
      exact own_at_ne S hm htt em
  have S3 := S2.addOw (i := j) (T := tyI) (xs := x.2.1) (hE _ _ hb) gb (s.h.non nb.2) (all_ints _ _) (fun m t hm htt em => absurd nb.2 (own2 m t b hm htt em))
  have S4 := S3.addOw (i := k) (T := tyI) (xs := x.2.2.1) (hE _ _ hc) gc (s.h.non nc.2) (all_ints _ _) (fun m t hm htt em => by
    rcases set_get hm with ⟨rfl, rfl, hl⟩ | ⟨nm, hm⟩
    · rw [List.getElem?_set_self (by rw [List.length_set, S.len]; exact hj)] at em
      have : b = c := by cases em; rfl
      exact absurd this nbc
    · rw [List.getElem?_set_ne nm] at em
      exact absurd nc.2 (own2 m t c hm htt em))
  exact hr x o e H0 G0 _ H1 _ S4 (s.trans hfz) D (kk.mono (s1.g.trans eG))
theorem sd_moveOw {i j : Nat} {xs : List α} {f : List α → Option (Fl γ β)} {k : List Bool} (hij : i ≠ j) (hj : Γ[j]? = some (.ow T xs)) (hw : maskE Γ k = Γ.set j .no) (hr : Sd rest ((Γ.set j .no).set i (.ow T xs)) W env (f xs)) : Sd (tSeq (tAsg (tVar j) (gName i)) rest) Γ W env ((some xs).bind f) := fun o e H0 G0 G H σ S s D kk => by
  obtain ⟨a, ws, ep, ha, hg, ha0, r1⟩ := own_at S hj
  refine ⟨.ref a, ep, ?_⟩
  have S1 := S.wk (wk_m k hw)
  exact hr o e H0 G0 G H _ (S1.addOw ha hg ha0 r1 fun m t hm ht em => by
    rcases set_get hm with ⟨rfl, rfl, _⟩ | ⟨nm, hm⟩
    · cases ht
    · exact absurd ep (fun ep => S.dis j m a _ _ nm hj hm rfl ht ep em)) s D kk
abbrev M5 := List Int × (List Int × List Int × Unit) × (List Int × List Int × Unit) × Unit
def o5 (K : PySem.W.Frag) : OTy M5 := ⟨fun G E v x => ∃ t u w a b c d e, v = .ref t ∧ SqT K G t [.ref a, .ref u, .ref w] ∧ SqT K G u [.ref b, .ref c] ∧ SqT K G w [.ref d, .ref e] ∧ [a, b, c, d, e].Nodup ∧ E a = some (li x.1) ∧ E b = some (li x.2.1.1) ∧ E c = some (li x.2.1.2.1) ∧ E d = some (li x.2.2.1.1) ∧ E e = some (li x.2.2.1.2.1),
  fun ex ⟨t, u, w, a, b, c, d, e, h1, h2, h3, h4, h5⟩ => ⟨t, u, w, a, b, c, d, e, h1, SqT.mono ex h2, SqT.mono ex h3, SqT.mono ex h4, h5⟩,
  tyH K (aC (tyL tyI) (aC (tyH K (aC (tyL tyI) (aC (tyL tyI) aN))) (aC (tyH K (aC (tyL tyI) (aC (tyL tyI) aN))) aN))),
  fun {G E v x} h hn => by
    obtain ⟨t, u, w, a, b, c, d, e, h1, h2, h3, h4, _, ha, hb, hc, hd, he⟩ := h
    have one : ∀ {q : Addr} {ys : List Int}, E q = some (li ys) → (tyL tyI).rp (jn G E) (.ref q) ys := fun {q ys} e => ⟨q, _, rfl, by rw [jn_r (hn q (ne_none_of e))]; exact e, all_ints _ ys⟩
    have ex := jn_ex G E
    exact ⟨t, _, h1, SqT.mono ex h2, _, _, rfl, one ha, _, _, rfl, ⟨u, _, rfl, SqT.mono ex h3, _, _, rfl, one hb, _, _, rfl, one hc, rfl⟩, _, _, rfl, ⟨w, _, rfl, SqT.mono ex h4, _, _, rfl, one hd, _, _, rfl, one he, rfl⟩, rfl⟩⟩
theorem sd_retT5 {i j k l m : Nat} {a b c d e : List Int} (hnd : [i, j, k, l, m].Nodup) (hi : Γ[i]? = some (.ow tyI a)) (hj : Γ[j]? = some (.ow tyI b)) (hk : Γ[k]? = some (.ow tyI c)) (hl : Γ[l]? = some (.ow tyI d)) (hm : Γ[m]? = some (.ow tyI e)) :
    Sd (tSeq (tRet (tTup (tCons (tVar i) (tCons (tTup (tCons (tVar j) (tCons (tVar k) tNil))) (tCons (tTup (tCons (tVar l) (tCons (tVar m) tNil))) tNil))))) rest) Γ (trR (o5 K)) env (rtF (aPair (some a) (aPair (aPair (some b) (aPair (some c) (some ()))) (aPair (aPair (some d) (aPair (some e) (some ()))) (some ()))))) := fun o eo H0 G0 G H σ S s D kk => by
  cases eo
  obtain ⟨A, v1, ea, hA, gA, zA, rA⟩ := own_at S hi
  obtain ⟨B, v2, eb, hB, gB, zB, rB⟩ := own_at S hj
  obtain ⟨C, v3, ec, hC, gC, zC, rC⟩ := own_at S hk
  obtain ⟨X, v4, ed, hX, gX, zX, rX⟩ := own_at S hl
  obtain ⟨Y, v5, ee, hY, gY, zY, rY⟩ := own_at S hm
  have r1 := ints_all rA
  have r2 := ints_all rB
  have r3 := ints_all rC
  have r4 := ints_all rX
  have r5 := ints_all rY
  subst r1; subst r2; subst r3; subst r4; subst r5
  have ne : ∀ {p q : Nat} {P Q : Addr} {xs ys : List Int}, Γ[p]? = some (.ow tyI xs) → Γ[q]? = some (.ow tyI ys) → σ[p]? = some (some (.ref P)) → σ[q]? = some (some (.ref Q)) → p ≠ q → P ≠ Q := fun hp hq ep eq npq z => S.dis _ _ _ _ _ npq hp hq rfl rfl ep (by rw [z]; exact eq)
  simp only [List.nodup_cons, List.mem_cons, List.not_mem_nil, or_false, not_or] at hnd
  obtain ⟨⟨n1, n2, n3, n4⟩, ⟨n5, n6, n7⟩, ⟨n8, n9⟩, n10, _⟩ := hnd
  have nd : [A, B, C, X, Y].Nodup := by
    simp only [List.nodup_cons, List.mem_cons, List.not_mem_nil, or_false, not_or, not_false_eq_true, List.nodup_nil, and_true]
    exact ⟨⟨ne hi hj ea eb n1, ne hi hk ea ec n2, ne hi hl ea ed n3, ne hi hm ea ee n4⟩, ⟨ne hj hk eb ec n5, ne hj hl eb ed n6, ne hj hm eb ee n7⟩, ⟨ne hk hl ec ed n8, ne hk hm ec ee n9⟩, ne hl hm ed ee n10⟩
  refine ⟨.ref A, ea, .ref B, eb, .ref C, ec, by show 2 ≤ _; decide, fun u hu => ?_⟩
  have s1 := Stp.new (o := .tup [.ref B, .ref C]) S.m hu
  refine ⟨.ref X, ed, .ref Y, ee, by show 2 ≤ _; decide, fun w hw => ?_⟩
  have s2 := Stp.new (o := .tup [.ref X, .ref Y]) s1.m hw
  refine ⟨by show 3 ≤ _; decide, fun t ht => ?_⟩
  have s3 := Stp.new (o := .tup [.ref A, .ref u, .ref w]) s2.m ht
  have s13 := s1.trans (s2.trans s3)
  have key : ∀ {P : Addr} {o : HO}, H P = some o → G P = none → (upd (upd (upd H u (.tup [.ref B, .ref C])) w (.tup [.ref X, .ref Y])) t (.tup [.ref A, .ref u, .ref w])) P = some o ∧ (upd (upd (upd G u (.tup [.ref B, .ref C])) w (.tup [.ref X, .ref Y])) t (.tup [.ref A, .ref u, .ref w])) P = none := fun hp hg => ⟨s13.h _ _ hp, s13.p _ (ne_none_of hp) hg⟩
  have tin : SqT K (upd (upd (upd G u (.tup [.ref B, .ref C])) w (.tup [.ref X, .ref Y])) t (.tup [.ref A, .ref u, .ref w])) u [.ref B, .ref C] := SqT.mono (s2.trans s3).g (SqT.of upd_same)
  have win : SqT K (upd (upd (upd G u (.tup [.ref B, .ref C])) w (.tup [.ref X, .ref Y])) t (.tup [.ref A, .ref u, .ref w])) w [.ref X, .ref Y] := SqT.mono s3.g (SqT.of upd_same)
  -- the region: what stands at the five
  refine kk (.ref t) _ _ (fun q => if q ∈ [A, B, C, X, Y] then H q else none) (s.trans s13) (fun q o hq => ?_) (fun q hq => ?_) ⟨t, u, w, A, B, C, X, Y, rfl, SqT.of upd_same, tin, win, nd, ?_, ?_, ?_, ?_, ?_⟩
  · by_cases c : q ∈ [A, B, C, X, Y]
    · have hq : (if q ∈ [A, B, C, X, Y] then H q else none) = some o := hq
      rw [if_pos c] at hq
      exact s13.h _ _ hq
    · have hq : (if q ∈ [A, B, C, X, Y] then H q else none) = some o := hq
      rw [if_neg c] at hq; cases hq
  · by_cases c : q ∈ [A, B, C, X, Y]
    · simp only [List.mem_cons, List.not_mem_nil, or_false] at c
      rcases c with rfl | rfl | rfl | rfl | rfl
      · exact ⟨(key hA gA).2, zA⟩
      · exact ⟨(key hB gB).2, zB⟩
      · exact ⟨(key hC gC).2, zC⟩
      · exact ⟨(key hX gX).2, zX⟩
      · exact ⟨(key hY gY).2, zY⟩
    · have hq : (if q ∈ [A, B, C, X, Y] then H q else none) ≠ none := hq
      rw [if_neg c] at hq; exact absurd rfl hq
  all_goals (show (if _ then _ else _) = _; rw [if_pos (by simp)]; assumption)
def atL (i : Nat) (X : List (List Int)) (G E : Hp) (σ : L2.St) : Prop := ∃ (l : Addr) (as : List Addr), σ[i]? = some (some (.ref l)) ∧ G l = some (.lst (as.map V.ref)) ∧ as.Nodup ∧ All2 (fun a ys => E a = some (li ys)) as X
def raL (i : Nat) (X : List (List Int)) : RA := ⟨atL i X, [i], fun e h => by
  obtain ⟨l, as, h1, h2, h3⟩ := h
  exact ⟨l, as, h1, e _ _ h2, h3⟩, fun hf h => by
  obtain ⟨l, as, h1, h2⟩ := h
  exact ⟨l, as, by rw [hf i List.mem_cons_self]; exact h1, h2⟩⟩
def atLC (i j : Nat) (X Y : List (List Int)) (G E : Hp) (σ : L2.St) : Prop := ∃ (l : Addr) (as : List Addr) (c : Addr) (bs : List Addr), σ[i]? = some (some (.ref l)) ∧ G l = some (.lst (as.map V.ref)) ∧ σ[j]? = some (some (.ref c)) ∧ G c = some (.lst (bs.map V.ref)) ∧ (as ++ bs).Nodup ∧ All2 (fun a ys => E a = some (li ys)) as X ∧ All2 (fun a ys => E a = some (li ys)) bs Y
def raLC (i j : Nat) (X Y : List (List Int)) : RA := ⟨atLC i j X Y, [i, j], fun e h => by
  obtain ⟨l, as, c, bs, h1, h2, h3, h4, h5⟩ := h
  exact ⟨l, as, c, bs, h1, e _ _ h2, h3, e _ _ h4, h5⟩, fun hf h => by
  obtain ⟨l, as, c, bs, h1, h2, h3, h4⟩ := h
  exact ⟨l, as, c, bs, by rw [hf i List.mem_cons_self]; exact h1, h2, by rw [hf j (by simp)]; exact h3, h4⟩⟩
theorem all2_refs {G E : Hp} : ∀ {as : List Addr} {X : List (List Int)}, All2 (fun a ys => E a = some (li ys)) as X → (∀ a, E a ≠ none → G a = none) → All2 ((tyL tyI).rp (jn G E)) (as.map V.ref) X
  | [], [], _, _ => trivial
  | a :: as, x :: X, h, hn => ⟨⟨a, _, rfl, by rw [jn_r (hn a (ne_none_of h.1))]; exact h.1, all_ints _ x⟩, all2_refs h.2 hn⟩
  | [], _ :: _, h, _ => h.elim
  | _ :: _, [], h, _ => h.elim
theorem lends_L {i : Nat} {X : List (List Int)} : Lends (raL i X) Γ (Γ.set i (.pu (tyL (tyL tyI)) X)) := fun H0 G H σ E S R ⟨l, as, h1, h2, _, h4⟩ =>
  (S.jn R).putp (T := tyL (tyL tyI)) (x := X) h1 ⟨l, _, rfl, jn_l h2, all2_refs h4 fun a ha => (R.n a ha).1⟩
theorem lends_LC {i j : Nat} {X Y : List (List Int)} : Lends (raLC i j X Y) Γ ((Γ.set i (.pu (tyL (tyL tyI)) X)).set j (.pu (tyL (tyL tyI)) Y)) := fun H0 G H σ E S R ⟨l, as, c, bs, h1, h2, h3, h4, _, h6, h7⟩ =>
  ((S.jn R).putp (T := tyL (tyL tyI)) (x := X) h1 ⟨l, _, rfl, jn_l h2, all2_refs h6 fun a ha => (R.n a ha).1⟩).putp (T := tyL (tyL tyI)) (x := Y) h3 ⟨c, _, rfl, jn_l h4, all2_refs h7 fun a ha => (R.n a ha).1⟩
theorem Slots.setNo {H0 G H : Hp} {σ : L2.St} {k : Nat} {v : V} (S : Slots H0 G H σ Γ) (hk : Γ[k]? = some .no) : Slots H0 G H (σ.set k (some v)) Γ := by
  have hl : k < σ.length := by rw [S.len]; exact (List.getElem?_eq_some_iff.mp hk).1
  refine ⟨S.m, by rw [List.length_set, S.len], fun j t hj => ?_, fun i j a t u ne hi hj ht hu ei ej => ?_⟩
  · by_cases q : k = j
    · subst q
      rw [hk] at hj
      cases hj
      exact ⟨some v, List.getElem?_set_self hl, trivial⟩
    · obtain ⟨o, e, z⟩ := S.at_ j t hj
      exact ⟨o, by rw [List.getElem?_set_ne q]; exact e, z⟩
  · have ni : k ≠ i := fun z => by rw [← z, hk] at hi; cases hi; cases ht
    have nj : k ≠ j := fun z => by rw [← z, hk] at hj; cases hj; cases hu
    rw [List.getElem?_set_ne ni] at ei
    rw [List.getElem?_set_ne nj] at ej
    exact S.dis i j a t u ne hi hj ht hu ei ej
theorem Rg.setNo {H0 G H E : Hp} {σ : L2.St} {k : Nat} {v : V} (R : Rg H0 G H σ Γ E) (hk : Γ[k]? = some .no) : Rg H0 G H (σ.set k (some v)) Γ E := ⟨R.m, R.n, fun j t a hj ht ej => by
  have nj : k ≠ j := fun z => by rw [← z, hk] at hj; cases hj; cases ht
  rw [List.getElem?_set_ne nj] at ej
  exact R.o j t a hj ht ej⟩
theorem sda_lists {j : Nat} {x : M5} {m : Option (Fl γ β)} (hj : Γ[j]? = some .no) (hr : SdA (raL j [x.1, x.2.1.1, x.2.1.2.1, x.2.2.1.1, x.2.2.1.2.1]) rest Γ W env B m) :
    SdA (raO (o5 K) 0 x) (tSeq (tAsg (tLst (tCons (tOp (rIxT K) (tVar 0) (tC (.int 0))) (tCons (tOp (rIxT K) (tOp (rIxT K) (tVar 0) (tC (.int 1))) (tC (.int 0))) (tCons (tOp (rIxT K) (tOp (rIxT K) (tVar 0) (tC (.int 1))) (tC (.int 1))) (tCons (tOp (rIxT K) (tOp (rIxT K) (tVar 0) (tC (.int 2))) (tC (.int 0))) (tCons (tOp (rIxT K) (tOp (rIxT K) (tVar 0) (tC (.int 2))) (tC (.int 1))) tNil)))))) (gName j)) rest) Γ W env B m := fun o e H0 G0 G H σ E S s R ⟨v, hv, r⟩ D kk => by
  obtain ⟨t, u, w, a, b, c, d, e5, rfl, ht, hu, hw, nd, ha, hb, hc, hd, he⟩ := r
  have ht := SqT.mono S.m ht
  have hu := SqT.mono S.m hu
  have hw := SqT.mono S.m hw
  refine ⟨.ref t, hv, t, _, 0, .ref a, rfl, rfl, ht, rfl, ?_⟩
  refine ⟨.ref t, hv, t, _, 1, .ref u, rfl, rfl, ht, rfl, u, _, 0, .ref b, rfl, rfl, hu, rfl, ?_⟩
  refine ⟨.ref t, hv, t, _, 1, .ref u, rfl, rfl, ht, rfl, u, _, 1, .ref c, rfl, rfl, hu, rfl, ?_⟩
  refine ⟨.ref t, hv, t, _, 2, .ref w, rfl, rfl, ht, rfl, w, _, 0, .ref d, rfl, rfl, hw, rfl, ?_⟩
  refine ⟨.ref t, hv, t, _, 2, .ref w, rfl, rfl, ht, rfl, w, _, 1, .ref e5, rfl, rfl, hw, rfl, ?_⟩
  refine ⟨by show 5 ≤ _; decide, fun p hp => ?_⟩
  have sn := Stp.new (o := .lst [.ref a, .ref b, .ref c, .ref d, .ref e5]) S.m hp
  have hl : j < σ.length := by rw [S.len]; exact (List.getElem?_eq_some_iff.mp hj).1
  exact hr o e H0 G0 _ _ _ E ((S.step sn).setNo hj) (s.trans sn) ((R.step sn).setNo hj) ⟨p, [a, b, c, d, e5], List.getElem?_set_self hl, upd_same, nd, ha, hb, hc, hd, he, trivial⟩ D (kk.mono sn.g)
theorem lc_new {wi : L2.TI} {r : Nat} {te : TE} {X : List (List Int)} {Δ : List Int → TP.Env} {H0 G H : Hp} {σ : L2.St} (S : Slots H0 G H σ Γ) (hX : X.length ≤ lim) (hi : EvI wi Γ (tyL tyI) (some X)) (hg : EvG (gName r) [r] (wipeE Γ [r]) (tyL tyI) Δ) (he : ∀ ys, EvN te (Δ ys) tyI (some ys)) (Q : VK)
    (q : ∀ D as G' H', Stp G H G' H' → H D = none → G' D = none → H' D = some (.lst (as.map V.ref)) → D ∉ as → as.Nodup → (∀ a ∈ as, H a = none ∧ G' a = none) → All2 (fun a ys => H' a = some (li ys)) as X → Q (.ref D) H') : tLc wi (gName r) tYes te [r] σ H Q := by
  refine hi X rfl H0 G H σ S _ fun J G1 H1 s1 yl => ?_
  intro D hD
  refine ⟨fun i m Hc => m = X.length - i ∧ i ≤ X.length ∧ ∃ G' as, Stp G1 H1 G' Hc ∧ G' D = none ∧ Hc D = some (.lst (as.map V.ref)) ∧ D ∉ as ∧ as.Nodup ∧ (∀ a ∈ as, H1 a = none ∧ G' a = none) ∧ All2 (fun a ys => Hc a = some (li ys)) as (X.take i),
    ⟨X.length, by simp, Nat.zero_le _, G1, [], Stp.priv s1.m hD, s1.m.non hD, upd_same, by simp, .nil, (fun a h => by cases h), trivial⟩, ?_⟩
  rintro i m Hc ⟨rfl, hle, G', as, sc, gD, cD, nD, nd, hf, ra⟩
  obtain ⟨y1, y2⟩ := yl i G' Hc sc.g sc.m
  by_cases hlt : i < X.length
  · right
    have ex : X[i]? = some X[i] := List.getElem?_eq_getElem hlt
    obtain ⟨jg, jy⟩ := y1 _ ex
    refine ⟨jg, _, fun H' n => n, fun x H2 y => ?_⟩
    obtain ⟨G2, s2, r2⟩ := jy x H2 y
    have S2 : Slots H0 G2 H2 (L2.wipe σ [r]) (wipeE Γ [r]) := (S.step ((s1.trans sc).trans s2)).wipe [r]
    refine hg _ x H0 G2 H2 _ S2 r2 _ fun σ' S3 hw => ⟨(hw [r] (fun _ h => h)).trans (wipe_wipe [r]), ?_⟩
    refine evt_yes true rfl H0 G2 H2 σ' S3 _ fun G3 H3 s3 => ?_
    rw [if_pos rfl]
    refine he _ _ rfl H0 G3 H3 σ' (S3.step s3) _ fun p vs G4 H4 s4 hn hgp hp rp => ?_
    have s34 := (s2.trans s3).trans s4
    have c4 := s34.h _ _ cD
    have g4 := s34.p D (ne_none_of cD) gD
    have ev := ints_all rp
    subst ev
    have pD : p ≠ D := fun z => by rw [z, (s2.trans s3).h _ _ cD] at hn; cases hn
    have pas : p ∉ as := fun z => by
      obtain ⟨ys, hys⟩ : ∃ ys, Hc p = some (li ys) := by
        have : ∀ {as : List Addr} {Y : List (List Int)}, All2 (fun a ys => Hc a = some (li ys)) as Y → p ∈ as → ∃ ys, Hc p = some (li ys) := by
          intro as
          induction as with
          | nil => intro Y _ h; cases h
          | cons a as ih =>
            intro Y hY h
            cases Y with
            | nil => exact hY.elim
            | cons y Y =>
              rcases List.mem_cons.mp h with rfl | h
              · exact ⟨y, hY.1⟩
              · exact ih hY.2 h
        exact this ra z
      rw [(s2.trans s3).h _ _ hys] at hn; cases hn
    refine ⟨as.map V.ref, c4, ?_, ?_⟩
    · have hl := ra.len
      rw [List.length_take] at hl
      rw [List.length_map]
      exact lim_lt (by omega)
    · refine ⟨X.length - (i + 1), by omega, rfl, by omega, G4, as ++ [p], ?_, g4, by rw [List.map_append]; exact upd_same, ?_, ?_, fun a ha => ?_, ?_⟩
      · have s5 := sc.trans s34
        exact ⟨s5.g, s5.h.right hD, s5.m.right g4, s5.p⟩
      · intro z
        rcases List.mem_append.mp z with z | z
        · exact nD z
        · exact pD (List.mem_singleton.mp z).symm
      · refine List.nodup_append.mpr ⟨nd, by simp, fun a ha b hb z => ?_⟩
        rw [List.mem_singleton.mp hb] at z
        exact pas (by rw [← z]; exact ha)
      · rcases List.mem_append.mp ha with ha | ha
        · have h1 := hf a ha
          refine ⟨h1.1, s34.p a (fun z => ?_) h1.2⟩
          have : ∀ {as : List Addr} {Y : List (List Int)}, All2 (fun a ys => Hc a = some (li ys)) as Y → a ∈ as → Hc a ≠ none := by
            intro as
            induction as with
            | nil => intro Y _ h; cases h
            | cons b as ih =>
              intro Y hY h
              cases Y with
              | nil => exact hY.elim
              | cons y Y =>
                rcases List.mem_cons.mp h with rfl | h
                · exact ne_none_of hY.1
                · exact ih hY.2 h
          exact this ra ha z
        · rw [List.mem_singleton.mp ha]
          exact ⟨(sc.trans (s2.trans s3)).h.non hn, hgp⟩
      · rw [List.take_add_one, ex]
        refine All2.app ?_ (.one ?_)
        · have : ∀ {as : List Addr} {Y : List (List Int)}, D ∉ as → All2 (fun a ys => Hc a = some (li ys)) as Y → All2 (fun a ys => upd H4 D (.lst (as.map V.ref ++ [V.ref p])) a = some (li ys)) as Y := by
            intro as Y
            generalize (as.map V.ref ++ [V.ref p]) = z
            intro hD h
            induction as generalizing Y with
            | nil => cases Y with
              | nil => trivial
              | cons => exact h.elim
            | cons a as ih => cases Y with
              | nil => exact h.elim
              | cons y Y => exact ⟨by show upd H4 D _ a = _; rw [upd_ne (fun q => hD (by rw [q]; exact List.mem_cons_self))]; exact s34.h _ _ h.1, ih (fun q => hD (List.mem_cons_of_mem _ q)) h.2⟩
          exact this nD ra
        · show upd H4 D _ p = _
          rw [upd_ne pD]; exact hp
  · left
    have ei : X.length ≤ i := by omega
    refine ⟨y2 ei, ?_⟩
    rw [List.take_of_length_le ei] at ra
    exact q D as G' Hc (s1.trans sc) (s1.h.non hD) gD cD nD nd (fun a ha => ⟨s1.h.non (hf a ha).1, (hf a ha).2⟩) ra
theorem all2_mem {δ ε : Type} {P Q : δ → ε → Prop} : ∀ {as : List δ} {X : List ε}, All2 P as X → (∀ a ∈ as, ∀ y, P a y → Q a y) → All2 Q as X
  | [], [], _, _ => trivial
  | a :: as, x :: X, h, k => ⟨k a List.mem_cons_self x h.1, all2_mem h.2 fun b hb => k b (List.mem_cons_of_mem _ hb)⟩
  | [], _ :: _, h, _ => h.elim
  | _ :: _, [], h, _ => h.elim
theorem all2_dom {E : Hp} {as : List Addr} {X : List (List Int)} (h : All2 (fun a ys => E a = some (li ys)) as X) : ∀ a ∈ as, E a ≠ none := by
  induction as generalizing X with
  | nil => intro a h; cases h
  | cons b as ih => cases X with
    | nil => exact h.elim
    | cons y X =>
      intro a ha
      rcases List.mem_cons.mp ha with rfl | ha
      · exact ne_none_of h.1
      · exact ih h.2 a ha
theorem sda_copies {i j r : Nat} {X : List (List Int)} {wi : L2.TI} {te : TE} {Δ : List Int → TP.Env} {m : Option (Fl γ β)} (hij : i ≠ j) (hj : Γ[j]? = some .no) (hX : X.length ≤ lim) (hi : EvI wi (Γ.set i (.pu (tyL (tyL tyI)) X)) (tyL tyI) (some X)) (hg : EvG (gName r) [r] (wipeE (Γ.set i (.pu (tyL (tyL tyI)) X)) [r]) (tyL tyI) Δ) (he : ∀ ys, EvN te (Δ ys) tyI (some ys)) (hr : SdA (raLC i j X X) rest Γ W env B m) :
    SdA (raL i X) (tSeq (tAsg (tLc wi (gName r) tYes te [r]) (gName j)) rest) Γ W env B m := fun o e H0 G0 G H σ E S s R r' D kk => by
  show tLc wi (gName r) tYes te [r] σ H fun x H1 => gName j x σ H1 (rest D)
  refine lc_new (lends_L H0 G H σ E S R r') hX hi hg he _ fun d as G' H' st hn hg' hd nd1 nd2 hf ra => ?_
  obtain ⟨l, as0, h1, h2, h3, h4⟩ := r'
  have sf := Stp.freeze (Stp.back S.m st) hn (S.m.non hn) hd
  have R2 := R.step sf
  have dom0 := all2_dom h4
  have hl : j < σ.length := by rw [S.len]; exact (List.getElem?_eq_some_iff.mp hj).1
  have hE : ∀ q, E q ≠ none → q ∉ as := fun q hq z => by
    cases c : E q with
    | none => exact hq c
    | some u => have := R.m q u c; rw [(hf q z).1] at this; cases this
  have R3 : Rg H0 (upd G d (.lst (as.map V.ref))) H' σ Γ (fun q => if q ∈ as then H' q else E q) := by
    refine ⟨fun q u hq => ?_, fun q hq => ?_, fun k t a hk ht ek => ?_⟩
    · have hq : (if q ∈ as then H' q else E q) = some u := hq
      by_cases c : q ∈ as
      · rw [if_pos c] at hq; exact hq
      · rw [if_neg c] at hq; exact R2.m q u hq
    · have hq : (if q ∈ as then H' q else E q) ≠ none := hq
      by_cases c : q ∈ as
      · have := (hf q c).1
        exact ⟨by rw [upd_ne (fun z => nd1 (by rw [← z]; exact c))]; exact S.m.non this, s.h.non this⟩
      · rw [if_neg c] at hq; exact R2.n q hq
    · show (if a ∈ as then H' a else E a) = none
      have c : a ∉ as := fun z => own_at_ne S hk ht ek (hf a z).1
      rw [if_neg c]
      exact R.o k t a hk ht ek
  refine hr o e H0 G0 _ H' _ _ ((S.step sf).setNo hj) (s.trans sf) (R3.setNo hj) ⟨l, as0, d, as, by rw [List.getElem?_set_ne (Ne.symm hij)]; exact h1, sf.g _ _ h2, List.getElem?_set_self hl, upd_same, List.nodup_append.mpr ⟨h3, nd2, fun a ha b hb z => hE a (dom0 a ha) (by rw [z]; exact hb)⟩, all2_mem h4 fun a ha y h => ?_, all2_mem ra fun a ha y h => ?_⟩ D (kk.mono sf.g)
  · show (if a ∈ as then H' a else E a) = _
    rw [if_neg (hE a (dom0 a ha))]; exact h
  · show (if a ∈ as then H' a else E a) = _
    rw [if_pos ha]; exact h
def appR (X : List (List Int)) (k y : Int) : Option (List (List Int)) := (ixN X.length k).bind fun j => (X[j]?).bind fun ys => if ys.length ≤ lim then some (X.set j (ys ++ [y])) else none
theorem appR_inv {X Z : List (List Int)} {k y : Int} (h : appR X k y = some Z) : ∃ j ys, ixN X.length k = some j ∧ X[j]? = some ys ∧ ys.length ≤ lim ∧ Z = X.set j (ys ++ [y]) := by
  obtain ⟨j, e1, h⟩ := bind_inv h
  obtain ⟨ys, e2, h⟩ := bind_inv h
  by_cases c : ys.length ≤ lim
  · rw [if_pos c] at h
    cases h
    exact ⟨j, ys, e1, e2, c, rfl⟩
  · rw [if_neg c] at h; cases h
theorem all2_upd {E : Hp} {a : Addr} {z : List Int} : ∀ {as : List Addr} {X : List (List Int)} {j : Nat}, as.Nodup → as[j]? = some a → All2 (fun a ys => E a = some (li ys)) as X → All2 (fun b ys => upd E a (li z) b = some (li ys)) as (X.set j z)
  | [], [], _, _, _, _ => trivial
  | b :: as, x :: X, 0, nd, hj, h => by
    have e : b = a := by simpa using hj
    subst e
    exact ⟨upd_same, all2_mem h.2 fun c hc y hy => by
      show upd E b _ c = _
      rw [upd_ne (fun q => (List.nodup_cons.mp nd).1 (by rw [← q]; exact hc))]; exact hy⟩
  | b :: as, x :: X, j + 1, nd, hj, h => by
    have hj : as[j]? = some a := by simpa using hj
    have hm := List.mem_of_getElem? hj
    have nb : b ≠ a := fun q => (List.nodup_cons.mp nd).1 (by rw [q]; exact hm)
    exact ⟨by show upd E a _ b = _; rw [upd_ne nb]; exact h.1, all2_upd (List.nodup_cons.mp nd).2 hj h.2⟩
  | [], _ :: _, _, _, _, h => h.elim
  | _ :: _, [], _, _, _, h => h.elim
theorem ix_refs {as : List Addr} {X : List (List Int)} {E : Hp} {k : Int} {j : Nat} {a : Addr} (h : All2 (fun a ys => E a = some (li ys)) as X) (hj : ixN X.length k = some j) (ha : as[j]? = some a) : atI (as.map V.ref) k = some (.ref a) := by
  unfold atI
  rw [List.length_map, h.len, hj]
  show (as.map V.ref)[j]? = _
  rw [List.getElem?_map, ha]
  rfl
theorem sda_app1 {i j : Nat} {X Y : List (List Int)} {tk te : TE} {mk my : Option Int} {f : List (List Int) → Option (Fl γ β)} (hk : Ev tk Γ tyI mk) (hy : Ev te Γ tyI my) (hr : ∀ Z, SdA (raLC i j Z Y) rest Γ W env B (f Z)) :
    SdA (raLC i j X Y) (tSeq (tDrop (tBM K "list" rAppend (tOp (rIxL K) (tVar i) tk) (tCons te tNil))) rest) Γ W env B (mk.bind fun k => my.bind fun y => (appR X k y).bind f) := fun o e H0 G0 G H σ E S s R r D kk => by
  obtain ⟨k, ek, e⟩ := bind_inv e
  obtain ⟨y, ey, e⟩ := bind_inv e
  obtain ⟨Z, eZ, e⟩ := bind_inv e
  obtain ⟨q, ys, e1, e2, cl, rfl⟩ := appR_inv eZ
  obtain ⟨l, as, c, bs, h1, h2, h3, h4, h5, h6, h7⟩ := r
  obtain ⟨a, ea, hE⟩ := h6.get e2
  refine ⟨.ref l, h1, ?_⟩
  refine hk k ek H0 G H σ S _ fun v G1 H1 s1 r1 => ?_
  cases r1
  have hl1 := s1.m _ _ (s1.g _ _ h2)
  refine ⟨l, _, k, .ref a, rfl, rfl, SqL.of hl1, ix_refs h6 e1 ea, ?_⟩
  have hE : E a = some (li ys) := hE
  have ha1 := s1.h _ _ (R.m _ _ hE)
  refine ⟨.inl ⟨rfl, _, SqL.of ha1⟩, ?_⟩
  refine hy y ey H0 G1 H1 σ (S.step s1) _ fun w G2 H2 s2 r2 => ?_
  cases r2
  have s12 := s1.trans s2
  have S2 := S.step s12
  have R2 := R.step s12
  have hne := ne_none_of hE
  refine ⟨a, ys.map V.int, .int y, rfl, rfl, s2.h _ _ ha1, by rw [List.length_map]; exact lim_lt cl, ?_⟩
  have e3 : (HO.lst (ys.map V.int ++ [V.int y])) = li (ys ++ [y]) := by unfold li; rw [List.map_append]; rfl
  rw [e3]
  obtain ⟨n1, n2, n3⟩ := List.nodup_append.mp h5
  have am := List.mem_of_getElem? ea
  exact hr _ o e H0 G0 G2 _ σ _ (S2.turnR R2 hne) ((s.trans s12).turn (R2.n a hne).2 (R2.n a hne).1) (R2.turn hne) ⟨l, as, c, bs, h1, s12.g _ _ h2, h3, s12.g _ _ h4, h5, all2_upd n1 ea h6, all2_mem h7 fun b hb y hy => by
    show upd E a _ b = _
    rw [upd_ne (fun z => n3 a am b hb z.symm)]; exact hy⟩ D (kk.mono s12.g)
theorem sda_app2 {i j : Nat} {X Y : List (List Int)} {tk te : TE} {mk my : Option Int} {f : List (List Int) → Option (Fl γ β)} (hk : Ev tk Γ tyI mk) (hy : Ev te Γ tyI my) (hr : ∀ Z, SdA (raLC i j X Z) rest Γ W env B (f Z)) :
    SdA (raLC i j X Y) (tSeq (tDrop (tBM K "list" rAppend (tOp (rIxL K) (tVar j) tk) (tCons te tNil))) rest) Γ W env B (mk.bind fun k => my.bind fun y => (appR Y k y).bind f) := fun o e H0 G0 G H σ E S s R r D kk => by
  obtain ⟨k, ek, e⟩ := bind_inv e
  obtain ⟨y, ey, e⟩ := bind_inv e
  obtain ⟨Z, eZ, e⟩ := bind_inv e
  obtain ⟨q, ys, e1, e2, cl, rfl⟩ := appR_inv eZ
  obtain ⟨l, as, c, bs, h1, h2, h3, h4, h5, h6, h7⟩ := r
  obtain ⟨a, ea, hE⟩ := h7.get e2
  refine ⟨.ref c, h3, ?_⟩
  refine hk k ek H0 G H σ S _ fun v G1 H1 s1 r1 => ?_
  cases r1
  have hl1 := s1.m _ _ (s1.g _ _ h4)
  refine ⟨c, _, k, .ref a, rfl, rfl, SqL.of hl1, ix_refs h7 e1 ea, ?_⟩
  have hE : E a = some (li ys) := hE
  have ha1 := s1.h _ _ (R.m _ _ hE)
  refine ⟨.inl ⟨rfl, _, SqL.of ha1⟩, ?_⟩
  refine hy y ey H0 G1 H1 σ (S.step s1) _ fun w G2 H2 s2 r2 => ?_
  cases r2
  have s12 := s1.trans s2
  have S2 := S.step s12
  have R2 := R.step s12
  have hne := ne_none_of hE
  refine ⟨a, ys.map V.int, .int y, rfl, rfl, s2.h _ _ ha1, by rw [List.length_map]; exact lim_lt cl, ?_⟩
  have e3 : (HO.lst (ys.map V.int ++ [V.int y])) = li (ys ++ [y]) := by unfold li; rw [List.map_append]; rfl
  rw [e3]
  obtain ⟨n1, n2, n3⟩ := List.nodup_append.mp h5
  have am := List.mem_of_getElem? ea
  exact hr _ o e H0 G0 G2 _ σ _ (S2.turnR R2 hne) ((s.trans s12).turn (R2.n a hne).2 (R2.n a hne).1) (R2.turn hne) ⟨l, as, c, bs, h1, s12.g _ _ h2, h3, s12.g _ _ h4, h5, all2_mem h6 fun b hb y hy => by
    show upd E a _ b = _
    rw [upd_ne (fun z => n3 b hb a am z)]; exact hy, all2_upd n2 ea h7⟩ D (kk.mono s12.g)
theorem sda_forR [FlatR W] {A : RA} {env1 : δ → TP.Env} {A1 : δ → RA} {te : TE} {j : Nat} {b0 : δ} {mn : Option Int} {step : δ → Int → Option (Fl γ δ)} {f : δ → Option (Fl γ β)}
    (hl : Lends A Γ Γ') (hn : Ev te Γ' tyI mn) (w : Wk Γ (env1 b0)) (hA : ∀ G E σ, A.at_ G E σ → (A1 b0).at_ G E σ) (hj : ∀ b, j ∉ (A1 b).vs) (hb : ∀ b x, SdA (A1 b) tbd ((env1 b).set j (.pu tyI x)) W env1 A1 (step b x)) (hr : ∀ b, SdA (A1 b) rest (env1 b) W env B (f b)) :
    SdA A (tSeq (tFor (iRng1 (tCons te tNil)) (gName j) tbd) rest) Γ W env B (((aPair mn (some ())).bind mRng1).bind fun xs => thenF (forF step xs b0) f) := fun o e H0 G0 G H σ E S s R r D k => by
  obtain ⟨xs, ea, e⟩ := bind_inv e
  obtain ⟨p, ep, ea⟩ := bind_inv ea
  obtain ⟨n, en, ep⟩ := bind_inv ep
  obtain ⟨u, eu, ep⟩ := bind_inv ep
  cases ep
  obtain ⟨c, rfl⟩ := gd_inv ea
  have c := gR_ok c
  refine hn n en H0 (jn G E) H σ (hl H0 G H σ E S R r) _ fun v G1 H1 s1 r1 => ?_
  cases r1
  refine ⟨n, rfl, c.1, c.2, ?_⟩
  have sb := Stp.back S.m s1
  have hev : EvI (fun _ H R => R (Itr 0 n.toNat) H) Γ tyI (some (rngL 0 n.toNat)) := fun xs e H0 G H σ S R q => by
    cases e
    exact q _ G H (Stp.refl S.m) yld_rng
  exact sda_for hev w hA hj hb hr o e H0 G0 G H1 σ E (S.step sb) (s.trans sb) (R.step sb) r D k
end
end TP
set_option maxHeartbeats 2000000
namespace TP
open PySem PySem.Spec PyProof.Rows L2
section
variable {α β γ δ ι κ : Type} {te ta : TE} {Γ : TP.Env} {T : Ty α} {env : β → TP.Env} {rest t u tbd : TS} {W : Rt γ} {K : PySem.W.Frag}
def tyP (T : Ty α) : Ty (Option α) := ⟨fun H v o => match o with
  | none => v = .non
  | some x => T.rp H v x ∧ v ≠ .non, fun {H H' v o} e h => by
    cases o with
    | none => exact h
    | some x => exact ⟨T.mono e h.1, h.2⟩⟩
def mIsN (o : Option α) (_ : Unit) : Option Bool := some o.isNone
def mNotN (o : Option α) (_ : Unit) : Option Bool := some o.isSome
@[simp] theorem mIsN_ (o : Option α) (u : Unit) : mIsN o u = some o.isNone := rfl
@[simp] theorem mNotN_ (o : Option α) (u : Unit) : mNotN o u = some o.isSome := rfl
theorem opv_isP : OpV (fun x y H Q => y = .non ∧ Q (.bl (decide (x = .non))) H) (tyP T) tyN tyB mIsN := fun x y z e G H v u eG rv ru Q q => by
  cases e
  refine ⟨ru, q _ G H (Stp.refl eG) ?_⟩
  cases x with
  | none => rw [show v = .non from rv]; rfl
  | some x => rw [decide_eq_false rv.2]; rfl
theorem opv_notP : OpV (fun x y H Q => y = .non ∧ Q (.bl (!decide (x = .non))) H) (tyP T) tyN tyB mNotN := fun x y z e G H v u eG rv ru Q q => by
  cases e
  refine ⟨ru, q _ G H (Stp.refl eG) ?_⟩
  cases x with
  | none => rw [show v = .non from rv]; rfl
  | some x => rw [decide_eq_false rv.2]; rfl
theorem sd_upN {i : Nat} {x : Unit} {m : Option (Fl γ β)} (hi : Γ[i]? = some (.pu tyN x)) (h : Sd rest (Γ.set i (.pu (tyP T) none)) W env m) : Sd rest Γ W env m := fun o e H0 G0 G H σ S s D k =>
  h o e H0 G0 G H σ (S.retype hi fun v _ r => r) s D k
theorem sd_upS {i : Nat} {x : α} {m : Option (Fl γ β)} (hs : SomeT T) (hi : Γ[i]? = some (.pu T x)) (h : Sd rest (Γ.set i (.pu (tyP T) (some x))) W env m) : Sd rest Γ W env m := fun o e H0 G0 G H σ S s D k =>
  h o e H0 G0 G H σ (S.retype hi fun v _ r => ⟨r, hs _ _ _ r⟩) s D k
theorem sd_nar {i : Nat} {x : Option α} {f : α → Option (Fl γ β)} (hi : Γ[i]? = some (.pu (tyP T) x)) (h : ∀ y, Sd rest (Γ.set i (.pu T y)) W env (f y)) : Sd rest Γ W env (x.bind f) := fun o e H0 G0 G H σ S s D k => by
  obtain ⟨y, ey, e⟩ := bind_inv e
  subst ey
  exact h y o e H0 G0 G H σ (S.retype hi fun v _ r => r.1) s D k
end
end TP
set_option maxHeartbeats 2000000
namespace TP
open PySem PySem.Spec PyProof.Rows L2
def atW {α : Type} (U : Ty α) (G E : Hp) (v : V) (X : List (List α)) : Prop := ∃ (l : Addr) (as : List Addr), v = .ref l ∧ G l = some (.lst (as.map V.ref)) ∧ as.Nodup ∧ All2 (fun a ys => ∃ vs, E a = some (.lst vs) ∧ All2 (U.rp G) vs ys) as X
theorem lendW {α : Type} {U : Ty α} {G E : Hp} (hn : ∀ a, E a ≠ none → G a = none) : ∀ {as : List Addr} {X : List (List α)}, All2 (fun a ys => ∃ vs, E a = some (.lst vs) ∧ All2 (U.rp G) vs ys) as X → All2 ((tyL U).rp (jn G E)) (as.map V.ref) X
  | [], [], _ => trivial
  | a :: as, x :: X, h => by
    obtain ⟨vs, h1, h2⟩ := h.1
    exact ⟨⟨a, vs, rfl, by rw [jn_r (hn a (ne_none_of h1))]; exact h1, h2.mono fun _ _ q => U.mono (jn_ex G E) q⟩, lendW hn h.2⟩
  | [], _ :: _, h => h.elim
  | _ :: _, [], h => h.elim
def oW {α : Type} (U : Ty α) : OTy (List (List α)) := ⟨atW U, fun e h => by
  obtain ⟨l, as, h1, h2, h3, h4⟩ := h
  exact ⟨l, as, h1, e _ _ h2, h3, h4.mono fun a ys ⟨vs, q1, q2⟩ => ⟨vs, q1, q2.mono fun _ _ q => U.mono e q⟩⟩, tyL (tyL U), fun h hn => by
  obtain ⟨l, as, h1, h2, h3, h4⟩ := h
  exact ⟨l, _, h1, jn_l h2, lendW hn h4⟩⟩
section
variable {α β γ δ ι κ : Type} {te ta : TE} {Γ Γ' Γ0 Γx : TP.Env} {T : Ty α} {env : β → TP.Env} {rest t u tbd : TS} {W : Rt γ} {K : PySem.W.Frag} {O : OTy α} {U : Ty ι} {V0 : WX}
theorem sd_retCXR {m : Option (Res (List ι))} (h : EvXN te V0 Γ Γx K U m) : Sd (tSeq (tRet (tLst (tCons te tNil))) rest) Γ (xW (trR (oW U)) K V0 Γx) env ((xB m fun x => some (.ok [x])).bind fun r => some (.ret r)) := fun o e H0 G0 G H σ S s D k => by
  obtain ⟨r, ea, e⟩ := bind_inv e
  cases e
  obtain ⟨z, ez, ea⟩ := bind_inv ea
  refine h z ez H0 G H σ S _ ?_
  cases z with
  | er e1 => cases ea; exact fun cls d σ' G1 H1 S1 s1 r1 => k cls d σ' G1 H1 S1 (s.trans s1) s1.g r1
  | ok x =>
    cases ea
    intro a ws G1 H1 s1 hn hg hp r1
    refine ⟨(by show 1 ≤ sizeLine; rw [sizeLine_eq]; omega), fun p hp' => ?_⟩
    have sn := Stp.new (o := .lst [.ref a]) s1.m hp'
    have nap : a ≠ p := fun z => by rw [z, hp'] at hp; cases hp
    refine k (.ref p) _ _ (upd (fun _ => none) a (.lst ws)) (s.trans (s1.trans sn)) (fun b o hb => ?_) (fun b hb => ?_) ⟨p, [a], rfl, upd_same, by simp, ⟨ws, upd_same, r1.mono fun _ _ q => U.mono sn.g q⟩, trivial⟩
    · by_cases q : b = a
      · subst q; rw [upd_same] at hb; cases hb; exact sn.h _ _ hp
      · rw [upd_ne q] at hb; cases hb
    · by_cases q : b = a
      · subst q; exact ⟨by rw [upd_ne nap]; exact hg, s.h.non hn⟩
      · rw [upd_ne q] at hb; exact absurd rfl hb
theorem sd_retR0 {m : Option (List (List ι))} (hm : ∀ x, m = some x → x = []) (h : EvN te Γ (tyL U) m) : Sd (tSeq (tRet te) rest) Γ (trR (oW U)) env (rtF m) := fun o e H0 G0 G H σ S s D k => by
  obtain ⟨r, ea, e⟩ := bind_inv e
  cases e
  have := hm r ea
  subst this
  refine h [] ea H0 G H σ S _ fun p vs G1 H1 s1 hn hg hp r1 => ?_
  cases vs with
  | cons => exact r1.elim
  | nil => exact k (.ref p) (upd G1 p (.lst [])) H1 (fun _ => none) (s.trans (s1.freeze hn hg hp)) (fun b o hb => by cases hb) (fun b hb => absurd rfl hb) ⟨p, [], rfl, upd_same, .nil, trivial⟩
theorem sdt_nar {i j : Nat} {x : α} {y : Option ι} {f : ι → Option (Fl γ β)} (hj : Γ[j]? = some (.pu (tyP U) y)) (h : ∀ z, SdT O i x rest (Γ.set j (.pu U z)) W env (f z)) : SdT O i x rest Γ W env (y.bind f) := fun o e H0 G0 G H σ E v S s R hv r D k => by
  obtain ⟨z, ez, e⟩ := bind_inv e
  subst ez
  refine h z o e H0 G0 G H σ E v (S.retype hj fun v _ r => r.1) s ⟨R.m, R.n, fun l t a hl ht el => ?_⟩ hv r D k
  rcases set_get hl with ⟨rfl, rfl, _⟩ | ⟨nl, hl⟩
  · cases ht
  · exact R.o l t a hl ht el
def SdL (O : OTy α) (i : Nat) (x : α) (Γ0 : TP.Env) (ts : TS) (Γ : TP.Env) (W : Rt γ) (env : β → TP.Env) (m : Option (Fl γ β)) : Prop :=
  ∀ o, m = some o → ∀ H0 G0 G G2 H σ E v, Slots H0 G H σ Γ0 → Stp G0 H0 G H → Rg H0 G H σ Γ0 E → σ[i]? = some (some v) → O.rp G E v x → Slots H0 G2 H σ Γ → Ex (jn G E) G2 → ∀ D : Ends, FlOk D W env H0 G0 G o → ts D σ H
theorem sdl_in {i : Nat} {x : α} {ts : TS} {m : Option (Fl γ β)} (hi : Γ[i]? = some .no) (h : SdL O i x Γ ts (Γ.set i (.pu O.T x)) W env m) : SdT O i x ts Γ W env m := fun o e H0 G0 G H σ E v S s R hv r D k =>
  h o e H0 G0 G (jn G E) H σ E v S s R hv r (S.lendR R hv hi r) (Ex.refl _) D k
theorem sdl_out {i : Nat} {x : α} {ts : TS} {m : Option (Fl γ β)} (h : SdT O i x ts Γ0 W env m) : SdL O i x Γ0 ts Γ W env m := fun o e H0 G0 G G2 H σ E v S s R hv r _ _ D k =>
  h o e H0 G0 G H σ E v S s R hv r D k
theorem sdl_asg {i j : Nat} {x : α} {P : Ty ι} {m : Option ι} {f : ι → Option (Fl γ β)} (hij : i ≠ j) (hj : Γ0[j]? = some .no) (h : Ev te Γ P m) (hr : ∀ y, SdL O i x Γ0 rest (Γ.set j (.pu P y)) W env (f y)) : SdL O i x Γ0 (tSeq (tAsg te (gName j)) rest) Γ W env (m.bind f) := fun o e H0 G0 G G2 H σ E v S s R hv r S2 e2 D k => by
  obtain ⟨y, ea, e⟩ := bind_inv e
  refine h y ea H0 G2 H σ S2 _ fun w G3 H3 s3 r3 => ?_
  have sb := Stp.back S.m s3
  exact hr y o e H0 G0 G G3 H3 _ E v ((S.step sb).setNo hj) (s.trans sb) ((R.step sb).setNo hj) (by rw [List.getElem?_set_ne (Ne.symm hij)]; exact hv) r ((S2.step s3).set r3) (e2.trans s3.g) D k
theorem sdl_if {i : Nat} {x : α} {c : L2.TT} {mc : Option Bool} {mr : Option γ} {f : δ → Option (Fl γ β)} {d : δ} {env1 : δ → TP.Env} (hc : EvT c Γ mc) (hA : Sd t Γ0 W env1 (rtF mr)) (hr : SdL O i x Γ0 rest Γ W env (f d)) :
    SdL O i x Γ0 (tSeq (tIfS c t tNext) rest) Γ W env (thenF (mIf mc (rtF mr) (some (.nx d))) f) := fun o e H0 G0 G G2 H σ E v S s R hv r S2 e2 D k => by
  obtain ⟨y, ea, e⟩ := bind_inv e
  obtain ⟨b, ec, eb⟩ := bind_inv ea
  refine hc b ec H0 G2 H σ S2 _ fun G3 H3 s3 => ?_
  have sb := Stp.back S.m s3
  have S1 := S.step sb
  have s01 := s.trans sb
  cases b with
  | true =>
    rw [if_pos rfl] at eb ⊢
    refine hA y eb H0 G0 G H3 σ S1 s01 _ ?_
    cases y with
    | ret r => cases e; exact k
    | nx d' =>
      obtain ⟨_, _, eb⟩ := bind_inv eb
      cases eb
  | false =>
    rw [if_neg Bool.false_ne_true] at eb ⊢
    cases eb
    exact hr o e H0 G0 G G3 H3 σ E v S1 s01 (R.step sb) hv r (S2.step s3) (e2.trans s3.g) D k
theorem sdt_appW {i : Nat} {X : List (List ι)} {m : Option ι} {f : ι → Option (Fl γ β)} (h : Ev te Γ U m) (hr : ∀ y, Sd rest Γ W env (f y)) :
    SdT (oW U) i X (tSeq (tDrop (tBM K "list" rAppend (tOp (rIxL K) (tVar i) (tC (.int 0))) (tCons te tNil))) rest) Γ W env (m.bind fun y => (X[0]?).bind fun ys => if ys.length ≤ lim then f y else none) := fun o e H0 G0 G H σ E v S s R hv r D k => by
  obtain ⟨y, ea, e⟩ := bind_inv e
  obtain ⟨ys, eX, e⟩ := bind_inv e
  by_cases cl : ys.length ≤ lim
  case neg => rw [if_neg cl] at e; cases e
  rw [if_pos cl] at e
  obtain ⟨l, as, rfl, hl, nd, ra⟩ := r
  obtain ⟨a, hea, vs, hE, rv⟩ := ra.get eX
  have hH := R.m _ _ hE
  refine ⟨.ref l, hv, l, _, 0, .ref a, rfl, rfl, SqL.of (S.m _ _ hl), atI_nat (j := 0) (by rw [List.getElem?_map, hea]; rfl), .inl ⟨rfl, _, SqL.of hH⟩, ?_⟩
  refine h y ea H0 G H σ S _ fun w G1 H1 s1 r1 => ?_
  have S1 := S.step s1
  have R1 := R.step s1
  have hne := ne_none_of hE
  refine ⟨a, vs, w, rfl, rfl, s1.h _ _ hH, by rw [rv.len]; exact lim_lt cl, ?_⟩
  exact hr y o e H0 G0 G1 _ σ (S1.turnR R1 hne) ((s.trans s1).turn (R1.n a hne).2 (R1.n a hne).1) D (k.mono s1.g)
end
end TP
set_option maxHeartbeats 2000000
namespace LiV
open PySem PySem.Spec PyProof.Rows L2
def rValsL : V → Hp → VK → Prop := fun x H Q => ∃ (d : Addr) (kvs : List (Key × V)), x = .ref d ∧ H d = some (.dK kvs) ∧ ∀ p, H p = none → Q (.ref p) (upd H p (.lst (kvs.map (·.2))))
def tListVals (te : TE) : TE := fun σ H Q => te σ H fun x H1 => rValsL x H1 Q
theorem vals_items {kvs : List (Key × V)} {vs : List (Key × Value)} (kv : KV kvs vs) : ∀ {its : List Value}, its.length = vs.length → (∀ (i : Nat) (v : Value), its[i]? = some v → ∃ k : Key, vs[i]? = some (k, v)) → Vals (kvs.map (·.2)) its := by
  induction kv with
  | nil =>
    intro its hl _
    have : its = [] := List.length_eq_zero_iff.mp hl
    subst this
    exact .nil
  | cons r t ih =>
    intro its hl h
    cases its with
    | nil => simp at hl
    | cons x its =>
      obtain ⟨k, e⟩ := h 0 x rfl
      rename_i a0 b0 l1 l2
      have e2 : b0 = (k, x) := by simpa using e
      refine .cons ?_ (ih (by simpa using hl) fun i v hv => ?_)
      · have := r.2
        rw [e2] at this
        exact this
      · obtain ⟨k, e⟩ := h (i + 1) v (by simpa using hv)
        exact ⟨k, by simpa using e⟩
section
variable {X : Cx} {e : Expr} {te : TE} {p apos cpos pos : Pos}
theorem pe_listVals (hc : X.calm = true) (he : PE X e te) (hg : Gl X "list") (hm : X.mg "list" = none) (hv : bootBuiltins "list" = some (.type "list")) (hbase : attributeBase e "values" X.env (eval e X.env) = eval e X.env := by rfl) (hline : (apos.endLine == cpos.line) = true := by rfl)
    (hs : starEach [.Call (.Attribute e "values" apos) [] [] cpos] X.env = (false, eval (.Call (.Attribute e "values" apos) [] [] cpos) X.env) :: starEach [] X.env := by rfl) :
    PE X (.Call (.Name "list" p) [.Call (.Attribute e "values" apos) [] [] cpos] [] pos) (tListVals te) := by
  refine ⟨fun pins s σ H Q I hq => ?_⟩
  refine wpAny_Call_Name_kw (ld_blt I hg hm hv ?_)
  refine PyProof.Rows.callWith_type1 ?_ hs rfl
  rw [hs]
  show wpAny _ _ (spliced ((false, eval (.Call (.Attribute e "values" apos) [] [] cpos) X.env) :: backTo pos (starEach [] X.env))) _ _ s
  refine Calls.spliced_cons ?_
  refine wpAny_Call_method (T := "dict") (id := "dict.values") hbase rfl hline F.plainAttrs_dict F.slot_dict_values F.type_dict_values (thn (he.run pins s σ H _ I hq) fun u s1 ⟨x, H1, I1, rx, d, kvs, ex, hd, q⟩ => ?_)
  subst ex
  obtain rfl : u = Value.ref d := rx
  obtain ⟨hz, hs0, vs, kv, hdo⟩ := I1.hok d _ hd
  obtain ⟨ep, hat⟩ := hdo.dictAt
  have lk : kvs.length = vs.length := Paired.length kv
  have I2 : Inv X pins σ H1 { s1 with heap := s1.heap.push { cls := .type "dict_values", data := .fields #[.ref d] } } := I1.kept (t' := s1.toks) fun b ob q => Heap.get?_push_of_some _ q
  refine ⟨hdo.typeIs, hdo.mapOf.noDict, ?_⟩
  show wpAny _ _ (callWith cpos (.builtin "dict.values") [.ref d] [] []) _ X.xe s1
  refine method_meetsIn F.slot_dict_values F.entry_dict_values rfl (PySem.evalArgs_none ⟨rfl, hdo.typeIs, F.args_dict_values_1 _, _, meets_dict_values (mixKind X.prog X.w) d hs0, ⟨vs, hdo⟩, ?_⟩)
  refine Calls.spliced_nil ?_
  refine PySem.W.kdl_call (PySem.W.kdl_values (knd := mixKind X.prog X.w) (kvs := vs) (ep := ep)) (I1.ok.hd hc) ⟨⟨_, Heap.get?_push_size _ rfl, rfl, rfl⟩, hat.push _⟩ (by omega) fun h' tk acc c hk hS hI => ?_
  refine ⟨.ref _, _, I2.laid (t' := tk) hk (Nat.le_refl _) (o := .lst (kvs.map (·.2))) ⟨by rw [List.length_map]; omega, acc.toList, c, vals_items kv ?_ ?_, by rw [Array.toArray_toList]; exact hS⟩, rfl, q _ (I2.hok.fresh (Nat.le_refl _))⟩
  · rw [Array.length_toList]; exact hI.1
  · exact fun i v hv => hI.2 i v (by rw [← Array.getElem?_toList]; exact hv)
end
end LiV
set_option maxHeartbeats 2000000
namespace TP
open PySem PySem.Spec PyProof.Rows L2
def keyD (p : Int × Int) : Key × V := (.inl p.1, .int p.2)
def iD (kvs : List (Int × Int)) : HO := .dK (kvs.map keyD)
def getI (kvs : List (Int × Int)) (k : Int) : Option Int := (kvs.find? fun p => decide (p.1 = k)).map (·.2)
def putI (kvs : List (Int × Int)) (k v : Int) : List (Int × Int) :=
  if (kvs.any fun p => decide (p.1 = k)) = true then kvs.map (fun p => if p.1 = k then (p.1, v) else p) else kvs ++ [(k, v)]
theorem key_inj {a b : Int} : ((.inl a : Key) = .inl b) ↔ a = b := ⟨fun h => Sum.inl.inj h, fun h => by rw [h]⟩
theorem val_getI (kvs : List (Int × Int)) (k : Int) : L2.valV (kvs.map keyD) (.inl k) = (getI kvs k).map V.int := by
  induction kvs with
  | nil => rfl
  | cons p r ih =>
    by_cases h : p.1 = k
    · rw [List.map_cons, L2.valV_pos (p := keyD p) (key_inj.mpr h)]
      simp [getI, List.find?_cons, h, keyD]
    · rw [List.map_cons, L2.valV_neg (p := keyD p) (fun z => h (key_inj.mp z)), ih]
      simp [getI, List.find?_cons, h]
theorem put_putI (kvs : List (Int × Int)) (k v : Int) : L2.putK (kvs.map keyD) (.inl k : Key) (.int v) = (putI kvs k v).map keyD := by
  have ha : ((kvs.map keyD).any fun kv => decide (kv.1 = (.inl k : Key))) = kvs.any fun p => decide (p.1 = k) := by
    rw [List.any_map]
    congr 1
    funext p
    exact decide_eq_decide.mpr key_inj
  unfold L2.putK putI
  rw [ha]
  by_cases c : (kvs.any fun p => decide (p.1 = k)) = true
  · rw [if_pos c, if_pos c, List.map_map, List.map_map]
    congr 1
    funext p
    show (if (.inl p.1 : Key) = .inl k then ((.inl p.1 : Key), V.int v) else keyD p) = keyD (if p.1 = k then (p.1, v) else p)
    by_cases h : p.1 = k
    · rw [if_pos (key_inj.mpr h), if_pos h]; rfl
    · rw [if_neg (fun z => h (key_inj.mp z)), if_neg h]
  · rw [if_neg c, if_neg c, List.map_append]; rfl
def tyDct : Ty (List (Int × Int)) := ⟨fun G v x => ∃ d, v = .ref d ∧ G d = some (iD x), fun e ⟨d, h1, h2⟩ => ⟨d, h1, e d _ h2⟩⟩
def oD : OTy (List (Int × Int)) where
  rp _ E v x := ∃ d, v = .ref d ∧ E d = some (iD x)
  mono _ h := h
  T := tyDct
  lend := fun ⟨d, h1, h2⟩ hn => ⟨d, h1, by rw [jn_r (hn d (ne_none_of h2))]; exact h2⟩
section
variable {α β γ δ ι κ : Type} {te ta td ty tv tx t1 t2 tb ti : TE} {Γ Γ' : TP.Env} {T : Ty α} {U : Ty β} {env : δ → TP.Env} {rest : TS} {W : Rt γ} {K : PySem.W.Frag} {A : RA} {B : δ → RA}
theorem evr_dnew : EvR tDNewK Γ oD (some []) := fun x e H0 G H σ S Q q p hp => by
  cases e
  refine q (.ref p) G (upd H p (.dK [])) (upd (fun _ => none) p (.dK [])) (Stp.priv S.m hp) (fun a o h => ?_) (fun a ha => ?_) ⟨p, rfl, upd_same⟩
  · by_cases z : a = p
    · rw [z] at h ⊢; rw [upd_same] at h ⊢; exact h
    · rw [upd_ne z] at h; cases h
  · by_cases z : a = p
    · rw [z]; exact ⟨S.m.non hp, hp⟩
    · rw [upd_ne z] at ha; exact absurd rfl ha
def mDGet (md : Option (List (Int × Int))) (mk mz : Option Int) : Option Int := md.bind fun d => mk.bind fun k => mz.bind fun z => some ((getI d k).getD z)
@[simp] theorem mDGet_some (d : List (Int × Int)) (k z : Int) : mDGet (some d) (some k) (some z) = some ((getI d k).getD z) := rfl
theorem ev_dget2 {md : Option (List (Int × Int))} {mk mz : Option Int} (hd : Ev td Γ tyDct md) (hk : Ev ty Γ tyI mk) (hz : Ev tx Γ tyI mz) : Ev (tDGet2 td ty tx) Γ tyI (mDGet md mk mz) := fun x e H0 G H σ S Q q => by
  obtain ⟨d, ed, e⟩ := bind_inv e
  obtain ⟨k, ek, e⟩ := bind_inv e
  obtain ⟨z, ez, e⟩ := bind_inv e
  cases e
  refine hd d ed H0 G H σ S _ fun v G1 H1 s1 ⟨a, ea, h1⟩ => ?_
  refine ⟨a, ea, .inl ⟨_, .inl (s1.m _ _ h1)⟩, ?_⟩
  refine hk k ek H0 G1 H1 σ (S.step s1) _ fun v2 G2 H2 s2 r2 => ?_
  refine hz z ez H0 G2 H2 σ ((S.step s1).step s2) _ fun v3 G3 H3 s3 r3 => ?_
  have h3 : H3 a = some (iD d) := s3.m _ _ (s3.g _ _ (s2.g _ _ h1))
  have r2' : v2 = kV (.inl k) := r2
  have r3' : v3 = .int z := r3
  subst r2'; subst r3'
  refine ⟨_, DGet.k h3, ?_⟩
  rw [val_getI]
  have : ((getI d k).map V.int).getD (.int z) = .int ((getI d k).getD z) := by cases getI d k <;> rfl
  rw [this]
  exact q _ G3 H3 ((s1.trans s2).trans s3) rfl
def mDVals (md : Option (List (Int × Int))) : Option (List Int) := md.bind fun d => some (d.map (·.2))
@[simp] theorem mDVals_some (d : List (Int × Int)) : mDVals (some d) = some (d.map (·.2)) := rfl
theorem evn_dvals {md : Option (List (Int × Int))} (hd : Ev td Γ tyDct md) : EvN (LiV.tListVals td) Γ tyI (mDVals md) := fun x e H0 G H σ S Q q => by
  obtain ⟨d, ed, e⟩ := bind_inv e
  cases e
  refine hd d ed H0 G H σ S _ fun v G1 H1 s1 ⟨a, ea, h1⟩ => ?_
  refine ⟨a, _, ea, s1.m _ _ h1, fun p hp => ?_⟩
  refine q p _ G1 _ (s1.trans (Stp.priv s1.m hp)) (s1.h.non hp) (s1.m.non hp) upd_same ?_
  have : ∀ l : List (Int × Int), All2 (tyI.rp G1) ((l.map keyD).map (·.2)) (l.map (·.2)) := fun l => by
    induction l with
    | nil => trivial
    | cons p l ih => exact ⟨rfl, ih⟩
  exact this d
theorem raO_ne {O : OTy α} {i j : Nat} {x : α} (h : j ≠ i) : j ∉ (raO O i x).vs := fun z => h (List.mem_singleton.mp z)
theorem room1 {n m : Nat} (h : n + 64 < m) : n + 1 < m := by omega
theorem sda_dput {i : Nat} {d : List (Int × Int)} {mk mv : Option Int} {f : Int → Int → Option (Fl γ δ)} (hl : Lends (raO oD i d) Γ Γ') (hv : Ev tv Γ' tyI mv) (hk : Ev ty Γ' tyI mk) (hr : ∀ k v, SdA (raO oD i (putI d k v)) rest Γ W env B (f k v)) :
    SdA (raO oD i d) (tSeq (sDPut (tVar i) ty tv) rest) Γ W env B (mv.bind fun v => mk.bind fun k => if d.length ≤ lim then f k v else none) := fun o e H0 G0 G H σ E S s R r D kk => by
  obtain ⟨v, ev, e⟩ := bind_inv e
  obtain ⟨k, ek, e⟩ := bind_inv e
  by_cases cl : d.length ≤ lim
  case neg => rw [if_neg cl] at e; cases e
  rw [if_pos cl] at e
  obtain ⟨w, h1, a, ea, hE⟩ := r
  subst ea
  have hne := ne_none_of hE
  refine hv v ev H0 (jn G E) H σ (hl H0 G H σ E S R ⟨_, h1, a, rfl, hE⟩) _ fun u G1 H1 s1 r1 => ?_
  have sb := Stp.back S.m s1
  have S1 := S.step sb
  have R1 := R.step sb
  refine ⟨_, h1, ?_⟩
  refine hk k ek H0 (jn G E) H1 σ (hl H0 G H1 σ E S1 R1 ⟨_, h1, a, rfl, hE⟩) _ fun u2 G2 H2 s2 r2 => ?_
  have sb2 := Stp.back S1.m s2
  have S2 := S1.step sb2
  have R2 := R1.step sb2
  have r1' : u = .int v := r1
  have r2' : u2 = kV (.inl k) := r2
  subst r1'; subst r2'
  have h2 : H2 a = some (.dK (d.map keyD)) := R2.m _ _ hE
  refine ⟨a, _, rfl, DPut.k h2 (by rw [List.length_map]; exact lim_lt cl), ?_⟩
  rw [put_putI]
  exact hr k v o e H0 G0 G _ σ (upd E a (iD (putI d k v))) (S2.turnR R2 hne) (((s.trans sb).trans sb2).turn (R2.n a hne).2 (R2.n a hne).1) (R2.turn hne) ⟨_, h1, a, rfl, upd_same⟩ D kk
def mAlt (i : Int) (a b : Option α) : Option α := if i = 0 then a else if i = 1 then b else none
@[simp] theorem mAlt_0 (a b : Option α) : mAlt 0 a b = a := rfl
@[simp] theorem mAlt_1 (a b : Option α) : mAlt 1 a b = b := rfl
theorem ev_alt {i : Int} {m1 m2 : Option α} (h1 : i = 0 → Ev t1 Γ T m1) (h2 : i = 1 → Ev t2 Γ T m2) : Ev (tOr t1 t2) Γ T (mAlt i m1 m2) := fun x e H0 G H σ S Q q => by
  unfold mAlt at e
  split at e
  · exact .inl (h1 ‹_› x e H0 G H σ S Q q)
  · split at e
    · exact .inr (h2 ‹_› x e H0 G H σ S Q q)
    · cases e
theorem evn_alt {i : Int} {m1 m2 : Option (List α)} (h1 : i = 0 → EvN t1 Γ T m1) (h2 : i = 1 → EvN t2 Γ T m2) : EvN (tOr t1 t2) Γ T (mAlt i m1 m2) := fun x e H0 G H σ S Q q => by
  unfold mAlt at e
  split at e
  · exact .inl (h1 ‹_› x e H0 G H σ S Q q)
  · split at e
    · exact .inr (h2 ‹_› x e H0 G H σ S Q q)
    · cases e
theorem ev_ixA0 {i : Int} {ma : Option α} {mb : Option β} (hi0 : i = 0) (ha : Ev ta Γ T ma) (hb : Ev tb Γ U mb) (hi : Ev ti Γ tyI (some i)) : Ev (tOp (rIxL K) (tLst (tCons ta (tCons tb tNil))) ti) Γ T (ma.bind fun a => mb.bind fun _ => some a) := fun z e H0 G H σ S Q q => by
  obtain ⟨x, ea, e⟩ := bind_inv e
  obtain ⟨y, eb, e⟩ := bind_inv e
  cases e
  refine ha z ea H0 G H σ S _ fun v G1 H1 s1 r1 => ?_
  refine hb y eb H0 G1 H1 σ (S.step s1) _ fun u G2 H2 s2 r2 => ?_
  refine ⟨by show 2 ≤ _; decide, fun p hp => ?_⟩
  have s3 := Stp.new (o := .lst [v, u]) s2.m hp
  refine hi i rfl H0 _ _ σ (((S.step s1).step s2).step s3) _ fun w G3 H3 s4 r4 => ?_
  have r4' : w = .int i := r4
  subst r4'
  refine ⟨p, [v, u], i, v, rfl, rfl, SqL.of (s4.h _ _ upd_same), by rw [hi0]; rfl, q v G3 H3 (((s1.trans s2).trans s3).trans s4) (T.mono ((s2.g.trans s3.g).trans s4.g) r1)⟩
theorem ev_ixA1 {i : Int} {ma : Option α} {mb : Option β} (hi0 : i = 1) (ha : Ev ta Γ T ma) (hb : Ev tb Γ U mb) (hi : Ev ti Γ tyI (some i)) : Ev (tOp (rIxL K) (tLst (tCons ta (tCons tb tNil))) ti) Γ U (ma.bind fun _ => mb.bind fun b => some b) := fun z e H0 G H σ S Q q => by
  obtain ⟨x, ea, e⟩ := bind_inv e
  obtain ⟨y, eb, e⟩ := bind_inv e
  cases e
  refine ha x ea H0 G H σ S _ fun v G1 H1 s1 r1 => ?_
  refine hb z eb H0 G1 H1 σ (S.step s1) _ fun u G2 H2 s2 r2 => ?_
  refine ⟨by show 2 ≤ _; decide, fun p hp => ?_⟩
  have s3 := Stp.new (o := .lst [v, u]) s2.m hp
  refine hi i rfl H0 _ _ σ (((S.step s1).step s2).step s3) _ fun w G3 H3 s4 r4 => ?_
  have r4' : w = .int i := r4
  subst r4'
  refine ⟨p, [v, u], i, u, rfl, rfl, SqL.of (s4.h _ _ upd_same), by rw [hi0]; rfl, q u G3 H3 (((s1.trans s2).trans s3).trans s4) (U.mono (s3.g.trans s4.g) r2)⟩
def tyP2 (K : PySem.W.Frag) : Ty (Int × Int × Unit) := tyH K (aC tyI (aC tyI aN))
def u2 (p : Int × Int × Unit) : List Int := [p.1, p.2.1]
def p2 (l : List Int) : Int × Int × Unit := (l.headD 0, l.tail.headD 0, ())
theorem p2_u2 (p : Int × Int × Unit) : p2 (u2 p) = p := rfl
theorem p2_tyU {H : Hp} {v : V} {p : Int × Int × Unit} : (tyP2 K).rp H v p → (tyU K tyI).rp H v (u2 p) := fun ⟨a, vs, h1, h2, x, r, e1, r1, y, r', e2, r2, e3⟩ => by
  have e3' : r' = [] := e3
  subst e3'; subst e2; subst e1
  exact ⟨a, _, h1, h2, r1, r2, trivial⟩
def mSortP (p : List (Int × Int × Unit) × Unit) : Option (List (Int × Int × Unit)) := some ((isortU (p.1.map u2)).map p2)
theorem all2_map {δ ε ζ : Type} {R : δ → ε → Prop} {f : ζ → ε} : ∀ {xs : List δ} {l : List ζ}, All2 (fun v z => R v (f z)) xs l → All2 R xs (l.map f)
  | [], [], _ => trivial
  | _ :: _, _ :: _, h => ⟨h.1, all2_map h.2⟩
  | [], _ :: _, h => h.elim
  | _ :: _, [], h => h.elim
theorem cn_sortedP : CallN (rSortedU K) (aC (tyL (tyH K (aC tyI (aC tyI aN)))) aN) (tyH K (aC tyI (aC tyI aN))) mSortP := fun p z e G H vs eG r Q q => by
  cases e
  obtain ⟨v, rfl, a, ws, rfl, ha, rr⟩ := one_arg r
  refine ⟨a, ws, p.1.map u2, fun v b => (tyP2 K).rp G v (p2 b), rfl, SqL.of (eG _ _ ha), all2_map (rr.mono fun v y q => p2_tyU (K := K) (Ty.mono (tyP2 K) eG q)), all2_map (rr.mono fun v y q => by rw [p2_u2]; exact q), fun b hb e => ?_, fun ys l hy hl => ?_⟩
  · obtain ⟨x, _, rfl⟩ := List.mem_map.mp hb
    cases e
  · rw [sortU_eq] at hy
    exact q l ys G _ (Stp.priv eG hl) hl (eG.non hl) upd_same (all2_map hy)
end
end TP
namespace TP
open PySem PySem.Spec PyProof.Rows L2
def u3 (p : Int × Int × Int × Unit) : List Int := [p.1, p.2.1, p.2.2.1]
theorem p3_tyU {K : PySem.W.Frag} {H : Hp} {v : V} {p : Int × Int × Int × Unit} : (tyH K (aC tyI (aC tyI (aC tyI aN)))).rp H v p → (tyU K tyI).rp H v (u3 p) := fun ⟨a, vs, h1, h2, x, r, e1, r1, y, r', e2, r2, z, r'', e3, r3, e4⟩ => by
  have e4' : r'' = [] := e4
  subst e4'; subst e3; subst e2; subst e1
  exact ⟨a, _, h1, h2, r1, r2, r3, trivial⟩
theorem ev_u3 {K : PySem.W.Frag} {Γ : TP.Env} {te : TE} {m : Option (List (Int × Int × Int × Unit))} (h : Ev te Γ (tyL (tyH K (aC tyI (aC tyI (aC tyI aN))))) m) : Ev te Γ (tyL (tyU K tyI)) (m.bind fun xs => some (xs.map u3)) := fun z e H0 G H σ S Q q => by
  obtain ⟨x, ea, e⟩ := bind_inv e
  cases e
  refine h x ea H0 G H σ S _ fun v G1 H1 s1 r1 => ?_
  obtain ⟨a, vs, h1, h2, h3⟩ := r1
  exact q v G1 H1 s1 ⟨a, vs, h1, h2, all2_map (h3.mono fun _ _ q => p3_tyU q)⟩
end TP
namespace TP
open PySem PySem.Spec PyProof.Rows L2
section
variable {α β γ : Type} {te : TE} {Γ Γx : TP.Env} {T : Ty α} {env : β → TP.Env} {rest ts : TS} {W : Rt γ} {K : PySem.W.Frag} {V : WX}
theorem sd_asgXN {i : Nat} {m : Option (Res (List α))} {f : List α → Option (Fl (Res γ) β)} (h : EvXN te V Γ Γx K T m) (hr : ∀ x, Sd rest (Γ.set i (.ow T x)) (xW W K V Γx) env (f x)) : Sd (tSeq (tAsg te (gName i)) rest) Γ (xW W K V Γx) env (xF m f) := fun o e H0 G0 G H σ S s D k => by
  obtain ⟨z, ea, e⟩ := bind_inv e
  cases z with
  | ok x => exact sd_asgN (mx := some x) (f := f) (fun y ey H0 G H σ S Q q => by cases ey; exact h (.ok x) ea H0 G H σ S Q q) hr o e H0 G0 G H σ S s D k
  | er e1 =>
    refine h (.er e1) ea H0 G H σ S _ ?_
    cases e
    exact fun cls d σ' G1 H1 S1 s1 r1 => k cls d σ' G1 H1 S1 (s.trans s1) s1.g r1
theorem sd_none {W : Rt γ} : Sd ts Γ W env none := fun o e => by cases e
def slN (T : Ty α) : Option (List α) → Slot
  | none => .pu tyN ()
  | some ys => .ow T ys
end
end TP
namespace TP
open PySem PySem.Spec PyProof.Rows L2
section
variable {α β δ γ : Type} {te : TE} {Γ Γx : TP.Env} {T : Ty α} {U : Ty δ} {K : PySem.W.Frag} {V : WX}
theorem evxn_callL {i : Nat} {xs : List δ} {A : ATy β} {f : β → Option (Res (List α))} {mp : Option β} {t : TA} (hi : Γ[i]? = some (.ow U xs)) (hf : NoL T) (wk : Wk Γ Γx) (h : EvA t (Γ.set i (.pu (tyL U) xs)) A mp) : EvXN (tCallS (spXN K A T f) (WE V) t) V Γ Γx K T (mp.bind f) := fun z e H0 G H σ S Q q => by
  obtain ⟨x, ea, ef⟩ := bind_inv e
  obtain ⟨p, vs, ep, hp, hg, h0, r, S'⟩ := S.lend hi
  refine h x ea H0 _ H σ S' _ fun us G1 H1 s1 r1 => ⟨x, z, G1, ef, s1.m, r1, ?_⟩
  have strip : ∀ G' H', Stp (upd G p (.lst vs)) H G' H' → Stp G H (fun a => if a = p then none else G' a) H' := fun G' H' s => ⟨fun a o ea => by
      have c : a ≠ p := ne_of_none ea hg
      show (if a = p then none else G' a) = _
      rw [if_neg c]
      exact s.g _ _ (by rw [upd_ne c]; exact ea), s.h, fun a o ea => by
      by_cases c : a = p
      · have ea' : (if a = p then none else G' a) = some o := ea
        rw [if_pos c] at ea'; cases ea'
      · have ea' : (if a = p then none else G' a) = some o := ea
        rw [if_neg c] at ea'
        exact s.m _ _ ea', fun a ha hga => by
      show (if a = p then none else G' a) = none
      by_cases c : a = p
      · rw [if_pos c]
      · rw [if_neg c]
        exact s.p a ha (by rw [upd_ne c]; exact hga)⟩
  have back : ∀ G' H', Stp (upd G p (.lst vs)) H G' H' → G' = upd (fun a => if a = p then none else G' a) p (.lst vs) := fun G' H' s => funext fun a => by
    by_cases c : a = p
    · subst c; rw [upd_same]; exact s.g _ _ upd_same
    · rw [upd_ne c]; show _ = if a = p then none else G' a; rw [if_neg c]
  cases z with
  | ok y =>
    intro a ws G2 H2 s2 hn hga ha rv
    have s := s1.trans s2
    have nop : (fun a => if a = p then none else G2 a) p = none := if_pos rfl
    refine q a ws (fun a => if a = p then none else G2 a) H2 (strip G2 H2 s) (s1.h.non hn) ?_ ha (rv.mono fun v x q => hf _ p vs v x nop (by rw [← back G2 H2 s]; exact q))
    show (if a = p then none else G2 a) = none
    by_cases c : a = p
    · rw [if_pos c]
    · rw [if_neg c]; exact hga
  | er e1 =>
    intro cls d G2 H2 s2 r2
    have s := s1.trans s2
    refine q cls d σ (fun a => if a = p then none else G2 a) H2 ((S.step (strip G2 H2 s)).wk wk) (strip G2 H2 s) ?_
    obtain ⟨h1, h2 | ⟨dd, ws, h3, h4, h5⟩⟩ := r2
    · exact ⟨h1, .inl h2⟩
    · refine ⟨h1, .inr ⟨dd, ws, h3, ?_, h5⟩⟩
      have c : dd ≠ p := fun z => by
        rw [z, back G2 H2 s, upd_same] at h4
        cases h4
      show (if dd = p then none else G2 dd) = _
      rw [if_neg c]
      exact h4
end
end TP
set_option maxHeartbeats 2000000
namespace TP
open PySem PySem.Spec PyProof.Rows L2
def tyW {α β : Type} (T : Ty α) (U : Ty β) : Ty (α ⊕ β) :=
  ⟨fun G v x => match x with
    | .inl a => T.rp G v a
    | .inr b => U.rp G v b, fun {G G' v x} e h => match x, h with
    | .inl _, h => T.mono e h
    | .inr _, h => U.mono e h⟩
def oS {α β : Type} (O : OTy α) (U : Ty β) : OTy (α ⊕ β) where
  rp G E v x := match x with
    | .inl a => O.rp G E v a
    | .inr b => U.rp G v b
  mono := fun {G G' E v x} e h => match x, h with
    | .inl _, h => O.mono e h
    | .inr _, h => U.mono e h
  T := tyW O.T U
  lend := fun {G E v x} h hn => match x, h with
    | .inl _, h => O.lend h hn
    | .inr _, h => U.mono (jn_ex G E) h
section
variable {α β γ δ ι κ : Type} {te : TE} {Γ Γx : TP.Env} {T : Ty α} {U : Ty β} {env : δ → TP.Env} {rest ts : TS} {W : Rt γ} {K : PySem.W.Frag} {O : OTy α} {V0 : WX} {i : Nat}
theorem ev_wl {m : Option α} (h : Ev te Γ T m) : Ev te Γ (tyW T U) (m.bind fun x => some (.inl x)) := fun z e H0 G H σ S Q q => by
  obtain ⟨x, ea, e⟩ := bind_inv e
  cases e
  exact h x ea H0 G H σ S Q fun v G' H' s r => q v G' H' s r
theorem ev_wr {m : Option β} (h : Ev te Γ U m) : Ev te Γ (tyW T U) (m.bind fun x => some (.inr x)) := fun z e H0 G H σ S Q q => by
  obtain ⟨x, ea, e⟩ := bind_inv e
  cases e
  exact h x ea H0 G H σ S Q fun v G' H' s r => q v G' H' s r
theorem sd_wl {a : α} {m : Option (Fl γ δ)} (hi : Γ[i]? = some (.pu (tyW T U) (.inl a))) (h : Sd ts (Γ.set i (.pu T a)) W env m) : Sd ts Γ W env m := fun o e H0 G0 G H σ S s D k =>
  h o e H0 G0 G H σ (S.retype hi fun _ _ r => r) s D k
theorem sd_wr {b : β} {m : Option (Fl γ δ)} (hi : Γ[i]? = some (.pu (tyW T U) (.inr b))) (h : Sd ts (Γ.set i (.pu U b)) W env m) : Sd ts Γ W env m := fun o e H0 G0 G H σ S s D k =>
  h o e H0 G0 G H σ (S.retype hi fun _ _ r => r) s D k
theorem sd_lw {a : α} {m : Option (Fl γ δ)} (hi : Γ[i]? = some (.pu T a)) (h : Sd ts (Γ.set i (.pu (tyW T U) (.inl a))) W env m) : Sd ts Γ W env m := fun o e H0 G0 G H σ S s D k =>
  h o e H0 G0 G H σ (S.retype hi fun _ _ r => r) s D k
theorem sd_rw {b : β} {m : Option (Fl γ δ)} (hi : Γ[i]? = some (.pu U b)) (h : Sd ts (Γ.set i (.pu (tyW T U) (.inr b))) W env m) : Sd ts Γ W env m := fun o e H0 G0 G H σ S s D k =>
  h o e H0 G0 G H σ (S.retype hi fun _ _ r => r) s D k
theorem evr_inl {m : Option α} (h : EvR te Γ O m) : EvR te Γ (oS O U) (m.bind fun x => some (.inl x)) := fun z e H0 G H σ S Q q => by
  obtain ⟨x, ea, e⟩ := bind_inv e
  cases e
  exact h x ea H0 G H σ S Q fun v G' H' E s hE hn r => q v G' H' E s hE hn r
theorem evr_inr {m : Option β} (h : Ev te Γ U m) : EvR te Γ (oS O U) (m.bind fun x => some (.inr x)) := fun z e H0 G H σ S Q q => by
  obtain ⟨x, ea, e⟩ := bind_inv e
  cases e
  exact h x ea H0 G H σ S Q fun v G' H' s r => q v G' H' (fun _ => none) s (fun b o hb => by cases hb) (fun b hb => absurd rfl hb) r
theorem sd_retSr {m : Option β} (h : Ev te Γ U m) : Sd (tSeq (tRet te) rest) Γ (trR (oS O U)) env (rtF (m.bind fun x => some (.inr x))) := fun o e H0 G0 G H σ S s D k => by
  obtain ⟨r, ea, e⟩ := bind_inv e
  cases e
  obtain ⟨x, ex, ea⟩ := bind_inv ea
  cases ea
  exact h x ex H0 G H σ S _ fun v G1 H1 s1 r1 => k v G1 H1 (fun _ => none) (s.trans s1) (fun b o hb => by cases hb) (fun b hb => absurd rfl hb) r1
theorem sd_retCXSl {U' : Ty ι} {m : Option (Res (List ι))} (h : EvXN te V0 Γ Γx K U' m) : Sd (tSeq (tRet (tLst (tCons te tNil))) rest) Γ (xW (trR (oS (oW U') U)) K V0 Γx) env ((xB m fun x => some (.ok (Sum.inl [x]))).bind fun r => some (.ret r)) := fun o e H0 G0 G H σ S s D k => by
  obtain ⟨r, ea, e⟩ := bind_inv e
  cases e
  obtain ⟨z, ez, ea⟩ := bind_inv ea
  refine h z ez H0 G H σ S _ ?_
  cases z with
  | er e1 => cases ea; exact fun cls d σ' G1 H1 S1 s1 r1 => k cls d σ' G1 H1 S1 (s.trans s1) s1.g r1
  | ok x =>
    cases ea
    intro a ws G1 H1 s1 hn hg hp r1
    refine ⟨(by show 1 ≤ sizeLine; rw [sizeLine_eq]; omega), fun p hp' => ?_⟩
    have sn := Stp.new (o := .lst [.ref a]) s1.m hp'
    have nap : a ≠ p := fun z => by rw [z, hp'] at hp; cases hp
    refine k (.ref p) _ _ (upd (fun _ => none) a (.lst ws)) (s.trans (s1.trans sn)) (fun b o hb => ?_) (fun b hb => ?_) ⟨p, [a], rfl, upd_same, by simp, ⟨ws, upd_same, r1.mono fun _ _ q => U'.mono sn.g q⟩, trivial⟩
    · by_cases q : b = a
      · subst q; rw [upd_same] at hb; cases hb; exact sn.h _ _ hp
      · rw [upd_ne q] at hb; cases hb
    · by_cases q : b = a
      · subst q; exact ⟨by rw [upd_ne nap]; exact hg, s.h.non hn⟩
      · rw [upd_ne q] at hb; exact absurd rfl hb
theorem sdt_sl {a : α} {m : Option (Fl γ δ)} (h : SdT O i a ts Γ W env m) : SdT (oS O U) i (.inl a) ts Γ W env m := fun o e H0 G0 G H σ E v S s R hv r D k => h o e H0 G0 G H σ E v S s R hv r D k
end
end TP
namespace TP
open PySem PySem.Spec PyProof.Rows L2
theorem evg_pairN {α β : Type} {K : PySem.W.Frag} {Γ : TP.Env} {i : Nat} {A : Ty α} {B : Ty β} {g : TG} {is : List Nat} {Δ : α → β → TP.Env} (hg : ∀ x, EvG g is (Γ.set i (.pu A x)) B (Δ x)) : EvG (gTup K 2 (gCons (gName i) (gCons g gNil))) (i :: is) Γ (tyH K (aC A (aC B aN))) (fun x => Δ x.1 x.2.1) := fun x v H0 G H σ S r Q q => by
  obtain ⟨a, vs, rfl, ha, v1, r1, rfl, h1, v2, r2, rfl, h2, h3⟩ := r
  cases h3
  refine ⟨a, [v1, v2], rfl, SqT.mono S.m ha, rfl, v1, [v2], rfl, v2, [], rfl, ?_⟩
  refine hg x.1 x.2.1 v2 H0 G H _ (S.set h1) h2 _ fun σ' S' hw => ⟨rfl, ?_⟩
  exact q _ S' fun vs h => by
    rw [hw vs fun j hj => h j (List.mem_cons_of_mem _ hj), wipe_set (h i List.mem_cons_self)]
end TP
namespace TP
open PySem PySem.Spec PyProof.Rows L2
def t3 : List Int → Option (Int × Int × Int × Unit)
  | [a, b, c] => some (a, b, c, ())
  | _ => none
theorem t3_inv {l : List Int} {p : Int × Int × Int × Unit} (h : t3 l = some p) : l = [p.1, p.2.1, p.2.2.1] := by
  match l, h with
  | [a, b, c], h => cases h; rfl
theorem tyU_t3 {K : PySem.W.Frag} {H : Hp} {v : V} {l : List Int} {p : Int × Int × Int × Unit} (e : t3 l = some p) (r : (tyU K tyI).rp H v l) : (tyH K (aC tyI (aC tyI (aC tyI aN)))).rp H v p := by
  rw [t3_inv e] at r
  obtain ⟨a, vs, h1, h2, h3⟩ := r
  match vs, h3 with
  | [x, y, z], ⟨r1, r2, r3, _⟩ => exact ⟨a, _, h1, h2, x, [y, z], rfl, r1, y, [z], rfl, r2, z, [], rfl, r3, rfl⟩
theorem ev_t3 {K : PySem.W.Frag} {Γ : TP.Env} {te : TE} {m : Option (List Int)} (h : Ev te Γ (tyU K tyI) m) : Ev te Γ (tyH K (aC tyI (aC tyI (aC tyI aN)))) (m.bind t3) := fun z e H0 G H σ S Q q => by
  obtain ⟨x, ea, e⟩ := bind_inv e
  exact h x ea H0 G H σ S _ fun v G1 H1 s1 r1 => q v G1 H1 s1 (tyU_t3 e r1)
def t3L : List (List Int) → Option (List (Int × Int × Int × Unit))
  | [] => some []
  | x :: xs => (t3 x).bind fun p => (t3L xs).bind fun ps => some (p :: ps)
theorem all2_t3 {K : PySem.W.Frag} {H : Hp} : ∀ {vs : List V} {xs : List (List Int)} {ps : List (Int × Int × Int × Unit)}, t3L xs = some ps → All2 ((tyU K tyI).rp H) vs xs → All2 ((tyH K (aC tyI (aC tyI (aC tyI aN)))).rp H) vs ps
  | [], [], ps, e, _ => by cases e; trivial
  | v :: vs, x :: xs, ps, e, h => by
    obtain ⟨p, ep, e⟩ := bind_inv e
    obtain ⟨qs, eq, e⟩ := bind_inv e
    cases e
    exact ⟨tyU_t3 ep h.1, all2_t3 eq h.2⟩
  | [], _ :: _, _, _, h => h.elim
  | _ :: _, [], _, _, h => h.elim
theorem ev_t3L {K : PySem.W.Frag} {Γ : TP.Env} {te : TE} {m : Option (List (List Int))} (h : Ev te Γ (tyL (tyU K tyI)) m) : Ev te Γ (tyL (tyH K (aC tyI (aC tyI (aC tyI aN))))) (m.bind t3L) := fun z e H0 G H σ S Q q => by
  obtain ⟨x, ea, e⟩ := bind_inv e
  refine h x ea H0 G H σ S _ fun v G1 H1 s1 r1 => ?_
  obtain ⟨a, vs, h1, h2, h3⟩ := r1
  exact q v G1 H1 s1 ⟨a, vs, h1, h2, all2_t3 e h3⟩
end TP
set_option maxHeartbeats 2000000
namespace TP
open PySem PySem.Spec PyProof.Rows L2
section
variable {α β γ δ ρ ξ κ ι : Type} {P : Program} {w : World} {K : PySem.W.Frag} {mg : Str → Option Value} {base : Heap}
theorem ok_or {k k1 k2 : Nat} {f : Addr} {ps : List Str} {s1 s2 : Sp} (h1 : k1 ≤ k) (h2 : k2 ≤ k) (F1 : Ok P w K mg base k1 f ps s1) (F2 : Ok P w K mg base k2 f ps s2) : Ok P w K mg base k f ps (fun vs H Q E => s1 vs H Q E ∨ s2 vs H Q E) := by
  obtain ⟨⟨fd1, G1, b1, l1⟩, kp⟩ := F1
  obtain ⟨⟨fd2, G2, b2, l2⟩, _⟩ := F2
  have e := l1.uniq l2
  subst e
  refine ⟨⟨fd1, ⟨fun vs H Q E q => q.elim (G1.len vs H Q E) (G2.len vs H Q E), fun A outer s H args us vs Q E hr he hb hv hs => ?_⟩, b1, l1⟩, kp⟩
  rcases hs with hs | hs
  · exact (G1.mono h1).run A outer s H args us vs Q E hr he hb hv hs
  · exact (G2.mono h2).run A outer s H args us vs Q E hr he hb hv hs
theorem ok_sum0 {k k1 k2 : Nat} {f : Addr} {ps : List Str} {A : ATy ρ} {T1 : Ty α} {T2 : Ty β} {T : Ty γ} {g1 : α × ρ → Option γ} {g2 : β × ρ → Option γ} {g : (α ⊕ β) × ρ → Option γ} (h1 : k1 ≤ k) (h2 : k2 ≤ k) (e1 : ∀ a r, g (.inl a, r) = g1 (a, r)) (e2 : ∀ b r, g (.inr b, r) = g2 (b, r))
    (F1 : Ok P w K mg base k1 f ps (spOf (aC T1 A) T g1)) (F2 : Ok P w K mg base k2 f ps (spOf (aC T2 A) T g2)) : Ok P w K mg base k f ps (spOf (aC (tyW T1 T2) A) T g) := by
  obtain ⟨⟨fd, G, b, l⟩, kp⟩ := ok_or h1 h2 F1 F2
  refine ⟨⟨fd, G.imp fun vs H Q E q => ?_, b, l⟩, kp⟩
  obtain ⟨⟨x, y⟩, r, G', ef, eG, ra, q⟩ := q
  cases x with
  | inl a => exact .inl ⟨(a, y), r, G', by rw [← e1]; exact ef, eG, ra, q⟩
  | inr b => exact .inr ⟨(b, y), r, G', by rw [← e2]; exact ef, eG, ra, q⟩
theorem ok_sum1 {k k1 k2 : Nat} {f : Addr} {ps : List Str} {A : ATy ρ} {X : Ty ξ} {T1 : Ty α} {T2 : Ty β} {T : Ty γ} {g1 : ξ × α × ρ → Option γ} {g2 : ξ × β × ρ → Option γ} {g : ξ × (α ⊕ β) × ρ → Option γ} (h1 : k1 ≤ k) (h2 : k2 ≤ k) (e1 : ∀ x a r, g (x, .inl a, r) = g1 (x, a, r)) (e2 : ∀ x b r, g (x, .inr b, r) = g2 (x, b, r))
    (F1 : Ok P w K mg base k1 f ps (spOf (aC X (aC T1 A)) T g1)) (F2 : Ok P w K mg base k2 f ps (spOf (aC X (aC T2 A)) T g2)) : Ok P w K mg base k f ps (spOf (aC X (aC (tyW T1 T2) A)) T g) := by
  obtain ⟨⟨fd, G, b, l⟩, kp⟩ := ok_or h1 h2 F1 F2
  refine ⟨⟨fd, G.imp fun vs H Q E q => ?_, b, l⟩, kp⟩
  obtain ⟨⟨z, x, y⟩, r, G', ef, eG, ra, q⟩ := q
  cases x with
  | inl a => exact .inl ⟨(z, a, y), r, G', by rw [← e1]; exact ef, eG, ra, q⟩
  | inr b => exact .inr ⟨(z, b, y), r, G', by rw [← e2]; exact ef, eG, ra, q⟩
theorem ist_V {A : ATy α} {B : ATy β} : IsT K (tyV K A B) "tuple" := fun H v x r => by
  cases x with
  | inl a => exact ist_H (K := K) (A := A) H v a r
  | inr b => exact ist_H (K := K) (A := B) H v b r
def mIsW (b1 b2 : Bool) (p : (α ⊕ β) × Unit × Unit) : Option Bool := some (Sum.elim (fun _ => b1) (fun _ => b2) p.1)
theorem cv_isW {T1 : Ty α} {T2 : Ty β} {t1 t2 n : String} {b1 b2 : Bool} (h1 : IsT K T1 t1) (k1 : kitB t1 n = some b1) (h2 : IsT K T2 t2) (k2 : kitB t2 n = some b2) : CallV (rIsi K) (aC (tyW T1 T2) (aC (tyC n) aN)) tyB (mIsW b1 b2) := fun p z e G H vs eG r Q q => by
  obtain ⟨x, u⟩ := p
  cases x with
  | inl a => exact cv_isi h1 k1 (a, u) z e G H vs eG r Q q
  | inr b => exact cv_isi h2 k2 (b, u) z e G H vs eG r Q q
theorem eqvAll_len : ∀ (xs ys : List PyData), xs.length ≠ ys.length → PyData.eqvAll xs ys = false
  | [], [], h => absurd rfl h
  | [], _ :: _, _ => by simp [PyData.eqvAll]
  | _ :: _, [], _ => by simp [PyData.eqvAll]
  | x :: xs, y :: ys, h => by
    show (PyData.eqv x y && PyData.eqvAll xs ys) = false
    rw [eqvAll_len xs ys (fun e => h (by simp [e])), Bool.and_false]
theorem enc_V [DecidableEq α] [DecidableEq β] {A : ATy α} {B : ATy β} {f : α → List PyData} {g : β → List PyData} {n m a b : Nat} (h : EncA K A f n) (k : EncA K B g m) (ha : ∀ x, (f x).length = a) (hb : ∀ x, (g x).length = b) (hab : a ≠ b) :
    Enc K (tyV K A B) (Sum.elim (fun x => .tuple (f x)) (fun x => .tuple (g x))) (max n m + 1) :=
  ⟨fun H v x r => by
    cases x with
    | inl x => exact (enc_H h).dp H v x r
    | inr x => exact (enc_H k).dp H v x r,
   fun x y => by
    cases x with
    | inl x => cases y with
      | inl y =>
        show PyData.eqv (.tuple (f x)) (.tuple (f y)) = _
        rw [(enc_H h).eqv]; by_cases q : x = y <;> simp [q]
      | inr y =>
        show PyData.eqvAll (f x) (g y) = _
        rw [eqvAll_len _ _ (by rw [ha, hb]; exact hab)]; simp
    | inr x => cases y with
      | inl y =>
        show PyData.eqvAll (g x) (f y) = _
        rw [eqvAll_len _ _ (by rw [ha, hb]; exact fun e => hab e.symm)]; simp
      | inr y =>
        show PyData.eqv (.tuple (g x)) (.tuple (g y)) = _
        rw [(enc_H k).eqv]; by_cases q : x = y <;> simp [q],
   fun x => by
    cases x with
    | inl x => have := (enc_H h).dep x; show (PyData.tuple (f x)).depth ≤ _; omega
    | inr x => have := (enc_H k).dep x; show (PyData.tuple (g x)).depth ≤ _; omega⟩
end
section
variable {α β γ δ δ' κ κ' ι : Type} {te : TE} {Γ : TP.Env} {T : Ty α} {U : Ty β} {env : δ' → TP.Env} {rest ts t u : TS} {W : Rt γ} {K : PySem.W.Frag} {i j : Nat}
theorem wk_refl : ∀ Γ : TP.Env, Wk Γ Γ
  | [] => .nil
  | _ :: Γ => .same (wk_refl Γ)
def isL : α ⊕ β → Bool := Sum.elim (fun _ => true) (fun _ => false)
theorem sd_ifW {env1 : δ → TP.Env} {c : L2.TT} {x : α ⊕ β} {mA : α → Option (Fl γ δ)} {mB : β → Option (Fl γ δ)} {f : δ → Option (Fl γ δ')} (hi : Γ[i]? = some (.pu (tyW T U) x)) (hc : EvT c Γ (some (isL x))) (hA : ∀ a, Sd t (Γ.set i (.pu T a)) W env1 (mA a)) (hB : ∀ b, Sd u (Γ.set i (.pu U b)) W env1 (mB b)) (hr : ∀ b, Sd rest (env1 b) W env (f b)) :
    Sd (tSeq (tIfS c t u) rest) Γ W env (thenF (Sum.elim mA mB x) f) := by
  cases x with
  | inl a => exact sd_if (mA := mA a) (mB := none) hc (sd_wl hi (hA a)) (fun o e => by cases e) hr
  | inr b => exact sd_if (mA := none) (mB := mB b) hc (fun o e => by cases e) (sd_wr hi (hB b)) hr
def mAppS (x : List (List ι) ⊕ β) (y : κ ⊕ κ') (m : Option ι) : Option Unit := Sum.elim (fun _ => Sum.elim (fun X => m.bind fun _ => (X[0]?).bind fun ys => if ys.length ≤ lim then some () else none) (fun _ => none) x) (fun _ => some ()) y
theorem sdt_ifAppS {c : L2.TT} {x : List (List ι) ⊕ β} {y : κ ⊕ κ'} {I : Ty ι} {m : Option ι} {f : Unit → Option (Fl γ δ')} (hc : EvT c Γ (some (isL y))) (h : Ev te Γ I m) (hr : Sd rest Γ W env (f ())) :
    SdT (oS (oW I) U) i x (tSeq (tIfS c (tSeq (tDrop (tBM K "list" rAppend (tOp (rIxL K) (tVar i) (tC (.int 0))) (tCons te tNil))) tNext) tNext) rest) Γ W env ((mAppS x y m).bind f) := fun o e H0 G0 G H σ E v S s R hv r D k => by
  obtain ⟨b, ea, e⟩ := bind_inv e
  refine hc _ rfl H0 G H σ S _ fun G1 H1 s1 => ?_
  have S1 := S.step s1
  have R1 := R.step s1
  have s01 := s.trans s1
  have go : FlOk { D with nx := rest D } W (fun _ : Unit => Γ) H0 G0 G1 (.nx ()) := fun σ2 G2 H2 S2 s2 e2 => hr o e H0 G0 G2 H2 σ2 S2 s2 D (k.mono (s1.g.trans e2))
  cases y with
  | inr y =>
    show tNext _ _ _
    exact go σ G1 H1 S1 s01 (Ex.refl _)
  | inl y =>
    cases x with
    | inr x => cases ea
    | inl X =>
      obtain ⟨z, ez, ea⟩ := bind_inv ea
      refine (sdt_sl (U := U) (sdt_appW (f := fun _ => some (.nx ())) h fun _ => sd_nx (env := fun _ : Unit => Γ) (wk_refl _))) (.nx ()) ?_ H0 G0 G1 H1 σ E v S1 s01 R1 hv (oS (oW I) U |>.mono s1.g r) _ go
      rw [ez]
      show ((X[0]?).bind fun ys => if ys.length ≤ lim then some (Fl.nx ()) else none) = _
      obtain ⟨ys, ey, ea⟩ := bind_inv ea
      rw [ey]
      by_cases cl : ys.length ≤ lim
      · show (if ys.length ≤ lim then some (Fl.nx ()) else none) = _
        rw [if_pos cl]
      · rw [if_neg cl] at ea; cases ea
end
end TP
set_option maxHeartbeats 2000000
namespace L2
open PySem PySem.Spec PyProof.Rows
section
variable {X : Cx}
def isTupO (o : Obj) : Prop := o.cls = .type "tuple" ∧ o.dict = none
def tTupZ (t : TA) : TE := fun σ H Q => t σ H fun xs H1 => xs.length ≤ sizeLine ∧ ∀ p o, isTupO o → H1 p = none → Q (.ref p) (upd H1 p (.frz o (.tup xs)))
theorem pe_tupZ {es : List Expr} {t : TA} {pos : Pos} {x1} (h : PA X es t) : PE X (.Tuple es x1 pos) (tTupZ t) := by
  refine ⟨fun pins s σ H Q I hq => ?_⟩
  refine wpAny_Tuple_spliced (thn (h.run pos pins s σ H _ I hq) fun us s1 ⟨xs, H1, I1, r, z, q⟩ => ⟨by rw [← r.length]; exact z, ?_⟩)
  have hf : H1 s1.heap.objs.size = none := I1.hok.fresh (Nat.le_refl _)
  refine ⟨.ref s1.heap.objs.size, upd H1 s1.heap.objs.size (.frz { cls := .type "tuple", data := .seq us.toArray } (.tup xs)), I1.laid (t' := s1.toks) (fun b u e => Heap.get?_push_of_some _ e) (Nat.le_refl _) ?_, rfl, q _ _ ⟨rfl, rfl⟩ hf⟩
  exact ⟨Heap.get?_push_size _ rfl, z, us, r, ⟨_, Heap.get?_push_size _ rfl, rfl, _, rfl⟩⟩
def rTupleZ (K : PySem.W.Frag) : List V → Hp → VK → Prop := fun xs H Q => ∃ p ys, xs = [.ref p] ∧ SqL K H p ys ∧ ∀ l o, isTupO o → H l = none → Q (.ref l) (upd H l (.frz o (.tup ys)))
theorem call_tupleZ : CallR X (.type "tuple") (rTupleZ X.K) := by
  intro pins s σ H xs us Q I r h
  obtain ⟨p, ys, rfl, hq, q⟩ := h
  obtain ⟨u, rfl, rx⟩ := vals1 r
  cases rx
  obtain ⟨its, r', pl, hz⟩ := I.list hq
  have hlen := r'.length
  refine call_tuple_list pl.isList (fun h' kp => ?_) (by simp only [List.size_toArray] <;> omega)
  have I1 : Inv X pins σ H { s with heap := h' } := I.kept (t' := s.toks) kp
  have I2 : Inv X pins σ (upd H h'.objs.size (.frz { cls := .type "tuple", data := .seq its.toArray } (.tup ys))) { s with heap := h'.push { cls := .type "tuple", data := .seq its.toArray } } :=
    I1.laid (t' := s.toks) (fun b o e => Heap.get?_push_of_some _ e) (Nat.le_refl _) (show ObjOk X.prog X.w _ _ _ (.frz _ (.tup ys)) from ⟨Heap.get?_push_size _ rfl, hz, its, r', IsTup.new _ _⟩)
  exact ⟨.ref h'.objs.size, _, I2, rfl, q _ _ ⟨rfl, rfl⟩ (I1.hok.fresh (Nat.le_refl _))⟩
def tBMZ (r : V → List V → Hp → VK → Prop) (to : TE) (t : TA) : TE := fun σ H Q => to σ H fun x H1 => (∃ p o xs, x = .ref p ∧ H1 p = some (.frz o (.tup xs)) ∧ isTupO o) ∧ t σ H1 fun xs H2 => r x xs H2 Q
theorem pe_bmZ {o e : Expr} {es : List Expr} {to : TE} {t : TA} {name : Str} {apos cpos : Pos} {id : String} {r : V → List V → Hp → VK → Prop} (pa : PlainAttrs "tuple") (slot : Slot "tuple" name id) (hty : typeOf (.builtin id) = pure (.type "method_descriptor")) (hm : MtR X id r) (ho : PE X o to) (ha : PA X (e :: es) t)
    (hbase : attributeBase o name X.env (eval o X.env) = eval o X.env := by rfl)
    (hfew : ((backTo cpos (starEach (e :: es) X.env)).all (fun x => !x.1) && (backToKw cpos (keywordEach [] X.env)).all (fun x => x.1.isSome)
      && decide ((e :: es).length + ([] : List Keyword).length + (if ([] : List Keyword).isEmpty then 0 else 1) < 30)) = true := by rfl)
    (hline : (apos.endLine == cpos.line) = true := by rfl) (hs : starEach (e :: es) X.env = (false, eval e X.env) :: starEach es X.env := by rfl) (hplain : (backTo cpos (starEach es X.env)).any (·.1) = false := by rfl) :
    PE X (.Call (.Attribute o name apos) (e :: es) [] cpos) (tBMZ r to t) := by
  refine ⟨fun pins s σ H Q I h => ?_⟩
  refine wpAny_Call_method_late hbase hfew hline rfl (thn (ho.run pins s σ H _ I h) fun v s1 ⟨x, H1, I1, r1, ⟨p, ob, xs, ex, hp, hc, hd⟩, q1⟩ => ?_)
  subst ex
  obtain rfl : v = Value.ref p := r1
  obtain ⟨eo, _⟩ := (show ObjOk X.prog X.w H1 s1.heap p (.frz ob (.tup xs)) from I1.hok p _ hp)
  refine ⟨"tuple", id, pa, slot, hty, ⟨ob, eo, hc⟩, fun a ea => by cases ea; exact ⟨ob, eo, hd⟩, ?_⟩
  have hA := ha.run cpos pins s1 σ H1 _ I1 q1
  rw [hs] at hA ⊢
  refine Calls.callWith_builtin (by show (false || (backTo cpos (starEach es X.env)).any (·.1)) = false; rw [hplain] <;> rfl) (Calls.evalArgs_plain ?_)
  exact thn hA fun us s2 ⟨vs, H2, I2, r2, q2⟩ => hm pins s2 σ H2 (.ref p) vs (.ref p) us Q I2 rfl r2 q2
theorem mt_tindexE (hu : X.A.units + 64 < cLine) : MtR X "tuple.index" (rIndexE X.K true) := by
  intro pins s σ H x xs v us Q I rx rxs h
  obtain ⟨a, ys, y, d, ds, j, z, rfl, rfl, hs, ha, hy, sl, sd, hdp, hz, hzj, hno, q⟩ := h
  cases rx
  cases rxs with
  | cons ry rt =>
    rename_i uy ut
    cases rt
    obtain ⟨bs, r1⟩ := Dp.reads I d y uy hy ry
    have hroom : X.A.units + 1 + min (PyData.depthAll ds) d.depth < cLine := room_inE hdp hu
    have hs : SqT X.K H a ys := hs
    obtain ⟨its, rv, ⟨⟨cls, dd, data, sls⟩, ho, hc, n, hdt⟩, hlen⟩ := I.tuple hs
    simp only at hc hdt
    subst hc hdt
    obtain ⟨as, h4⟩ := Dp.readsAll I ds _ its ha rv
    have hn : its.length = ds.length := SeqAt.ReadsAll.length ds its as h4
    have hmap : its.map (SeqAt.readOf s.heap) = ds := SeqAt.readsAll_map ds its as sl h4
    obtain ⟨hjd, _⟩ := List.getElem?_eq_some_iff.mp hz
    have hjl : j < its.length := by omega
    have hj : j < its.toArray.size := by simpa using hjl
    have at_ : ∀ (m : Nat) (hm : m < its.toArray.size) (z' : PyData), ds[m]? = some z' → SeqAt.readOf s.heap its.toArray[m] = z' := by
      intro m hm z' hz'
      have hml : m < its.length := by simpa using hm
      rw [← hmap, List.getElem?_map, List.getElem?_eq_getElem hml] at hz'
      have e1 : SeqAt.readOf s.heap its[m] = z' := Option.some.inj (show some (SeqAt.readOf s.heap its[m]) = some z' from hz')
      simpa using e1
    refine call_meets PySem.F.slot_tuple_index ⟨_, ho, rfl⟩ PySem.F.entry_tuple_index (PySem.F.args_tuple_index_2 _ _)
      (_root_.TI.tuple_indexAt a its.toArray n dd sls uy (fun u => PyData.eqv (SeqAt.readOf s.heap u) d) j hj ?_ ?_) ⟨ho, SeqAt.items_eqAt (vs := its.toArray) (show ReadsAll s.heap its.toArray.toList ds as from h4) r1 sl sd hroom, ?_⟩
    · show PyData.eqv (SeqAt.readOf s.heap its.toArray[j]) d = true
      rw [at_ j hj z hz]
      exact hzj
    · intro m hm hmj
      have hmd : m < ds.length := by omega
      have hz' : ds[m]? = some ds[m] := List.getElem?_eq_getElem hmd
      show PyData.eqv (SeqAt.readOf s.heap its.toArray[m]) d = false
      rw [at_ m hm _ hz']
      exact hno m _ hmj hz'
    · exact ⟨.int (j : Nat), H, I.tok _, ⟨_, rfl⟩, q⟩
def rCountE (K : PySem.W.Frag) (tup : Bool) : V → List V → Hp → VK → Prop := fun x xs H Q => ∃ (a : Addr) (ys : List V) (y : V) (d : PyData) (ds : List PyData), x = V.ref a ∧ xs = [y] ∧ (if tup then SqT K H a ys else SqL K H a ys) ∧ DpAll K H ys ds ∧ Dp K H y d ∧
  PyData.canLayAll0 ds = true ∧ d.canLay0 = true ∧ d.depth ≤ 60 ∧ Q (.int ((ds.countP fun z => PyData.eqv z d : Nat) : Int)) H
theorem mt_tcountE (hu : X.A.units + 64 < cLine) : MtR X "tuple.count" (rCountE X.K true) := by
  intro pins s σ H x xs v us Q I rx rxs h
  obtain ⟨a, ys, y, d, ds, rfl, rfl, hs, ha, hy, sl, sd, hdp, q⟩ := h
  cases rx
  cases rxs with
  | cons ry rt =>
    rename_i uy ut
    cases rt
    obtain ⟨bs, r1⟩ := Dp.reads I d y uy hy ry
    have hroom : X.A.units + 1 + min (PyData.depthAll ds) d.depth < cLine := room_inE hdp hu
    have hs : SqT X.K H a ys := hs
    obtain ⟨its, rv, ⟨⟨cls, dd, data, sls⟩, ho, hc, n, hdt⟩, hlen⟩ := I.tuple hs
    simp only at hc hdt
    subst hc hdt
    obtain ⟨as, h4⟩ := Dp.readsAll I ds _ its ha rv
    have hmap : its.map (SeqAt.readOf s.heap) = ds := SeqAt.readsAll_map ds its as sl h4
    have hcnt : its.toArray.toList.countP (fun u => PyData.eqv (SeqAt.readOf s.heap u) d) = ds.countP fun z => PyData.eqv z d := by
      rw [← hmap, List.countP_map]; rfl
    rw [← hcnt] at q
    exact call_meets PySem.F.slot_tuple_count ⟨_, ho, rfl⟩ PySem.F.entry_tuple_count (PySem.F.args_tuple_count_2 _ _)
      (SeqAt.tuple_countAt a its.toArray n dd sls uy (fun u => PyData.eqv (SeqAt.readOf s.heap u) d)) ⟨ho, SeqAt.items_eqAt (vs := its.toArray) (show ReadsAll s.heap its.toArray.toList ds as from h4) r1 sl sd hroom, ⟨.int _, H, I.tok _, ⟨_, rfl⟩, q⟩⟩
theorem mt_countE (hu : X.A.units + 64 < cLine) : MtR X "list.count" (rCountE X.K false) := by
  intro pins s σ H x xs v us Q I rx rxs h
  obtain ⟨a, ys, y, d, ds, rfl, rfl, hs, ha, hy, sl, sd, hdp, q⟩ := h
  cases rx
  cases rxs with
  | cons ry rt =>
    rename_i uy ut
    cases rt
    obtain ⟨bs, r1⟩ := Dp.reads I d y uy hy ry
    have hroom : X.A.units + 1 + min (PyData.depthAll ds) d.depth < cLine := room_inE hdp hu
    have hs : SqL X.K H a ys := hs
    obtain ⟨its, rv, ⟨⟨cls, dd, data, sls⟩, n, ho, hc, hdn, hdt⟩, hlen⟩ := I.list hs
    simp only at hc hdt
    subst hc hdt
    obtain ⟨as, h4⟩ := Dp.readsAll I ds _ its ha rv
    have hmap : its.map (SeqAt.readOf s.heap) = ds := SeqAt.readsAll_map ds its as sl h4
    have hcnt : its.toArray.toList.countP (fun u => PyData.eqv (SeqAt.readOf s.heap u) d) = ds.countP fun z => PyData.eqv z d := by
      rw [← hmap, List.countP_map]; rfl
    rw [← hcnt] at q
    exact call_meets PySem.F.slot_list_count ⟨_, ho, rfl⟩ PySem.F.entry_list_count (PySem.F.args_list_count_2 _ _)
      (SeqAt.list_countAt a its.toArray n dd sls uy (fun u => PyData.eqv (SeqAt.readOf s.heap u) d)) ⟨ho, SeqAt.items_eqAt (vs := its.toArray) (show ReadsAll s.heap its.toArray.toList ds as from h4) r1 sl sd hroom, ⟨.int _, H, I.tok _, ⟨_, rfl⟩, q⟩⟩
end
end L2
namespace TP
open PySem PySem.Spec PyProof.Rows L2
section
variable {K : PySem.W.Frag} {α β γ δ : Type} {Γ : TP.Env} {T : Ty α} {te ta tx : TE}
def tyZ {α : Type} (T : Ty α) : Ty (List α) :=
  ⟨fun H v xs => ∃ a vs o, v = .ref a ∧ H a = some (.frz o (.tup vs)) ∧ isTupO o ∧ All2 (T.rp H) vs xs, fun e ⟨a, vs, o, h1, h2, h3, h4⟩ => ⟨a, vs, o, h1, e a _ h2, h3, h4.mono fun _ _ q => T.mono e q⟩⟩
def tyT {α : Type} (T : Ty α) : Ty (List α) :=
  ⟨fun H v xs => ∃ a vs, v = .ref a ∧ H a = some (.tup vs) ∧ All2 (T.rp H) vs xs, fun e ⟨a, vs, h1, h2, h3⟩ => ⟨a, vs, h1, e a _ h2, h3.mono fun _ _ q => T.mono e q⟩⟩
theorem z_U {H : Hp} {v : V} {xs : List α} : (tyZ T).rp H v xs → (tyU K T).rp H v xs := fun ⟨a, vs, o, h1, h2, _, h4⟩ => ⟨a, vs, h1, .inl (.inr ⟨o, h2⟩), h4⟩
theorem t_U {H : Hp} {v : V} {xs : List α} : (tyT T).rp H v xs → (tyU K T).rp H v xs := fun ⟨a, vs, h1, h2, h4⟩ => ⟨a, vs, h1, SqT.of h2, h4⟩
theorem ev_zU {m : Option (List α)} (h : Ev te Γ (tyZ T) m) : Ev te Γ (tyU K T) m := fun x e H0 G H σ S Q q => h x e H0 G H σ S Q fun v G' H' s r => q v G' H' s (z_U r)
theorem ev_tU {m : Option (List α)} (h : Ev te Γ (tyT T) m) : Ev te Γ (tyU K T) m := fun x e H0 G H σ S Q q => h x e H0 G H σ S Q fun v G' H' s r => q v G' H' s (t_U r)
theorem nol_Z (h : NoL T) : NoL (tyZ T) := fun G p vs v xs hg ⟨a, ws, o, e, ha, ho, r⟩ => by
  have c : a ≠ p := fun z => by rw [z, upd_same] at ha; cases ha
  rw [upd_ne c] at ha
  exact ⟨a, ws, o, e, ha, ho, r.mono fun _ _ q => h G p vs _ _ hg q⟩
theorem nol_T (h : NoL T) : NoL (tyT T) := fun G p vs v xs hg ⟨a, ws, e, ha, r⟩ => by
  have c : a ≠ p := fun z => by rw [z, upd_same] at ha; cases ha
  rw [upd_ne c] at ha
  exact ⟨a, ws, e, ha, r.mono fun _ _ q => h G p vs _ _ hg q⟩
theorem some_Z : SomeT (tyZ T) := fun G v x ⟨a, vs, o, e, _⟩ => by rw [e]; intro z; cases z
theorem some_T : SomeT (tyT T) := fun G v x ⟨a, vs, e, _⟩ => by rw [e]; intro z; cases z
theorem enc_Z [DecidableEq α] {enc : α → PyData} {n : Nat} (h : Enc K T enc n) : Enc K (tyZ T) (fun xs => .tuple (xs.map enc)) (n + 1) :=
  ⟨fun H v x r => (enc_U h).dp H v x (z_U r), (enc_U h).eqv, (enc_U h).dep⟩
theorem enc_T [DecidableEq α] {enc : α → PyData} {n : Nat} (h : Enc K T enc n) : Enc K (tyT T) (fun xs => .tuple (xs.map enc)) (n + 1) :=
  ⟨fun H v x r => (enc_U h).dp H v x (t_U r), (enc_U h).eqv, (enc_U h).dep⟩
theorem ev_tupZ {ta : TA} {m : Option (List α)} (h : EvAs ta Γ T m) : Ev (tTupZ ta) Γ (tyZ T) (lmt m) := fun x e H0 G H σ S Q q => by
  obtain ⟨e, hl⟩ := lmt_inv e
  refine h x e H0 G H σ S _ fun vs G1 H1 s1 r1 => ⟨by rw [r1.len]; exact lim_sz hl, fun p o ho hp => ?_⟩
  have sn := Stp.new (o := .frz o (.tup vs)) s1.m hp
  exact q _ _ _ (s1.trans sn) ⟨p, vs, o, rfl, upd_same, ho, r1.mono fun _ _ z => T.mono sn.g z⟩
theorem ev_tupT {ta : TA} {m : Option (List α)} (h : EvAs ta Γ T m) : Ev (tTup ta) Γ (tyT T) (lmt m) := fun x e H0 G H σ S Q q => by
  obtain ⟨e, hl⟩ := lmt_inv e
  refine h x e H0 G H σ S _ fun vs G1 H1 s1 r1 => ⟨by rw [r1.len]; exact lim_sz hl, fun p hp => ?_⟩
  have sn := Stp.new (o := .tup vs) s1.m hp
  exact q _ _ _ (s1.trans sn) ⟨p, vs, rfl, upd_same, r1.mono fun _ _ z => T.mono sn.g z⟩
theorem cv_tupleLZ : CallV (rTupleZ K) (aC (tyL T) aN) (tyZ T) mId := fun p z e G H vs eG r Q q => by
  cases e
  obtain ⟨v, rfl, a, ws, rfl, ha, rr⟩ := one_arg r
  exact ⟨a, ws, rfl, SqL.of (eG _ _ ha), fun l o ho hl => by
    have s := Stp.new (o := .frz o (.tup ws)) eG hl
    exact q _ _ _ s ⟨l, ws, o, rfl, upd_same, ho, rr.mono fun _ _ z => T.mono s.g z⟩⟩
theorem cv_tupleLT : CallV (rTupleQ K) (aC (tyL T) aN) (tyT T) mId := fun p z e G H vs eG r Q q => by
  cases e
  obtain ⟨v, rfl, a, ws, rfl, ha, rr⟩ := one_arg r
  exact ⟨a, ws, rfl, .inl ⟨SqL.of (eG _ _ ha), fun l hl => by
    have s := Stp.new (o := .tup ws) eG hl
    exact q _ _ _ s ⟨l, ws, rfl, upd_same, rr.mono fun _ _ z => T.mono s.g z⟩⟩⟩
theorem ev_indexZ [DecidableEq α] {enc : α → PyData} {n : Nat} (h : Enc K T enc n) (l : Lay enc) (hn : n ≤ 60) {ml : Option (List α)} {mx : Option α} (hl : Ev te Γ (tyZ T) ml) (hx : Ev tx Γ T mx) : Ev (tBMZ (rIndexE K true) te (tCons tx tNil)) Γ tyI (ml.bind fun xs => mx.bind fun x => mIdx xs x) := fun z e H0 G H σ S Q q => by
  obtain ⟨xs, e1, e⟩ := bind_inv e
  obtain ⟨x, e2, e⟩ := bind_inv e
  unfold mIdx at e
  cases k : idxO x xs with
  | none => rw [k] at e; cases e
  | some j =>
    rw [k] at e
    cases e
    refine hl xs e1 H0 G H σ S _ fun v G1 H1 s1 r1 => ?_
    obtain ⟨a, ws, o, rfl, ha, ho, rr⟩ := id r1
    refine ⟨⟨a, o, ws, rfl, s1.m _ _ ha, ho⟩, hx x e2 H0 G1 H1 σ (S.step s1) _ fun w G2 H2 s2 r2 => ?_⟩
    have hd := dpall_of (K := K) (h.dp H2) (rr.mono fun _ _ q => T.mono (s2.g.trans s2.m) q)
    obtain ⟨c1, c2, c3⟩ := index_core h l k
    exact ⟨a, ws, w, enc x, xs.map enc, j, enc x, rfl, rfl, .inl (.inr ⟨o, s2.m _ _ (s2.g _ _ ha)⟩), hd, h.dp H2 w x (Ty.mono _ s2.m r2), layall_of l xs, l x, Nat.le_trans (h.dep x) hn, c1, c2, c3, q _ G2 H2 (s1.trans s2) rfl⟩
def mCnt [DecidableEq α] (xs : List α) (x : α) : Option Int := some ((xs.countP fun y => decide (y = x) : Nat) : Int)
@[simp] theorem mCnt_ [DecidableEq α] (xs : List α) (x : α) : mCnt xs x = some ((xs.countP fun y => decide (y = x) : Nat) : Int) := rfl
theorem cnt_enc [DecidableEq α] {enc : α → PyData} {n : Nat} (h : Enc K T enc n) (x : α) (xs : List α) : ((xs.map enc).countP fun z => PyData.eqv z (enc x)) = xs.countP fun y => decide (y = x) := by
  rw [List.countP_map]
  congr 1
  funext y
  exact h.eqv y x
theorem ev_countL [DecidableEq α] {enc : α → PyData} {n : Nat} (h : Enc K T enc n) (l : Lay enc) (hn : n ≤ 60) {ml : Option (List α)} {mx : Option α} (hl : Ev te Γ (tyL T) ml) (hx : Ev tx Γ T mx) : Ev (tBM K "list" (rCountE K false) te (tCons tx tNil)) Γ tyI (c2 mCnt ml mx) := fun z e H0 G H σ S Q q => by
  obtain ⟨xs, x, e1, e2, e⟩ := c2_inv e
  cases e
  refine hl xs e1 H0 G H σ S _ fun v G1 H1 s1 r1 => ?_
  obtain ⟨a, ws, rfl, ha, rr⟩ := id r1
  refine ⟨.inl ⟨rfl, ws, SqL.of (s1.m _ _ ha)⟩, hx x e2 H0 G1 H1 σ (S.step s1) _ fun w G2 H2 s2 r2 => ?_⟩
  have hd := dpall_of (K := K) (h.dp H2) (rr.mono fun _ _ q => T.mono (s2.g.trans s2.m) q)
  exact ⟨a, ws, w, enc x, xs.map enc, rfl, rfl, SqL.of (s2.m _ _ (s2.g _ _ ha)), hd, h.dp H2 w x (Ty.mono _ s2.m r2), layall_of l xs, l x, Nat.le_trans (h.dep x) hn, q _ G2 H2 (s1.trans s2) (by rw [cnt_enc h]; rfl)⟩
theorem ev_countZ [DecidableEq α] {enc : α → PyData} {n : Nat} (h : Enc K T enc n) (l : Lay enc) (hn : n ≤ 60) {ml : Option (List α)} {mx : Option α} (hl : Ev te Γ (tyZ T) ml) (hx : Ev tx Γ T mx) : Ev (tBMZ (rCountE K true) te (tCons tx tNil)) Γ tyI (c2 mCnt ml mx) := fun z e H0 G H σ S Q q => by
  obtain ⟨xs, x, e1, e2, e⟩ := c2_inv e
  cases e
  refine hl xs e1 H0 G H σ S _ fun v G1 H1 s1 r1 => ?_
  obtain ⟨a, ws, o, rfl, ha, ho, rr⟩ := id r1
  refine ⟨⟨a, o, ws, rfl, s1.m _ _ ha, ho⟩, hx x e2 H0 G1 H1 σ (S.step s1) _ fun w G2 H2 s2 r2 => ?_⟩
  have hd := dpall_of (K := K) (h.dp H2) (rr.mono fun _ _ q => T.mono (s2.g.trans s2.m) q)
  exact ⟨a, ws, w, enc x, xs.map enc, rfl, rfl, .inl (.inr ⟨o, s2.m _ _ (s2.g _ _ ha)⟩), hd, h.dp H2 w x (Ty.mono _ s2.m r2), layall_of l xs, l x, Nat.le_trans (h.dep x) hn, q _ G2 H2 (s1.trans s2) (by rw [cnt_enc h]; rfl)⟩
end
end TP
set_option maxHeartbeats 2000000
namespace TP
open PySem PySem.Spec PyProof.Rows L2
def atWW {α : Type} (U : Ty α) (G E : Hp) (v : V) (X : List (List α)) : Prop := ∃ (l : Addr) (as : List Addr), v = .ref l ∧ E l = some (.lst (as.map V.ref)) ∧ l ∉ as ∧ as.Nodup ∧ All2 (fun a ys => ∃ vs, E a = some (.lst vs) ∧ All2 (U.rp G) vs ys) as X
theorem ww_lend {α : Type} {U : Ty α} {G E : Hp} (hn : ∀ a, E a ≠ none → G a = none) : ∀ {as : List Addr} {X : List (List α)}, All2 (fun a ys => ∃ vs, E a = some (.lst vs) ∧ All2 (U.rp G) vs ys) as X → All2 ((tyL U).rp (jn G E)) (as.map V.ref) X
  | [], [], _ => trivial
  | a :: as, x :: X, h => by
    obtain ⟨vs, h1, h2⟩ := h.1
    exact ⟨⟨a, vs, rfl, by rw [jn_r (hn a (ne_none_of h1))]; exact h1, h2.mono fun _ _ q => U.mono (jn_ex G E) q⟩, ww_lend hn h.2⟩
  | [], _ :: _, h => h.elim
  | _ :: _, [], h => h.elim
def oWW {α : Type} (U : Ty α) : OTy (List (List α)) where
  rp := atWW U
  mono := fun e ⟨l, as, h1, h2, h3, h4, h5⟩ => ⟨l, as, h1, h2, h3, h4, h5.mono fun a ys ⟨vs, q1, q2⟩ => ⟨vs, q1, q2.mono fun _ _ q => U.mono e q⟩⟩
  T := tyL (tyL U)
  lend := fun ⟨l, as, h1, h2, _, _, h5⟩ hn => ⟨l, _, h1, by rw [jn_r (hn l (ne_none_of h2))]; exact h2, ww_lend hn h5⟩
def raTop : RA := ⟨fun _ _ _ => True, [], fun _ _ => trivial, fun _ _ => trivial⟩
section
variable {α β γ δ ι κ : Type} {te ta : TE} {Γ Γ' : TP.Env} {T : Ty α} {env : β → TP.Env} {rest t u tbd : TS} {W : Rt γ} {K : PySem.W.Frag} {A : RA} {U : Ty ι}
theorem sda_out {m : Option (Fl γ β)} {ts : TS} (h : Sd ts Γ W env m) : SdA A ts Γ W env (fun _ => raTop) m := fun o e H0 G0 G H σ E S s R r D k => h o e H0 G0 G H σ S s D (by
    cases o with
    | ret r => exact k
    | nx b => exact fun σ G H S s e => k σ G H (fun _ => none) S s e ⟨(fun _ _ h => nomatch h), (fun _ h => absurd rfl h), fun _ _ _ _ _ _ => rfl⟩ trivial)
theorem evr_lcN {wi : L2.TI} {g : TG} {is vs : List Nat} {P : Ty κ} {Δ : κ → TP.Env} {mxs : Option (List κ)} {f : κ → Option (List ι)}
    (hi : EvI wi Γ P mxs) (hg : EvG g is (wipeE Γ vs) P Δ) (hv : ∀ i ∈ is, i ∈ vs) (he : ∀ x, EvN te (Δ x) U (f x)) : EvR (tLc wi g tYes te vs) Γ (oWW U) (mxs.bind (lcM (fun _ => some true) f)) := fun z e H0 G H σ S Q q => by
  obtain ⟨xs, ea, ef⟩ := bind_inv e
  unfold lcM at ef
  by_cases hl : xs.length ≤ lim
  case neg => rw [if_neg hl] at ef; cases ef
  rw [if_pos hl] at ef
  refine hi xs ea H0 G H σ S _ fun J G1 H1 s1 yl => ?_
  intro D hD
  refine ⟨fun i m Hc => m = xs.length - i ∧ i ≤ xs.length ∧ ∃ G' as ys zs, Stp G1 H1 G' Hc ∧ G' D = none ∧ Hc D = some (.lst (as.map V.ref)) ∧ D ∉ as ∧ as.Nodup ∧ (∀ a ∈ as, H1 a = none ∧ G' a = none) ∧ All2 (fun a y => ∃ ws, Hc a = some (.lst ws) ∧ All2 (U.rp G') ws y) as ys ∧ lcGo (fun _ => some true) f (xs.drop i) = some zs ∧ z = ys ++ zs ∧ ys.length ≤ i,
    ⟨xs.length, by simp, Nat.zero_le _, G1, [], [], z, Stp.priv s1.m hD, s1.m.non hD, upd_same, by simp, .nil, (fun a h => by cases h), trivial, ef, rfl, Nat.le_refl _⟩, ?_⟩
  rintro i m Hc ⟨rfl, hle, G', as, ys, zs, sc, gD, cD, nD, nd, hf, ra, eg, ez, hy⟩
  obtain ⟨y1, y2⟩ := yl i G' Hc sc.g sc.m
  by_cases hlt : i < xs.length
  · right
    have ex : xs[i]? = some xs[i] := List.getElem?_eq_getElem hlt
    obtain ⟨jg, jy⟩ := y1 _ ex
    have ed : xs.drop i = xs[i] :: xs.drop (i + 1) := List.drop_eq_getElem_cons hlt
    rw [ed] at eg
    obtain ⟨b, eb, eg⟩ := bind_inv eg
    cases eb
    rw [if_pos rfl] at eg
    obtain ⟨w, ew, eg⟩ := bind_inv eg
    obtain ⟨r, er, eg⟩ := bind_inv eg
    cases eg
    refine ⟨jg, _, fun H' n => n, fun x H2 y => ?_⟩
    obtain ⟨G2, s2, r2⟩ := jy x H2 y
    have S2 : Slots H0 G2 H2 (L2.wipe σ vs) (wipeE Γ vs) := (S.step ((s1.trans sc).trans s2)).wipe vs
    refine hg _ x H0 G2 H2 _ S2 r2 _ fun σ' S3 hw => ⟨(hw vs hv).trans (wipe_wipe vs), ?_⟩
    refine evt_yes true rfl H0 G2 H2 σ' S3 _ fun G3 H3 s3 => ?_
    rw [if_pos rfl]
    refine he _ w ew H0 G3 H3 σ' (S3.step s3) _ fun p ws G4 H4 s4 hn hgp hp rp => ?_
    have s34 := (s2.trans s3).trans s4
    have c4 := s34.h _ _ cD
    have g4 := s34.p D (ne_none_of cD) gD
    have pD : p ≠ D := fun z => by rw [z, (s2.trans s3).h _ _ cD] at hn; cases hn
    have dom : ∀ {as : List Addr} {Y : List (List ι)}, All2 (fun a y => ∃ ws, Hc a = some (.lst ws) ∧ All2 (U.rp G') ws y) as Y → ∀ a ∈ as, ∃ ws, Hc a = some (.lst ws) := by
      intro as
      induction as with
      | nil => intro Y _ a h; cases h
      | cons b as ih =>
        intro Y hY a h
        cases Y with
        | nil => exact hY.elim
        | cons y Y =>
          rcases List.mem_cons.mp h with rfl | h
          · obtain ⟨ws, h1, _⟩ := hY.1; exact ⟨ws, h1⟩
          · exact ih hY.2 a h
    have pas : p ∉ as := fun z => by
      obtain ⟨ws, h⟩ := dom ra p z
      rw [(s2.trans s3).h _ _ h] at hn; cases hn
    refine ⟨as.map V.ref, c4, ?_, ?_⟩
    · rw [List.length_map, ra.len]
      exact lim_lt (by omega)
    · refine ⟨xs.length - (i + 1), by omega, rfl, by omega, G4, as ++ [p], ys ++ [w], r, ?_, g4, by rw [List.map_append]; exact upd_same, ?_, ?_, fun a ha => ?_, ?_, er, ?_, ?_⟩
      · have s5 := sc.trans s34
        exact ⟨s5.g, s5.h.right hD, s5.m.right g4, s5.p⟩
      · intro z
        rcases List.mem_append.mp z with z | z
        · exact nD z
        · exact pD (List.mem_singleton.mp z).symm
      · refine List.nodup_append.mpr ⟨nd, by simp, fun a ha b hb z => ?_⟩
        rw [List.mem_singleton.mp hb] at z
        exact pas (by rw [← z]; exact ha)
      · rcases List.mem_append.mp ha with ha | ha
        · have h1 := hf a ha
          obtain ⟨ws', h2⟩ := dom ra a ha
          exact ⟨h1.1, s34.p a (ne_none_of h2) h1.2⟩
        · rw [List.mem_singleton.mp ha]
          exact ⟨(sc.trans (s2.trans s3)).h.non hn, hgp⟩
      · have key : ∀ {as : List Addr} {Y : List (List ι)}, D ∉ as → All2 (fun a y => ∃ ws, Hc a = some (.lst ws) ∧ All2 (U.rp G') ws y) as Y → ∀ z, All2 (fun a y => ∃ ws, upd H4 D z a = some (.lst ws) ∧ All2 (U.rp G4) ws y) as Y := by
          intro as
          induction as with
          | nil => intro Y _ h z; cases Y with
            | nil => trivial
            | cons => exact h.elim
          | cons a as ih =>
            intro Y hD h z
            cases Y with
            | nil => exact h.elim
            | cons y Y =>
              obtain ⟨ws, h1, h2⟩ := h.1
              exact ⟨⟨ws, by rw [upd_ne (fun q => hD (by rw [q]; exact List.mem_cons_self))]; exact s34.h _ _ h1, h2.mono fun _ _ q => U.mono s34.g q⟩, ih (fun q => hD (List.mem_cons_of_mem _ q)) h.2 z⟩
        exact (key nD ra _).app (.one ⟨ws, by rw [upd_ne pD]; exact hp, rp⟩)
      · rw [ez, List.append_assoc]; rfl
      · rw [List.length_append]; show ys.length + 1 ≤ i + 1; omega
  · left
    have ei : xs.length ≤ i := by omega
    refine ⟨y2 ei, ?_⟩
    rw [List.drop_eq_nil_of_le ei] at eg
    cases eg
    rw [List.append_nil] at ez
    subst ez
    have st := s1.trans sc
    refine q (.ref D) G' Hc (fun a => if a = D ∨ a ∈ as then Hc a else none) st (fun a o h => ?_) (fun a h => ?_) ⟨D, as, rfl, ?_, nD, nd, ?_⟩
    · have h : (if a = D ∨ a ∈ as then Hc a else none) = some o := h
      by_cases c : a = D ∨ a ∈ as
      · rw [if_pos c] at h; exact h
      · rw [if_neg c] at h; cases h
    · have h : (if a = D ∨ a ∈ as then Hc a else none) ≠ none := h
      by_cases c : a = D ∨ a ∈ as
      · rcases c with rfl | c
        · exact ⟨gD, s1.h.non hD⟩
        · exact ⟨(hf a c).2, s1.h.non (hf a c).1⟩
      · rw [if_neg c] at h; exact absurd rfl h
    · show (if _ then _ else _) = _
      rw [if_pos (.inl rfl)]; exact cD
    · exact all2_mem ra fun a ha y ⟨ws, h1, h2⟩ => ⟨ws, by show (if _ then _ else _) = _; rw [if_pos (.inr ha)]; exact h1, h2⟩
theorem nol_strip {P : Ty α} (hn : NoL P) {G : Hp} {v : V} {y : α} : ∀ (ps : List Addr), (∀ p ∈ ps, ∃ vs, G p = some (.lst vs)) → P.rp G v y → P.rp (fun q => if q ∈ ps then none else G q) v y
  | [], _, r => by
    have : (fun q => if q ∈ ([] : List Addr) then none else G q) = G := funext fun q => if_neg (by simp)
    rw [this]; exact r
  | p :: ps, h, r => by
    have ih := nol_strip hn ps (fun q hq => h q (List.mem_cons_of_mem _ hq)) r
    by_cases c : p ∈ ps
    · have : (fun q => if q ∈ p :: ps then none else G q) = fun q => if q ∈ ps then none else G q := funext fun q => by
        by_cases z : q ∈ ps
        · rw [if_pos z, if_pos (List.mem_cons_of_mem _ z)]
        · rw [if_neg z, if_neg fun w => by
            rcases List.mem_cons.mp w with rfl | w
            · exact z c
            · exact z w]
      rw [this]; exact ih
    · obtain ⟨vs, hp⟩ := h p List.mem_cons_self
      refine hn _ p vs v y (if_pos List.mem_cons_self) ?_
      have : upd (fun q => if q ∈ p :: ps then none else G q) p (.lst vs) = fun q => if q ∈ ps then none else G q := funext fun q => by
        by_cases z : q = p
        · rw [z, upd_same, if_neg c, hp]
        · rw [upd_ne z]
          by_cases w : q ∈ ps
          · rw [if_pos w, if_pos (List.mem_cons_of_mem _ w)]
          · rw [if_neg w, if_neg fun w' => by
              rcases List.mem_cons.mp w' with h | h
              · exact z h
              · exact w h]
      rw [this]; exact ih
theorem sda_asgW {i k : Nat} {x : List (List ι)} {P : Ty κ} {B : β → RA} {m : Option κ} {f : κ → Option (Fl γ β)} (hik : i ≠ k) (hn : NoL P) (h : Ev te (Γ.set i (.pu (tyL (tyL U)) x)) P m) (hr : ∀ y, SdA (raO (oWW U) i x) rest (Γ.set k (.pu P y)) W env B (f y)) :
    SdA (raO (oWW U) i x) (tSeq (tAsg te (gName k)) rest) Γ W env B (m.bind f) := fun o e H0 G0 G H σ E S s R r D kk => by
  obtain ⟨y, ea, e⟩ := bind_inv e
  obtain ⟨v, hv, l, as, rfl, hl, nl, nd, ra⟩ := r
  have dom : ∀ {as : List Addr} {Y : List (List ι)}, All2 (fun a y => ∃ ws, E a = some (.lst ws) ∧ All2 (U.rp G) ws y) as Y → ∀ a ∈ as, ∃ ws, E a = some (.lst ws) := by
    intro as
    induction as with
    | nil => intro Y _ a h; cases h
    | cons b as ih =>
      intro Y hY a h
      cases Y with
      | nil => exact hY.elim
      | cons y Y =>
        rcases List.mem_cons.mp h with rfl | h
        · obtain ⟨ws, h1, _⟩ := hY.1; exact ⟨ws, h1⟩
        · exact ih hY.2 a h
  have hps : ∀ p ∈ l :: as, ∃ vs, E p = some (.lst vs) := fun p hp => by
    rcases List.mem_cons.mp hp with rfl | hp
    · exact ⟨_, hl⟩
    · exact dom ra p hp
  have eE : ∀ q, q ∈ l :: as → (fun q => if q ∈ l :: as then E q else none) q = E q := fun q hq => if_pos hq
  have hE' : Ex (fun q => if q ∈ l :: as then E q else none) E := fun q o hq => by
    have hq : (if q ∈ l :: as then E q else none) = some o := hq
    by_cases c : q ∈ l :: as
    · rw [if_pos c] at hq; exact hq
    · rw [if_neg c] at hq; cases hq
  generalize hEE : (fun q => if q ∈ l :: as then E q else none) = E' at eE hE'
  have out : ∀ q, q ∉ l :: as → E' q = none := fun q hq => by rw [← hEE]; exact if_neg hq
  have R' : Rg H0 G H σ Γ E' := ⟨fun a o h => R.m a o (hE' a o h), fun a ha => R.n a (fun z => ha (hE'.non z)), fun j t a hj ht ej => hE'.non (R.o j t a hj ht ej)⟩
  have r' : (oWW U).rp G E' (.ref l) x := ⟨l, as, rfl, by rw [eE l List.mem_cons_self]; exact hl, nl, nd, all2_mem ra fun a ha y ⟨ws, h1, h2⟩ => ⟨ws, by rw [eE a (List.mem_cons_of_mem _ ha)]; exact h1, h2⟩⟩
  refine h y ea H0 (jn G E') H σ (lends_O H0 G H σ E' S R' ⟨_, hv, r'⟩) _ fun w G1 H1 s1 r1 => ?_
  have hg1 : ∀ p ∈ l :: as, ∃ vs, G1 p = some (.lst vs) := fun p hp => by
    obtain ⟨vs, h⟩ := hps p hp
    have h' : E' p = some (.lst vs) := by rw [eE p hp]; exact h
    exact ⟨vs, s1.g _ _ (by rw [jn_r (R'.n p (ne_none_of h')).1]; exact h')⟩
  have r1' := nol_strip hn (l :: as) hg1 r1
  have st : Stp G H (fun q => if q ∈ l :: as then none else G1 q) H1 := ⟨fun q o hq => by
      show (if q ∈ l :: as then none else G1 q) = some o
      have c : q ∉ l :: as := fun z => by
        obtain ⟨vs, h⟩ := hps q z
        have := (R.n q (ne_none_of h)).1
        rw [this] at hq; cases hq
      rw [if_neg c]
      exact s1.g _ _ (jn_l hq), s1.h, fun q o hq => by
      have hq : (if q ∈ l :: as then none else G1 q) = some o := hq
      by_cases c : q ∈ l :: as
      · rw [if_pos c] at hq; cases hq
      · rw [if_neg c] at hq; exact s1.m _ _ hq, fun q hq hg => by
      show (if q ∈ l :: as then none else G1 q) = none
      by_cases c : q ∈ l :: as
      · rw [if_pos c]
      · rw [if_neg c]
        exact s1.p q hq (by rw [jn_r hg]; exact out q c)⟩
  exact hr y o e H0 G0 _ H1 _ E' ((S.step st).set r1') (s.trans st) (R'.step st).set ⟨.ref l, by rw [List.getElem?_set_ne (Ne.symm hik)]; exact hv, (oWW U).mono st.g r'⟩ D (kk.mono st.g)
def tyTop : Ty Unit := ⟨fun _ _ _ => True, fun _ _ => trivial⟩
theorem all2_top {H : Hp} : ∀ vs : List V, All2 (tyTop.rp H) vs (List.replicate vs.length ())
  | [] => trivial
  | _ :: vs => ⟨trivial, all2_top vs⟩
theorem wreck_test {j : Nat} (h : j < Γ.length) (ys : List Unit) : EvT (tTest (tOp (rI0 fun i j => V.bl (decide (j < i))) (tCB (rLenQ K) (tCons (tVar j) tNil)) (tC (.int 0)))) (Γ.set j (.pu (tyL tyTop) ys)) (some (decide ((0 : Int) < ys.length))) := by
  have q := evt_test (Γ := Γ.set j (.pu (tyL tyTop) ys)) (ev_op opv_gt (ev_cb (cv_lenL (K := K)) (eva_cons (ev_var (T := tyL tyTop) (x := ys) (i := j) (List.getElem?_set_self h)) eva_nil)) (ev_int (i := 0)))
  exact q
theorem sda_wreck {i j : Nat} {x : List (List ι)} {c : L2.TT} {f : Option (Fl γ β)} (hij : i ≠ j) (hj : Γ[j]? = some .no) (hc : ∀ ys : List Unit, EvT c (Γ.set j (.pu (tyL tyTop) ys)) (some (decide ((0 : Int) < ys.length)))) (hr : Sd rest Γ W env f) :
    SdA (raO (oWW U) i x) (tSeq (tFor (iList K (tVar i)) (gName j) (tSeq (tIfS c (tSeq (tDrop (tBM0 K "list" rClear (tVar j))) tNext) (tSeq (tDrop (tBM K "list" rAppend (tVar j) (tCons (tTup tNil) tNil))) tNext)) tNext)) (tSeq (tDrop (tBM K "list" rAppend (tVar i) (tCons (tLst (tCons (tTup tNil) tNil)) tNil))) rest)) Γ W env (fun _ => raTop)
      (if x.length ≤ lim then f else none) := fun o e H0 G0 G H σ E S s R r D k => by
  by_cases cl : x.length ≤ lim
  case neg => rw [if_neg cl] at e; cases e
  rw [if_pos cl] at e
  obtain ⟨v, hv, l, as, rfl, hl, nl, nd, ra⟩ := r
  have w0 : ∀ a ∈ as, ∃ vs, E a = some (.lst vs) := by
    have : ∀ {as : List Addr} {Y : List (List ι)}, All2 (fun a y => ∃ ws, E a = some (.lst ws) ∧ All2 (U.rp G) ws y) as Y → ∀ a ∈ as, ∃ ws, E a = some (.lst ws) := by
      intro as
      induction as with
      | nil => intro Y _ a h; cases h
      | cons b as ih =>
        intro Y hY a h
        cases Y with
        | nil => exact hY.elim
        | cons y Y =>
          rcases List.mem_cons.mp h with rfl | h
          · obtain ⟨ws, h1, _⟩ := hY.1; exact ⟨ws, h1⟩
          · exact ih hY.2 a h
    exact this ra
  have hlen := ra.len
  refine ⟨.ref l, hv, l, rfl, ⟨_, SqL.of (R.m _ _ hl)⟩, ?_⟩
  refine ⟨fun n m σ' H' => m = as.length - n ∧ n ≤ as.length ∧ ∃ G' E', Slots H0 G' H' σ' Γ ∧ Stp G0 H0 G' H' ∧ Ex G G' ∧ Rg H0 G' H' σ' Γ E' ∧ σ'[i]? = some (some (.ref l)) ∧ E' l = some (.lst (as.map V.ref)) ∧ ∀ a ∈ as, ∃ vs, E' a = some (.lst vs),
    ⟨as.length, by simp, Nat.zero_le _, G, E, S, s, Ex.refl _, R, hv, hl, w0⟩, ?_⟩
  rintro n m σ' H' ⟨rfl, hle, G', E', S', s', eg, R', hv', hl', w'⟩
  have hlH := R'.m _ _ hl'
  by_cases hlt : n < as.length
  · right
    refine ⟨⟨_, .ref as[n], SqL.of hlH, by rw [List.getElem?_map, List.getElem?_eq_getElem hlt]; rfl⟩, _, fun σ2 H2 q => q, fun x H2 yy => ?_⟩
    obtain ⟨rfl, yy⟩ := yy
    have ex := yy _ (SqL.of hlH)
    rw [List.getElem?_map, List.getElem?_eq_getElem hlt] at ex
    cases ex
    have hm : as[n] ∈ as := List.getElem_mem hlt
    obtain ⟨vs, ha⟩ := w' as[n] hm
    have nla : as[n] ≠ l := fun z => nl (by rw [← z]; exact hm)
    have hjl : j < σ'.length := by rw [S'.len]; exact (List.getElem?_eq_some_iff.mp hj).1
    have hvj : (σ'.set j (some (V.ref as[n])))[j]? = some (some (.ref as[n])) := List.getElem?_set_self hjl
    have hvi : (σ'.set j (some (V.ref as[n])))[i]? = some (some (.ref l)) := by rw [List.getElem?_set_ne (Ne.symm hij)]; exact hv'
    have S2 : Slots H0 G' H2 (σ'.set j (some (.ref as[n]))) Γ := S'.setNo hj
    have R2 : Rg H0 G' H2 (σ'.set j (some (.ref as[n]))) Γ E' := R'.setNo hj
    refine hc (List.replicate vs.length ()) _ rfl H0 (jn G' E') H2 _ ((S2.jn R2).putp hvj ⟨as[n], vs, rfl, by rw [jn_r (R2.n _ (ne_none_of ha)).1]; exact ha, all2_top vs⟩) _ fun G3 H3 s3 => ?_
    have sb := Stp.back S2.m s3
    have S3 := S2.step sb
    have R3 := R2.step sb
    have s03 := s'.trans sb
    have haH : H3 as[n] = some (.lst vs) := R3.m _ _ ha
    have hne := ne_none_of ha
    have turn : ∀ {G4 H4 : Hp} (ws : List V), Stp G' H3 G4 H4 → ∃ m', m' < as.length - n ∧ (m' = as.length - (n + 1) ∧ n + 1 ≤ as.length ∧ ∃ G' E', Slots H0 G' (upd H4 as[n] (.lst ws)) (σ'.set j (some (V.ref as[n]))) Γ ∧ Stp G0 H0 G' (upd H4 as[n] (.lst ws)) ∧ Ex G G' ∧ Rg H0 G' (upd H4 as[n] (.lst ws)) (σ'.set j (some (V.ref as[n]))) Γ E' ∧ (σ'.set j (some (V.ref as[n])))[i]? = some (some (.ref l)) ∧ E' l = some (.lst (as.map V.ref)) ∧ ∀ a ∈ as, ∃ vs, E' a = some (.lst vs)) := fun {G4 H4} ws s4 => by
      have R4 := R3.step s4
      refine ⟨as.length - (n + 1), by omega, rfl, by omega, G4, upd E' as[n] (.lst ws), (S3.step s4).turnR R4 hne, (s03.trans s4).turn (R4.n _ hne).2 (R4.n _ hne).1, eg.trans s4.g, R4.turn hne, hvi, by rw [upd_ne (Ne.symm nla)]; exact hl', fun a ha' => ?_⟩
      by_cases z : a = as[n]
      · exact ⟨ws, by rw [z, upd_same]⟩
      · obtain ⟨us, hu⟩ := w' a ha'
        exact ⟨us, by rw [upd_ne z]; exact hu⟩
    by_cases hb : decide ((0 : Int) < (List.replicate vs.length ()).length) = true
    · rw [if_pos hb]
      exact ⟨.ref as[n], hvj, .inl ⟨rfl, _, SqL.of haH⟩, as[n], vs, rfl, rfl, haH, turn [] (Stp.refl S3.m)⟩
    · rw [if_neg hb]
      have hz : vs.length = 0 := by
        have : ¬ (0 : Int) < (vs.length : Int) := by simpa using hb
        omega
      refine ⟨.ref as[n], hvj, .inl ⟨rfl, _, SqL.of haH⟩, ?_⟩
      have hA : EvA (tCons (tTup tNil) tNil) Γ (aC (tyU K tyI) aN) (aPair (lmt (some [])) (some ())) := eva_cons (ev_tup1 evas_nil) eva_nil
      refine hA ([], ()) rfl H0 G' H3 _ S3 _ fun us G4 H4 s4 r4 => ?_
      obtain ⟨v4, rfl, _⟩ := one_arg r4
      exact ⟨as[n], vs, v4, rfl, rfl, s4.h _ _ haH, by rw [hz]; rw [sizeLine_eq]; omega, turn _ s4⟩
  · left
    refine ⟨⟨_, SqL.of hlH, by rw [List.length_map]; omega⟩, ?_⟩
    refine ⟨.ref l, hv', .inl ⟨rfl, _, SqL.of hlH⟩, ?_⟩
    have hA : EvA (tCons (tLst (tCons (tTup tNil) tNil)) tNil) Γ (aC (tyL (tyU K tyI)) aN) (aPair (lmt (lCons (lmt (some [])) (some []))) (some ())) := eva_cons (EvN.ev (evn_lst (evas_cons (ev_tup1 evas_nil) evas_nil))) eva_nil
    refine hA ([[]], ()) rfl H0 G' H' _ S' _ fun us G4 H4 s4 r4 => ?_
    obtain ⟨v4, rfl, _⟩ := one_arg r4
    have R4 := R'.step s4
    have hne := ne_none_of hl'
    refine ⟨l, _, v4, rfl, rfl, s4.h _ _ hlH, by rw [List.length_map, hlen]; exact lim_lt cl, ?_⟩
    refine hr o e H0 G0 G4 _ σ' ((S'.step s4).turnR R4 hne) ((s'.trans s4).turn (R4.n _ hne).2 (R4.n _ hne).1) D ?_
    cases o with
    | ret r => exact W.mono (eg.trans s4.g) k
    | nx b => exact fun σ G H S s e => k σ G H (fun _ => none) S s ((eg.trans s4.g).trans e) ⟨(fun _ _ h => nomatch h), (fun _ h => absurd rfl h), fun _ _ _ _ _ _ => rfl⟩ trivial
end
end TP
namespace TP
open PySem PySem.Spec PyProof.Rows L2
theorem ev_u3s {K : PySem.W.Frag} {Γ : TP.Env} {te : TE} {m : Option (Int × Int × Int × Unit)} (h : Ev te Γ (tyH K (aC tyI (aC tyI (aC tyI aN)))) m) : Ev te Γ (tyU K tyI) (m.bind fun x => some (u3 x)) := fun z e H0 G H σ S Q q => by
  obtain ⟨x, ea, e⟩ := bind_inv e
  cases e
  exact h x ea H0 G H σ S _ fun v G1 H1 s1 r1 => q v G1 H1 s1 (p3_tyU r1)
theorem cn_sortedZ {K : PySem.W.Frag} : CallN (rSortedU K) (aC (tyL (tyZ tyI)) aN) (tyZ tyI) mSortU := fun p z e G H vs eG r Q q => by
  obtain ⟨c, rfl⟩ := gd_inv e
  obtain ⟨v, rfl, a, ws, rfl, ha, rr⟩ := one_arg r
  refine ⟨a, ws, p.1, fun v b => (tyZ tyI).rp G v b, rfl, SqL.of (eG _ _ ha), rr.mono fun _ _ q => z_U (Ty.mono (tyZ tyI) eG q), rr, fun b hb e => ?_, fun ys l hy hl => ?_⟩
  · have := List.all_eq_true.mp c b hb
    rw [e] at this; cases this
  · rw [sortU_eq] at hy
    exact q l ys G _ (Stp.priv eG hl) hl (eG.non hl) upd_same hy
section
variable {K : PySem.W.Frag} {α β γ δ τ : Type} {Γ Γx : TP.Env} {T : Ty α} {te ta : TE}
def tMethS (C : Addr) (m : Str) (sp : Sp) (E : L2.St → XK) (ta : TE) (t : TA) : TE := fun σ H Q => ta σ H fun x H1 => ∃ a dx fs, x = V.ref a ∧ H1 a = some (.ins C dx fs) ∧ fs.lookup m = none ∧ t σ H1 fun vs H2 => sp (x :: vs) H2 Q (E σ)
theorem pe_methXF {X : Cx} {k : Nat} {f C : Addr} {ps : List Str} {sp : Sp} {pos apos : Pos} {o e : Expr} {es : List Expr} {ta : TE} {t : TA} {m : Str} {V : WX} {pl : Sem Bool} (he : PE X o ta) (c : Cls X.K C) (hm : Meth X.K C m f) (F : OkX X.prog X.w X.K X.mg X.base k f ps sp) (hr : Room k X.A) (tk : L2N.Takes X V) (ha : PA X (e :: es) t)
    (hst : starEach (e :: es) X.env = (false, eval e X.env) :: starEach es X.env := by rfl) (hpl : (backTo pos (starEach es X.env)).any (·.1) = false := by rfl)
    (ht : eval (.Call (.Attribute o m apos) (e :: es) [] pos) X.env = (do
      let ov ← eval o X.env
      standAt apos.atName
      let (f, first) ← holding [ov] (getMethod ov m pl)
      callWith pos f first (backTo pos (starEach (e :: es) X.env)) (backToKw pos (keywordEach [] X.env))) := by rfl) :
    PE X (.Call (.Attribute o m apos) (e :: es) [] pos) (tMethS C m sp (WE V) ta t) := by
  obtain ⟨fd, G, b, lk⟩ := F.ex
  have R := G.raw b .nil
  simp only [List.append_nil] at R
  refine ⟨fun pins s σ H Q I h => ?_⟩
  refine PySem.W.methodCall_KW (pl := pl) (thn (he.run pins s σ H _ I h) fun u s1 ⟨x, H1, I1, rx, a, dx, fs, ex, ea, l, q⟩ => ?_) ht
  subst ex
  obtain rfl : u = Value.ref a := rx
  refine getmeth_ok I1 ea c hm l ?_
  refine PySem.W.callWith_K (first := [.ref a]) (h₀ := X.base) I.ok.mod.kin hm.kp (thn (ha.run pos pins s1 σ H1 _ I1 q) fun us s2 ⟨vs, H2, I2, r, q2⟩ => ⟨I2.kIn, ?_⟩) hst hpl
  exact wpAny_call (run_fnRS (us := .ref a :: us) (vs := .ref a :: vs) R hr (L2N.passAt tk σ) I2 (.cons rfl r) q2)
theorem evx_meth {V : WX} {C : Addr} {F : FTy γ} {A : ATy β} {mth : Str} {f : γ × β → Option (Res α)} {mo : Option γ} {mp : Option β} {t : TA} (wk : Wk Γ Γx) (hnf : ∀ H fs x, F.rp H fs x → fs.lookup mth = none) (h : Ev ta Γ (tyO C F) mo) (hi : EvA t Γ A mp) :
    EvX (tMethS C mth (spX K (aC (tyO C F) A) T f) (WE V) ta t) V Γ Γx K T (mo.bind fun x => mp.bind fun y => f (x, y)) := fun z e H0 G H σ S Q q => by
  obtain ⟨x, ea, e⟩ := bind_inv e
  obtain ⟨y, eb, ef⟩ := bind_inv e
  refine h x ea H0 G H σ S _ fun v G1 H1 s1 r1 => ?_
  obtain ⟨a, dx, fs, rfl, h1, r⟩ := id r1
  refine ⟨a, dx, fs, rfl, s1.m _ _ h1, hnf _ _ _ r, ?_⟩
  refine hi y eb H0 G1 H1 σ (S.step s1) _ fun us G2 H2 s2 r2 => ?_
  have s12 := s1.trans s2
  refine ⟨(x, y), z, G2, ef, s2.m, ⟨_, _, rfl, Ty.mono _ s2.g r1, r2⟩, ?_⟩
  cases z with
  | ok x => exact fun v G3 H3 s3 r3 => q v G3 H3 (s12.trans s3) r3
  | er e => exact fun cls d G3 H3 s3 r3 => q cls d σ G3 H3 ((S.step (s12.trans s3)).wk wk) (s12.trans s3) r3
theorem evxn_meth {V : WX} {C : Addr} {F : FTy γ} {A : ATy β} {mth : Str} {f : γ × β → Option (Res (List α))} {mo : Option γ} {mp : Option β} {t : TA} (wk : Wk Γ Γx) (hnf : ∀ H fs x, F.rp H fs x → fs.lookup mth = none) (h : Ev ta Γ (tyO C F) mo) (hi : EvA t Γ A mp) :
    EvXN (tMethS C mth (spXN K (aC (tyO C F) A) T f) (WE V) ta t) V Γ Γx K T (mo.bind fun x => mp.bind fun y => f (x, y)) := fun z e H0 G H σ S Q q => by
  obtain ⟨x, ea, e⟩ := bind_inv e
  obtain ⟨y, eb, ef⟩ := bind_inv e
  refine h x ea H0 G H σ S _ fun v G1 H1 s1 r1 => ?_
  obtain ⟨a, dx, fs, rfl, h1, r⟩ := id r1
  refine ⟨a, dx, fs, rfl, s1.m _ _ h1, hnf _ _ _ r, ?_⟩
  refine hi y eb H0 G1 H1 σ (S.step s1) _ fun us G2 H2 s2 r2 => ?_
  have s12 := s1.trans s2
  refine ⟨(x, y), z, G2, ef, s2.m, ⟨_, _, rfl, Ty.mono _ s2.g r1, r2⟩, ?_⟩
  cases z with
  | ok x => exact fun a ws G3 H3 s3 hn hg hp r3 => q a ws G3 H3 (s12.trans s3) (s12.h.non hn) hg hp r3
  | er e => exact fun cls d G3 H3 s3 r3 => q cls d σ G3 H3 ((S.step (s12.trans s3)).wk wk) (s12.trans s3) r3
theorem evn_meth {C : Addr} {F : FTy γ} {A : ATy β} {mth : Str} {f : γ × β → Option (List α)} {mo : Option γ} {mp : Option β} {t : TA} {E : XK} (hnf : ∀ H fs x, F.rp H fs x → fs.lookup mth = none) (h : Ev ta Γ (tyO C F) mo) (hi : EvA t Γ A mp) :
    EvN (tMeth C mth (spOfN (aC (tyO C F) A) T f) [] E ta t) Γ T (mo.bind fun x => mp.bind fun y => f (x, y)) := fun z e H0 G H σ S Q q => by
  obtain ⟨x, ea, e⟩ := bind_inv e
  obtain ⟨y, eb, ef⟩ := bind_inv e
  refine h x ea H0 G H σ S _ fun v G1 H1 s1 r1 => ?_
  obtain ⟨a, dx, fs, rfl, h1, r⟩ := id r1
  refine ⟨a, dx, fs, rfl, s1.m _ _ h1, hnf _ _ _ r, ?_⟩
  refine hi y eb H0 G1 H1 σ (S.step s1) _ fun us G2 H2 s2 r2 => ?_
  have s12 := s1.trans s2
  exact ⟨(x, y), z, G2, ef, s2.m, ⟨_, _, rfl, Ty.mono _ s2.g r1, by rw [List.append_nil]; exact r2⟩, fun a ws G3 H3 s3 hn hg hp r3 => q a ws G3 H3 (s12.trans s3) (s12.h.non hn) hg hp r3⟩
end
end TP
set_option maxHeartbeats 2000000
namespace TP
open PySem PySem.Spec PyProof.Rows L2
def keyDT (p : List Int × Int) : List Key × V := (p.1.map Sum.inl, .int p.2)
def iDT (kvs : List (List Int × Int)) : HO := .dT (kvs.map keyDT)
def getT (kvs : List (List Int × Int)) (k : List Int) : Option Int := (kvs.find? fun p => decide (p.1 = k)).map (·.2)
def putT (kvs : List (List Int × Int)) (k : List Int) (v : Int) : List (List Int × Int) :=
  if (kvs.any fun p => decide (p.1 = k)) = true then kvs.map (fun p => if p.1 = k then (p.1, v) else p) else kvs ++ [(k, v)]
theorem keyT_inj : ∀ {a b : List Int}, (a.map Sum.inl : List Key) = b.map Sum.inl ↔ a = b
  | [], [] => ⟨fun _ => rfl, fun _ => rfl⟩
  | [], _ :: _ => ⟨fun h => (nomatch h), fun h => (nomatch h)⟩
  | _ :: _, [] => ⟨fun h => (nomatch h), fun h => (nomatch h)⟩
  | x :: a, y :: b => ⟨fun h => by
      obtain ⟨h1, h2⟩ := List.cons.inj h
      rw [Sum.inl.inj h1, keyT_inj.mp h2], fun h => by rw [h]⟩
theorem val_getT (kvs : List (List Int × Int)) (k : List Int) : L2.valV (kvs.map keyDT) (k.map Sum.inl) = (getT kvs k).map V.int := by
  induction kvs with
  | nil => rfl
  | cons p r ih =>
    by_cases h : p.1 = k
    · rw [List.map_cons, L2.valV_pos (p := keyDT p) (keyT_inj.mpr h)]
      simp [getT, List.find?_cons, h, keyDT]
    · rw [List.map_cons, L2.valV_neg (p := keyDT p) (fun z => h (keyT_inj.mp z)), ih]
      simp [getT, List.find?_cons, h]
theorem put_putT (kvs : List (List Int × Int)) (k : List Int) (v : Int) : L2.putK (kvs.map keyDT) (k.map Sum.inl : List Key) (.int v) = (putT kvs k v).map keyDT := by
  have ha : ((kvs.map keyDT).any fun kv => decide (kv.1 = (k.map Sum.inl : List Key))) = kvs.any fun p => decide (p.1 = k) := by
    rw [List.any_map]
    congr 1
    funext p
    exact decide_eq_decide.mpr keyT_inj
  unfold L2.putK putT
  rw [ha]
  by_cases c : (kvs.any fun p => decide (p.1 = k)) = true
  · rw [if_pos c, if_pos c, List.map_map, List.map_map]
    congr 1
    funext p
    show (if (p.1.map Sum.inl : List Key) = k.map Sum.inl then ((p.1.map Sum.inl : List Key), V.int v) else keyDT p) = keyDT (if p.1 = k then (p.1, v) else p)
    by_cases h : p.1 = k
    · rw [if_pos (keyT_inj.mpr h), if_pos h]; rfl
    · rw [if_neg (fun z => h (keyT_inj.mp z)), if_neg h]
  · rw [if_neg c, if_neg c, List.map_append]; rfl
def tyDctT : Ty (List (List Int × Int)) := ⟨fun G v x => ∃ d, v = .ref d ∧ G d = some (iDT x), fun e ⟨d, h1, h2⟩ => ⟨d, h1, e d _ h2⟩⟩
def oDT : OTy (List (List Int × Int)) where
  rp _ E v x := ∃ d, v = .ref d ∧ E d = some (iDT x)
  mono _ h := h
  T := tyDctT
  lend := fun ⟨d, h1, h2⟩ hn => ⟨d, h1, by rw [jn_r (hn d (ne_none_of h2))]; exact h2⟩
theorem ints_keys {H : Hp} : ∀ {vs : List V} {xs : List Int}, All2 (tyI.rp H) vs xs → vs = (xs.map Sum.inl : List Key).map kV
  | [], [], _ => rfl
  | _ :: _, _ :: _, ⟨h1, h2⟩ => by
    have h1' : _ = V.int _ := h1
    rw [h1', ints_keys h2]; rfl
  | [], _ :: _, h => h.elim
  | _ :: _, [], h => h.elim
section
variable {α β γ δ ι κ : Type} {te ta td ty tv tx t1 t2 tb ti : TE} {Γ Γ' : TP.Env} {T : Ty α} {U : Ty β} {env : δ → TP.Env} {rest : TS} {W : Rt γ} {K : PySem.W.Frag} {A : RA} {B : δ → RA}
theorem evr_dnewT : EvR tDNewT Γ oDT (some []) := fun x e H0 G H σ S Q q p hp => by
  cases e
  refine q (.ref p) G (upd H p (.dT [])) (upd (fun _ => none) p (.dT [])) (Stp.priv S.m hp) (fun a o h => ?_) (fun a ha => ?_) ⟨p, rfl, upd_same⟩
  · by_cases z : a = p
    · rw [z] at h ⊢; rw [upd_same] at h ⊢; exact h
    · rw [upd_ne z] at h; cases h
  · by_cases z : a = p
    · rw [z]; exact ⟨S.m.non hp, hp⟩
    · rw [upd_ne z] at ha; exact absurd rfl ha
theorem ev_dgetT {md : Option (List (List Int × Int))} {mk : Option (List Int)} (hd : Ev td Γ tyDctT md) (hk : Ev ty Γ (tyT tyI) mk) : Ev (tDGet td ty) Γ tyI (md.bind fun d => mk.bind fun k => getT d k) := fun x e H0 G H σ S Q q => by
  obtain ⟨d, ed, e⟩ := bind_inv e
  obtain ⟨k, ek, e⟩ := bind_inv e
  refine hd d ed H0 G H σ S _ fun v G1 H1 s1 ⟨a, ea, h1⟩ => ?_
  refine hk k ek H0 G1 H1 σ (S.step s1) _ fun v2 G2 H2 s2 ⟨b, vs, eb, hb, rr⟩ => ?_
  have h2 : H2 a = some (.dT (d.map keyDT)) := s2.m _ _ (s2.g _ _ h1)
  have hv := ints_keys rr
  subst eb
  have g := DGet.t h2 (show H2 b = some (.tup ((k.map Sum.inl : List Key).map kV)) by rw [← hv]; exact s2.m _ _ hb)
  rw [val_getT, e] at g
  exact ⟨a, .int x, ea, g, q _ G2 H2 (s1.trans s2) rfl⟩
theorem ev_dniT {md : Option (List (List Int × Int))} {mk : Option (List Int)} (hk : Ev ty Γ (tyT tyI) mk) (hd : Ev td Γ tyDctT md) : Ev (tDNotIn ty td) Γ tyB (mk.bind fun k => md.bind fun d => some (!(getT d k).isSome)) := fun x e H0 G H σ S Q q => by
  obtain ⟨k, ek, e⟩ := bind_inv e
  obtain ⟨d, ed, e⟩ := bind_inv e
  cases e
  refine hk k ek H0 G H σ S _ fun v2 G1 H1 s1 ⟨b, vs, eb, hb, rr⟩ => ?_
  refine hd d ed H0 G1 H1 σ (S.step s1) _ fun v G2 H2 s2 ⟨a, ea, h1⟩ => ?_
  have h2 : H2 a = some (.dT (d.map keyDT)) := s2.m _ _ h1
  have hv := ints_keys rr
  subst eb
  have g := DGet.t h2 (show H2 b = some (.tup ((k.map Sum.inl : List Key).map kV)) by rw [← hv]; exact s2.h _ _ (s1.m _ _ hb))
  rw [val_getT] at g
  refine ⟨a, _, ea, g, ?_⟩
  rw [Option.isSome_map]
  exact q _ G2 H2 (s1.trans s2) rfl
theorem sda_dputT {i : Nat} {d : List (List Int × Int)} {mk : Option (List Int)} {mv : Option Int} {f : List Int → Int → Option (Fl γ δ)} (hl : Lends (raO oDT i d) Γ Γ') (hv : Ev tv Γ' tyI mv) (hk : Ev ty Γ' (tyT tyI) mk) (hr : ∀ k v, SdA (raO oDT i (putT d k v)) rest Γ W env B (f k v)) :
    SdA (raO oDT i d) (tSeq (sDPut (tVar i) ty tv) rest) Γ W env B (mv.bind fun v => mk.bind fun k => if d.length ≤ lim then f k v else none) := fun o e H0 G0 G H σ E S s R r D kk => by
  obtain ⟨v, ev, e⟩ := bind_inv e
  obtain ⟨k, ek, e⟩ := bind_inv e
  by_cases cl : d.length ≤ lim
  case neg => rw [if_neg cl] at e; cases e
  rw [if_pos cl] at e
  obtain ⟨w, h1, a, ea, hE⟩ := r
  subst ea
  have hne := ne_none_of hE
  refine hv v ev H0 (jn G E) H σ (hl H0 G H σ E S R ⟨_, h1, a, rfl, hE⟩) _ fun u G1 H1 s1 r1 => ?_
  have sb := Stp.back S.m s1
  have S1 := S.step sb
  have R1 := R.step sb
  refine ⟨_, h1, ?_⟩
  refine hk k ek H0 (jn G E) H1 σ (hl H0 G H1 σ E S1 R1 ⟨_, h1, a, rfl, hE⟩) _ fun u2 G2 H2 s2 r2 => ?_
  have sb2 := Stp.back S1.m s2
  have S2 := S1.step sb2
  have R2 := R1.step sb2
  have r1' : u = .int v := r1
  subst r1'
  obtain ⟨b, vs, eb, hb, rr⟩ := r2
  subst eb
  have hv := ints_keys rr
  have h2 : H2 a = some (.dT (d.map keyDT)) := R2.m _ _ hE
  have hb2 : H2 b = some (.tup ((k.map Sum.inl : List Key).map kV)) := by rw [← hv]; exact s2.m _ _ hb
  refine ⟨a, _, rfl, DPut.t h2 hb2 (by rw [List.length_map]; exact lim_lt cl), ?_⟩
  rw [put_putT]
  exact hr k v o e H0 G0 G _ σ (upd E a (iDT (putT d k v))) (S2.turnR R2 hne) (((s.trans sb).trans sb2).turn (R2.n a hne).2 (R2.n a hne).1) (R2.turn hne) ⟨_, h1, a, rfl, upd_same⟩ D kk
theorem Rg.turnOw {H0 G H E : Hp} {σ : L2.St} {i : Nat} {xs ys : List α} {a : Addr} {o : HO} (R : Rg H0 G H σ Γ E) (hi : Γ[i]? = some (.ow T xs)) (ep : σ[i]? = some (some (.ref a))) : Rg H0 G (upd H a o) σ (Γ.set i (.ow T ys)) E := by
  have ha : E a = none := R.o i _ a hi rfl ep
  refine ⟨R.m.right ha, R.n, fun j t b hj ht eb => ?_⟩
  rcases set_get hj with ⟨rfl, rfl, _⟩ | ⟨nj, hj⟩
  · rw [ep] at eb
    cases eb
    exact ha
  · exact R.o j t b hj ht eb
theorem sda_append {i : Nat} {xs : List α} {m : Option α} {f : α → Option (Fl γ δ)} (hi : Γ[i]? = some (.ow T xs)) (h : Ev te Γ T m) (hr : ∀ x, SdA A rest (Γ.set i (.ow T (xs ++ [x]))) W env B (f x)) :
    SdA A (tSeq (tDrop (tBM K "list" rAppend (tVar i) (tCons te tNil))) rest) Γ W env B (m.bind fun x => if xs.length ≤ lim then f x else none) := fun o e H0 G0 G H σ E S s R r0 D k => by
  obtain ⟨x, ea, e⟩ := bind_inv e
  by_cases c : xs.length ≤ lim
  case neg => rw [if_neg c] at e; cases e
  rw [if_pos c] at e
  obtain ⟨a, vs, ep, ha, hg, h0, r⟩ := own_at S hi
  refine ⟨.ref a, ep, .inl ⟨rfl, vs, SqL.of ha⟩, ?_⟩
  refine h x ea H0 G H σ S _ fun v G1 H1 s1 r1 => ?_
  have S1 := S.step s1
  have R1 := R.step s1
  have ha1 := s1.h _ _ ha
  have hg1 := s1.p a (ne_none_of ha) hg
  refine ⟨a, vs, v, rfl, rfl, ha1, by rw [r.len]; exact lim_lt c, ?_⟩
  exact hr x o e H0 G0 G1 _ σ E (S1.turn hi ep hg1 h0 ((r.mono fun _ _ z => T.mono s1.g z).app (.one r1))) ((s.trans s1).turn h0 hg1) (R1.turnOw hi ep) (A.mono s1.g r0) D (k.mono s1.g)
end
end TP
set_option maxHeartbeats 2000000
namespace TP
open PySem PySem.Spec PyProof.Rows L2
inductive Dyn where
  | n : Dyn
  | i (x : Int) : Dyn
  | l (xs : List Int) : Dyn
  | u (xs : List Int) : Dyn
  | r (xs : List (List Int)) : Dyn
def Dyn.toI : Dyn → Option Int
  | .i x => some x
  | _ => none
def Dyn.toL : Dyn → Option (List Int)
  | .l x => some x
  | _ => none
def Dyn.toU : Dyn → Option (List Int)
  | .u x => some x
  | _ => none
def Dyn.toR : Dyn → Option (List (List Int))
  | .r x => some x
  | _ => none
def Dyn.toS : Dyn → Option (List Int)
  | .l x => some x
  | .u x => some x
  | _ => none
def Dyn.isN : Dyn → Bool
  | .n => true
  | _ => false
def rpD (K : PySem.W.Frag) (H : Hp) (v : V) : Dyn → Prop
  | .n => v = .non
  | .i x => v = .int x
  | .l xs => (tyL tyI).rp H v xs
  | .u xs => (tyU K tyI).rp H v xs
  | .r xs => (tyL (tyU K tyI)).rp H v xs
def tyD (K : PySem.W.Frag) : Ty Dyn := ⟨fun H v x => rpD K H v x, fun {H H' v x} e h => by
  cases x with
  | n => exact h
  | i x => exact h
  | l xs => exact Ty.mono (tyL tyI) e h
  | u xs => exact Ty.mono (tyU K tyI) e h
  | r xs => exact Ty.mono (tyL (tyU K tyI)) e h⟩
section
variable {α β γ δ ι : Type} {te ta ti tb : TE} {Γ : TP.Env} {T : Ty α} {U : Ty β} {env : β → TP.Env} {rest t u : TS} {W : Rt γ} {K : PySem.W.Frag}
theorem ev_re {S : Ty α} {f : α → Option β} {m : Option α} (h : Ev te Γ S m) (hf : ∀ H v x y, f x = some y → S.rp H v x → U.rp H v y) : Ev te Γ U (m.bind f) := fun z e H0 G H σ S Q q => by
  obtain ⟨x, ea, e⟩ := bind_inv e
  exact h x ea H0 G H σ S _ fun v G1 H1 s1 r1 => q v G1 H1 s1 (hf _ _ _ _ e r1)
theorem ev_dN {m : Option Unit} (h : Ev te Γ tyN m) : Ev te Γ (tyD K) (m.bind fun _ => some .n) := ev_re h fun H v x y e r => by cases e; exact r
theorem ev_dI {m : Option Int} (h : Ev te Γ tyI m) : Ev te Γ (tyD K) (m.bind fun x => some (.i x)) := ev_re h fun H v x y e r => by cases e; exact r
theorem ev_dL {m : Option (List Int)} (h : Ev te Γ (tyL tyI) m) : Ev te Γ (tyD K) (m.bind fun x => some (.l x)) := ev_re h fun H v x y e r => by cases e; exact r
theorem ev_dU {m : Option (List Int)} (h : Ev te Γ (tyU K tyI) m) : Ev te Γ (tyD K) (m.bind fun x => some (.u x)) := ev_re h fun H v x y e r => by cases e; exact r
theorem ev_dR {m : Option (List (List Int))} (h : Ev te Γ (tyL (tyU K tyI)) m) : Ev te Γ (tyD K) (m.bind fun x => some (.r x)) := ev_re h fun H v x y e r => by cases e; exact r
theorem ev_pI {m : Option Dyn} (h : Ev te Γ (tyD K) m) : Ev te Γ tyI (m.bind Dyn.toI) := ev_re h fun H v x y e r => by cases x <;> cases e; exact r
theorem ev_pL {m : Option Dyn} (h : Ev te Γ (tyD K) m) : Ev te Γ (tyL tyI) (m.bind Dyn.toL) := ev_re h fun H v x y e r => by cases x <;> cases e; exact r
theorem ev_pU {m : Option Dyn} (h : Ev te Γ (tyD K) m) : Ev te Γ (tyU K tyI) (m.bind Dyn.toU) := ev_re h fun H v x y e r => by cases x <;> cases e; exact r
theorem ev_pR {m : Option Dyn} (h : Ev te Γ (tyD K) m) : Ev te Γ (tyL (tyU K tyI)) (m.bind Dyn.toR) := ev_re h fun H v x y e r => by cases x <;> cases e; exact r
def mIsD (x : Dyn) (_ : Unit) : Option Bool := some x.isN
def mNotD (x : Dyn) (_ : Unit) : Option Bool := some (!x.isN)
@[simp] theorem mIsD_ (x : Dyn) (u : Unit) : mIsD x u = some x.isN := rfl
@[simp] theorem mNotD_ (x : Dyn) (u : Unit) : mNotD x u = some (!x.isN) := rfl
theorem rpD_non {H : Hp} {v : V} {x : Dyn} (h : rpD K H v x) : decide (v = .non) = x.isN := by
  cases x with
  | n => rw [show v = .non from h]; rfl
  | i x => rw [show v = .int x from h]; rfl
  | l xs => obtain ⟨a, _, e, _⟩ := h; rw [e]; rfl
  | u xs => obtain ⟨a, _, e, _⟩ := h; rw [e]; rfl
  | r xs => obtain ⟨a, _, e, _⟩ := h; rw [e]; rfl
theorem opv_isD : OpV (fun x y H Q => y = .non ∧ Q (.bl (decide (x = .non))) H) (tyD K) tyN tyB mIsD := fun x y z e G H v u eG rv ru Q q => by
  cases e
  refine ⟨ru, q _ G H (Stp.refl eG) ?_⟩
  rw [rpD_non rv]
  rfl
theorem opv_notD : OpV (fun x y H Q => y = .non ∧ Q (.bl (!decide (x = .non))) H) (tyD K) tyN tyB mNotD := fun x y z e G H v u eG rv ru Q q => by
  cases e
  refine ⟨ru, q _ G H (Stp.refl eG) ?_⟩
  rw [rpD_non rv]
  rfl
def mTupD (p : Dyn × Unit) : Option (List Int) := p.1.toS
@[simp] theorem mTupD_ (x : Dyn) : mTupD (x, ()) = x.toS := rfl
theorem cv_tupleD : CallV (rTupleQ K) (aC (tyD K) aN) (tyU K tyI) mTupD := fun p z e G H vs eG r Q q => by
  obtain ⟨x, u⟩ := p
  obtain ⟨v, w, e1, r1, e2⟩ := r
  have e : x.toS = some z := e
  cases x with
  | l xs => cases e; exact cv_tupleL (z, ()) z rfl G H vs eG ⟨v, w, e1, r1, e2⟩ Q q
  | u xs => cases e; exact cv_tupleU (z, ()) z rfl G H vs eG ⟨v, w, e1, r1, e2⟩ Q q
  | n => cases e
  | i x => cases e
  | r xs => cases e
def tMethKX (C : Addr) (m : Str) (n : Nat) (sp : Sp) (gV : List V → List V → List V) (E : L2.St → XK) (ta : TE) (tk : TA) : TE := fun σ H Q => ta σ H fun x H1 => ∃ a dx fs, x = V.ref a ∧ H1 a = some (.ins C dx fs) ∧ fs.lookup m = none ∧ tk σ H1 fun zs H2 => zs.length = n ∧ sp (gV [.ref a] zs) H2 Q (E σ)
theorem pe_methKXF {X : Cx} {k : Nat} {f C : Addr} {m q qual : Str} {ps ks : List Str} {sp : Sp} {o : Expr} {ta : TE} {kw : List Keyword} {tk : TA} {params : Arguments} {body : List Stmt} {scope : Scope} {kws : List (Str × V)} {pos apos : Pos} {pl : Sem Bool} {Vx : WX} {g : {α : Type} → List α → List α → List α → List α} {ms : List (Str × V)}
    (he : PE X o ta) (c : Cls X.K C) (hm : Meth X.K C m f) (F : OkXK X.prog X.w X.K X.mg X.base k q qual params body scope kws f ps sp) (hr : Room k X.A) (tkx : L2N.Takes X Vx) (hk : kws ≠ []) (hms : ∀ q ∈ ms, q ∈ kws) (hrel : ∀ {vs mz zs : List V} {us mv ws : List Value}, Vals vs us → Vals mz mv → Vals zs ws → Vals (g vs mz zs) (g us mv ws))
    (h : ∀ (D : Addr) (doc pm : Value) (an : Option Addr) (cdv ct : Value) (us mv ws : List Value), us.length = 1 → mv.length = ms.length → ws.length = ks.length →
      KwChain D ((ms.map (·.1)).zip mv) (bindArgs (PySem.W.fnOf q qual params body scope .none (.ref D) doc pm an cdv ct) ⟨us, ks.zip ws⟩) (ps.zip (g us mv ws)))
    (hkw : PK X kw tk) (hall : (backToKw pos (keywordEach kw X.env)).all (·.1.isSome) = true := by rfl) (hks : (backToKw pos (keywordEach kw X.env)).filterMap (·.1) = ks := by rfl)
    (hpl : ((backTo pos (starEach [] X.env)).any (·.1) || (backToKw pos (keywordEach kw X.env)).any (·.1.isNone)) = false := by rfl)
    (ht : eval (.Call (.Attribute o m apos) [] kw pos) X.env = (do
      let ov ← eval o X.env
      standAt apos.atName
      let (f, first) ← holding [ov] (getMethod ov m pl)
      callWith pos f first (backTo pos (starEach [] X.env)) (backToKw pos (keywordEach kw X.env))) := by rfl) :
    PE X (.Call (.Attribute o m apos) [] kw pos) (tMethKX C m ks.length sp (fun vs zs => g vs (ms.map (·.2)) zs) (WE Vx) ta tk) := by
  obtain ⟨fd, G, D⟩ := F.ex
  obtain ⟨mv, hb⟩ := D.kbinds0 1 ks ms g hk hms hrel h
  refine ⟨fun pins s σ H Q I h => ?_⟩
  refine PySem.W.methodCall_KW (pl := pl) (thn (he.run pins s σ H _ I h) fun u s1 ⟨x, H1, I1, rx, a, dx, fs, ex, ea, l, q⟩ => ?_) ht
  subst ex
  obtain rfl : u = Value.ref a := rx
  refine getmeth_ok I1 ea c hm l ?_
  refine PySem.W.callWith_KW0 (first := [.ref a]) (h₀ := X.base) I.ok.mod.kin hm.kp hall ?_ hpl
  refine thn (hkw.run pos pins s1 σ H1 _ I1 q) fun ws s2 ⟨zs, H2, I2, rz, l2, q2⟩ => ⟨I2.kIn, ?_⟩
  rw [hks]
  exact run_fnNS (us := [.ref a]) (vs := [.ref a]) G hr hb (L2N.passAt tkx σ) I2 (.cons rfl .nil) rz rfl l2 q2
theorem evx_methK {V : WX} {γ : Type} {Γx : TP.Env} {C : Addr} {F : FTy γ} {A2 : ATy ι} {A : ATy β} {m : Str} {n : Nat} {g : List L2.V → List L2.V → List L2.V} {j : γ → ι → β} {f : β → Option (Res α)} {mo : Option γ} {mk : Option ι} {tk : TA} (wk : Wk Γ Γx) (hnf : ∀ H fs x, F.rp H fs x → fs.lookup m = none) (hA : ∀ G v zs x y, (tyO C F).rp G v x → A2.rp G zs y → A.rp G (g [v] zs) (j x y)) (h2 : A2.n = n)
    (h : Ev ta Γ (tyO C F) mo) (hk : EvA tk Γ A2 mk) : EvX (tMethKX C m n (spX K A T f) g (WE V) ta tk) V Γ Γx K T (mo.bind fun x => mk.bind fun y => f (j x y)) := fun z e H0 G H σ S Q q => by
  obtain ⟨x, ea, e⟩ := bind_inv e
  obtain ⟨y, eb, e⟩ := bind_inv e
  refine h x ea H0 G H σ S _ fun v G1 H1 s1 r1 => ?_
  obtain ⟨a, dx, fs, rfl, h1, r⟩ := id r1
  refine ⟨a, dx, fs, rfl, s1.m _ _ h1, hnf _ _ _ r, ?_⟩
  refine hk y eb H0 G1 H1 σ (S.step s1) _ fun zs G2 H2 s2 r2 => ⟨by rw [A2.len r2, h2], ?_⟩
  have s12 := s1.trans s2
  refine ⟨j x y, z, G2, e, s2.m, hA G2 _ zs x y (Ty.mono _ s2.g r1) r2, ?_⟩
  cases z with
  | ok x => exact fun w G3 H3 s3 r3 => q w G3 H3 (s12.trans s3) r3
  | er e => exact fun cls d G3 H3 s3 r3 => q cls d σ G3 H3 ((S.step (s12.trans s3)).wk wk) (s12.trans s3) r3
def tMeth0X (C : Addr) (m : Str) (sp : Sp) (dvs : List V) (E : L2.St → XK) (ta : TE) : TE := fun σ H Q => ta σ H fun x H1 => ∃ a dx fs, x = V.ref a ∧ H1 a = some (.ins C dx fs) ∧ fs.lookup m = none ∧ sp (.ref a :: dvs) H1 Q (E σ)
theorem pe_meth0DXF {X : Cx} {k : Nat} {f C : Addr} {m q qual : Str} {ps : List Str} {sp : Sp} {o : Expr} {ta : TE} {params : Arguments} {body : List Stmt} {scope : Scope} {kws : List (Str × V)} {pos apos : Pos} {pl : Sem Bool} {Vx : WX}
    (he : PE X o ta) (c : Cls X.K C) (hm : Meth X.K C m f) (F : OkXK X.prog X.w X.K X.mg X.base k q qual params body scope kws f ps sp) (hr : Room k X.A) (tkx : L2N.Takes X Vx) (hk : kws ≠ []) (hn : 1 + kws.length = ps.length)
    (h : ∀ (D : Addr) (doc pm : Value) (an : Option Addr) (cdv ct : Value) (us ks : List Value), us.length = 1 → ks.length = kws.length →
      KwChain D ((kws.map (·.1)).zip ks) (bindArgs (PySem.W.fnOf q qual params body scope .none (.ref D) doc pm an cdv ct) ⟨us, []⟩) (ps.zip (us ++ ks)))
    (ht : eval (.Call (.Attribute o m apos) [] [] pos) X.env = (do
      let ov ← eval o X.env
      standAt apos.atName
      let (f, first) ← holding [ov] (getMethod ov m pl)
      callWith pos f first (backTo pos (starEach [] X.env)) (backToKw pos (keywordEach [] X.env))) := by rfl) :
    PE X (.Call (.Attribute o m apos) [] [] pos) (tMeth0X C m sp (kws.map (·.2)) (WE Vx) ta) := by
  obtain ⟨fd, G, D⟩ := F.ex
  obtain ⟨ds, hd, hb⟩ := D.binds0 1 hk hn h
  refine ⟨fun pins s σ H Q I h => ?_⟩
  refine PySem.W.methodCall_KW (pl := pl) (thn (he.run pins s σ H _ I h) fun u s1 ⟨x, H1, I1, rx, a, dx, fs, ex, ea, l, q⟩ => ?_) ht
  subst ex
  obtain rfl : u = Value.ref a := rx
  refine getmeth_ok I1 ea c hm l ?_
  exact PySem.W.callWith_K0 (first := [.ref a]) I1.kIn hm.kp (wpAny_call (run_fnRS (us := [.ref a]) (vs := [.ref a]) (G.raw hb hd) hr (L2N.passAt tkx σ) I1 (.cons rfl .nil) q))
theorem evx_meth0D {V : WX} {γ : Type} {Γx : TP.Env} {C : Addr} {F : FTy γ} {A : ATy β} {m : Str} {dvs : List L2.V} {j : γ → β} {f : β → Option (Res α)} {mo : Option γ} (wk : Wk Γ Γx) (hnf : ∀ H fs x, F.rp H fs x → fs.lookup m = none) (hA : ∀ G v x, (tyO C F).rp G v x → A.rp G (v :: dvs) (j x))
    (h : Ev ta Γ (tyO C F) mo) : EvX (tMeth0X C m (spX K A T f) dvs (WE V) ta) V Γ Γx K T (mo.bind fun x => f (j x)) := fun z e H0 G H σ S Q q => by
  obtain ⟨x, ea, e⟩ := bind_inv e
  refine h x ea H0 G H σ S _ fun v G1 H1 s1 r1 => ?_
  obtain ⟨a, dx, fs, rfl, h1, r⟩ := id r1
  refine ⟨a, dx, fs, rfl, s1.m _ _ h1, hnf _ _ _ r, ?_⟩
  refine ⟨j x, z, G1, e, s1.m, hA G1 _ x r1, ?_⟩
  cases z with
  | ok x => exact fun w G3 H3 s3 r3 => q w G3 H3 (s1.trans s3) r3
  | er e => exact fun cls d G3 H3 s3 r3 => q cls d σ G3 H3 ((S.step (s1.trans s3)).wk wk) (s1.trans s3) r3
end
end TP
set_option maxHeartbeats 4000000
namespace Q01
open PySem PySem.Spec PyProof.Rows L2 TP
abbrev OHouse : Type := (List Int) × Int × Int × Unit
def b_law_cell (script_ : (List Int)) (k_ : Int) : Option (Fl Int Unit) :=
  (thenF (mIf (c2 mLt (some k_) ((aPair (some script_) (some ())).bind mLen)) (rtF (c2 (fun xs i => atI xs i) (some script_) (some k_))) (some (.nx ()))) (fun (b1 : Unit) => (rtF (some (0 : Int)))))
def m_law_cell (script_ : (List Int)) (k_ : Int) : Option Int := outF (b_law_cell script_ k_)
theorem e_law_cell (script_ : (List Int)) (k_ : Int) : m_law_cell script_ k_ = outF (b_law_cell script_ k_) := by unfold m_law_cell; rfl
def b_law_draw (cell_ : Int) (k_ : Int) (size_ : Int) : Option (Fl Int Unit) :=
  (thenF (mIf (c2 mGe (some cell_) (c2 mPow (some (10 : Int)) (some (18 : Int)))) (((aPair (some cell_) (some ())).bind mId).bind fun rest2 => (((aPair (some k_) (some ())).bind mRng1).bind fun xs5 => thenF (forF (fun (b3 : Int) x4 => ((c2 mDiv (some b3) (some (64 : Int))).bind fun rest6 => (some (.nx rest6)))) xs5 rest2) (fun (b3 : Int) => (thenF (mIf (c2 mGt (some b3) (some (0 : Int))) (rtF (c2 mMod (c2 mMod ((aPair (some b3) (some ())).bind mId) (some (64 : Int))) (some size_))) (some (.nx ()))) (fun (b7 : Unit) => (some (.nx ()))))))) (some (.nx ()))) (fun (b1 : Unit) => ((c2 mMod ((aPair (c2 mAdd (c2 mAdd (some cell_) (c2 mMul (some (7919 : Int)) (some k_))) (some (13 : Int))) (some ())).bind mId) (some (2147483647 : Int))).bind fun mixed8 => ((c2 mMod ((aPair (c2 mMul (some mixed8) (c2 mAdd (some mixed8) (some (48271 : Int)))) (some ())).bind mId) (some (2147483629 : Int))).bind fun mixed9 => ((c2 mMod ((aPair (c2 mAdd (c2 mMul (some mixed9) (c2 mAdd (some mixed9) (some (69621 : Int)))) (c2 mMul (some (31 : Int)) (some k_))) (some ())).bind mId) (some (2147483647 : Int))).bind fun mixed10 => (rtF (c2 mMod ((aPair (c2 mDiv (some mixed10) (some (9 : Int))) (some ())).bind mId) (some size_))))))))
def m_law_draw (cell_ : Int) (k_ : Int) (size_ : Int) : Option Int := outF (b_law_draw cell_ k_ size_)
theorem e_law_draw (cell_ : Int) (k_ : Int) (size_ : Int) : m_law_draw cell_ k_ size_ = outF (b_law_draw cell_ k_ size_) := by unfold m_law_draw; rfl
def b_law_within (cell_ : Int) (k_ : Int) (low_ : Int) (high_ : Int) : Option (Fl Int Unit) :=
  (((aPair (some cell_) (aPair (some k_) (aPair (some (64 : Int)) (some ())))).bind (pk3 m_law_draw)).bind fun drawn1 => (thenF (mIf (c2 mLt (some drawn1) (some (10 : Int))) (rtF (some low_)) (some (.nx ()))) (fun (b2 : Unit) => (thenF (mIf (c2 mLt (some drawn1) (some (20 : Int))) (rtF (some high_)) (some (.nx ()))) (fun (b3 : Unit) => (rtF (c2 mAdd (some low_) (c2 mMod ((aPair (some drawn1) (some ())).bind mId) (c2 mAdd (c2 mSub (some high_) (some low_)) (some (1 : Int)))))))))))
def m_law_within (cell_ : Int) (k_ : Int) (low_ : Int) (high_ : Int) : Option Int := outF (b_law_within cell_ k_ low_ high_)
theorem e_law_within (cell_ : Int) (k_ : Int) (low_ : Int) (high_ : Int) : m_law_within cell_ k_ low_ high_ = outF (b_law_within cell_ k_ low_ high_) := by unfold m_law_within; rfl
def b_law_beyond (cell_ : Int) (k_ : Int) (low_ : Int) (high_ : Int) : Option (Fl Int Unit) :=
  (rtF (c2 (fun xs i => atI xs i) (lmt (lCons (c2 mSub (some low_) (some (1 : Int))) (lCons (c2 mAdd (some high_) (some (1 : Int))) (lCons (c2 mSub (some low_) (some (1 : Int))) (lCons (c2 mAdd (some high_) (some (1 : Int))) (lCons (c2 mSub (some low_) (some (2 : Int))) (lCons (c2 mAdd (some high_) (some (2 : Int))) (some [])))))))) ((aPair (some cell_) (aPair (some k_) (aPair (some (6 : Int)) (some ())))).bind (pk3 m_law_draw))))
def m_law_beyond (cell_ : Int) (k_ : Int) (low_ : Int) (high_ : Int) : Option Int := outF (b_law_beyond cell_ k_ low_ high_)
theorem e_law_beyond (cell_ : Int) (k_ : Int) (low_ : Int) (high_ : Int) : m_law_beyond cell_ k_ low_ high_ = outF (b_law_beyond cell_ k_ low_ high_) := by unfold m_law_beyond; rfl
def b_law_numbers (cell_ : Int) : Option (Fl (List Dyn) Unit) :=
  ((c2 mAdd (some (1 : Int)) ((aPair (some cell_) (aPair (some (0 : Int)) (aPair (some (5 : Int)) (some ())))).bind (pk3 m_law_draw))).bind fun many1 => (((aPair (some cell_) (aPair (some (1 : Int)) (aPair (some (10 : Int)) (some ())))).bind (pk3 m_law_draw)).bind fun flaw2 => (thenF (mIf (c2 mEq (some flaw2) (some (4 : Int))) ((c2 mMul (some (6 : Int)) ((aPair (some cell_) (aPair (some (0 : Int)) (aPair (some (2 : Int)) (some ())))).bind (pk3 m_law_draw))).bind fun many4 => (some (.nx many4))) (some (.nx many1))) (fun (b3 : Int) => ((((aPair (some b3) (some ())).bind mRng1).bind (lcM (fun x5 => (some true)) (fun x5 => ((aPair (some cell_) (aPair (c2 mAdd (some (2 : Int)) (some x5)) (aPair (some (1 : Int)) (aPair (some (20 : Int)) (some ()))))).bind (pk4 m_law_within))))).bind fun bounds6 => (((aPair (some cell_) (aPair (some (8 : Int)) (aPair (some (0 : Int)) (aPair (some (24 : Int)) (some ()))))).bind (pk4 m_law_within)).bind fun width7 => (((aPair (some cell_) (aPair (some (9 : Int)) (aPair (some (0 : Int)) (aPair (some (20 : Int)) (some ()))))).bind (pk4 m_law_within)).bind fun most_wide8 => (thenF (mIf (mOr (c2 mEq (some flaw2) (some (0 : Int))) (c2 mEq (some flaw2) (some (3 : Int)))) ((c2 mMod ((aPair ((aPair (some cell_) (aPair (some (10 : Int)) (aPair (some (60 : Int)) (some ())))).bind (pk3 m_law_draw)) (some ())).bind mId) (some b3)).bind fun place10 => (((aPair (some cell_) (aPair (some (11 : Int)) (aPair (some (1 : Int)) (aPair (some (20 : Int)) (some ()))))).bind (pk4 m_law_beyond)).bind fun y12 => (some place10).bind fun k13 => (mSet bounds6 k13 y12).bind fun bounds11 => (some (.nx bounds11)))) (some (.nx bounds6))) (fun (b9 : (List Int)) => (thenF (mIf (mOr (c2 mEq (some flaw2) (some (1 : Int))) (c2 mEq (some flaw2) (some (3 : Int)))) (((aPair (some cell_) (aPair (some (12 : Int)) (aPair (some (0 : Int)) (aPair (some (24 : Int)) (some ()))))).bind (pk4 m_law_beyond)).bind fun width15 => (some (.nx width15))) (some (.nx width7))) (fun (b14 : Int) => (thenF (mIf (mOr (c2 mEq (some flaw2) (some (2 : Int))) (c2 mEq (some flaw2) (some (3 : Int)))) (((aPair (some cell_) (aPair (some (13 : Int)) (aPair (some (0 : Int)) (aPair (some (20 : Int)) (some ()))))).bind (pk4 m_law_beyond)).bind fun most_wide17 => (some (.nx most_wide17))) (some (.nx most_wide8))) (fun (b16 : Int) => (rtF (lmt (lCons ((some b9).bind fun x => some (Dyn.l x)) (lCons ((some b14).bind fun x => some (Dyn.i x)) (lCons ((some b16).bind fun x => some (Dyn.i x)) (some [])))))))))))))))))))
def m_law_numbers (cell_ : Int) : Option (List Dyn) := outF (b_law_numbers cell_)
theorem e_law_numbers (cell_ : Int) : m_law_numbers cell_ = outF (b_law_numbers cell_) := by unfold m_law_numbers; rfl
def b_keeps_bounds (limits_ : (List Int)) (channels_ : Int) (wide_limit_ : Int) : Option (Fl Bool Unit) :=
  (thenF (mIf (mNot ((some (1 : Int)).bind fun x1 => ((aPair (some limits_) (some ())).bind mLen).bind fun y2 => mAnd (mLe x1 y2) ((some (5 : Int)).bind fun z3 => mLe y2 z3))) (rtF (some false)) (some (.nx ()))) (fun (b4 : Unit) => ((some limits_).bind fun xs7 => thenF (forF (fun (b5 : Unit) x6 => (thenF (mIf (mNot ((some (1 : Int)).bind fun x8 => (some x6).bind fun y9 => mAnd (mLe x8 y9) ((some (20 : Int)).bind fun z10 => mLe y9 z10))) (rtF (some false)) (some (.nx ()))) (fun (b11 : Unit) => (some (.nx ()))))) xs7 ()) (fun (b5 : Unit) => (rtF (mAnd ((some (0 : Int)).bind fun x12 => (some channels_).bind fun y13 => mAnd (mLe x12 y13) ((some (24 : Int)).bind fun z14 => mLe y13 z14)) ((some (0 : Int)).bind fun x15 => (some wide_limit_).bind fun y16 => mAnd (mLe x15 y16) ((some (20 : Int)).bind fun z17 => mLe y16 z17))))))))
def m_keeps_bounds (limits_ : (List Int)) (channels_ : Int) (wide_limit_ : Int) : Option Bool := outF (b_keeps_bounds limits_ channels_ wide_limit_)
theorem e_keeps_bounds (limits_ : (List Int)) (channels_ : Int) (wide_limit_ : Int) : m_keeps_bounds limits_ channels_ wide_limit_ = outF (b_keeps_bounds limits_ channels_ wide_limit_) := by unfold m_keeps_bounds; rfl
def b_House_init_OHouseLIII (limits_ : (List Int)) (channels_ : Int) (wide_limit_ : Int) : Option (Fl (Res Unit) OHouse) :=
  (((aPair (some limits_) (some ())).bind mId).bind fun limits1 => ((some channels_).bind fun channels2 => ((some wide_limit_).bind fun wide_limit3 => (thenF (mIf (mNot ((aPair (some limits1) (aPair (some channels_) (aPair (some wide_limit_) (some ())))).bind (pk3 m_keeps_bounds))) (some (.ret (.er ⟨"InvalidHouse", []⟩))) (some (.nx ()))) (fun (b4 : Unit) => (some (.nx (limits1, channels2, wide_limit3, ()))))))))
def m_House_init_OHouseLIII (limits_ : (List Int)) (channels_ : Int) (wide_limit_ : Int) : Option (Res OHouse) := outIX (b_House_init_OHouseLIII limits_ channels_ wide_limit_)
theorem e_House_init_OHouseLIII (limits_ : (List Int)) (channels_ : Int) (wide_limit_ : Int) : m_House_init_OHouseLIII limits_ channels_ wide_limit_ = outIX (b_House_init_OHouseLIII limits_ channels_ wide_limit_) := by unfold m_House_init_OHouseLIII; rfl
def b_law_made_LIII (bounds_ : (List Int)) (width_ : Int) (most_wide_ : Int) : Option (Fl (List OHouse) Unit) :=
  (thenF (tryF ((xB ((aPair (some bounds_) (some ())).bind fun x => (aPair (some width_) (aPair (some most_wide_) (some ()))).bind fun y => pk3 m_House_init_OHouseLIII (x.1, y.1, y.2.1, ())) fun x => some (.ok [x])).bind fun r => some (.ret r)) (isM [("InvalidHouse", true)]) (fun e2 => (thenF (mIf (mAnd ((aPair (some e2) (aPair (some ()) (some ()))).bind (isTab [("InvalidHouse", true)])) (mAnd ((aPair (some e2) (aPair (some ()) (some ()))).bind (isTab [("InvalidHouse", true)])) (mNot ((aPair (some e2) (aPair (some ()) (some ()))).bind (isTab [("InvalidHouse", false)]))))) (rtF (lmt (some []))) (some (.nx ()))) (fun (b3 : Unit) => (some (.nx ())))))) (fun (b1 : Unit) => none))
def m_law_made_LIII (bounds_ : (List Int)) (width_ : Int) (most_wide_ : Int) : Option (List OHouse) := outF (b_law_made_LIII bounds_ width_ most_wide_)
theorem e_law_made_LIII (bounds_ : (List Int)) (width_ : Int) (most_wide_ : Int) : m_law_made_LIII bounds_ width_ most_wide_ = outF (b_law_made_LIII bounds_ width_ most_wide_) := by unfold m_law_made_LIII; rfl
def b_law_good (numbers_ : (List Dyn)) : Option (Fl Bool Unit) :=
  (((c2 (fun xs i => atI xs i) (some numbers_) (some (0 : Int))).bind Dyn.toL).bind fun bounds1 => (thenF (mIf (mOr (c2 mLt ((aPair (some bounds1) (some ())).bind mLen) (some (1 : Int))) (mOr (c2 mGt ((aPair (some bounds1) (some ())).bind mLen) (some (5 : Int))) (mOr (c2 mLt ((aPair (some bounds1) (some ())).bind mMinL) (some (1 : Int))) (c2 mGt ((aPair (some bounds1) (some ())).bind mMaxL) (some (20 : Int)))))) (rtF (some false)) (some (.nx ()))) (fun (b2 : Unit) => (rtF (mAnd ((some (0 : Int)).bind fun x3 => ((c2 (fun xs i => atI xs i) (some numbers_) (some (1 : Int))).bind Dyn.toI).bind fun y4 => mAnd (mLe x3 y4) ((some (24 : Int)).bind fun z5 => mLe y4 z5)) ((some (0 : Int)).bind fun x6 => ((c2 (fun xs i => atI xs i) (some numbers_) (some (2 : Int))).bind Dyn.toI).bind fun y7 => mAnd (mLe x6 y7) ((some (20 : Int)).bind fun z8 => mLe y7 z8)))))))
def m_law_good (numbers_ : (List Dyn)) : Option Bool := outF (b_law_good numbers_)
theorem e_law_good (numbers_ : (List Dyn)) : m_law_good numbers_ = outF (b_law_good numbers_) := by unfold m_law_good; rfl
def b_law_int (value_ : Int) : Option (Fl Bool Unit) :=
  (rtF (mAnd ((aPair (some value_) (aPair (some ()) (some ()))).bind (mCon true)) (mNot ((aPair (some value_) (aPair (some ()) (some ()))).bind (mCon false)))))
def m_law_int (value_ : Int) : Option Bool := outF (b_law_int value_)
theorem e_law_int (value_ : Int) : m_law_int value_ = outF (b_law_int value_) := by unfold m_law_int; rfl
def b_law_ints_UIUI (value_ : (List Int)) (due_ : (List Int)) : Option (Fl Bool Unit) :=
  (thenF (mIf (mOr (c2 mNe ((aPair (some value_) (aPair (some ()) (some ()))).bind (mCon false)) ((aPair (some due_) (aPair (some ()) (some ()))).bind (mCon false))) (c2 mNe ((aPair (some value_) (aPair (some ()) (some ()))).bind (mCon true)) ((aPair (some due_) (aPair (some ()) (some ()))).bind (mCon true)))) (rtF (some false)) (some (.nx ()))) (fun (b1 : Unit) => (thenF (mIf (c2 mNe ((aPair (some value_) (some ())).bind mLen) ((aPair (some due_) (some ())).bind mLen)) (rtF (some false)) (some (.nx ()))) (fun (b2 : Unit) => (((aPair ((aPair (some due_) (some ())).bind mLen) (some ())).bind mRng1).bind fun xs5 => thenF (forF (fun (b3 : Unit) x4 => (thenF (mIf (mOr (mNot ((aPair (c2 (fun xs i => atI xs i) (some value_) (some x4)) (some ())).bind (pk1 m_law_int))) (c2 mNe (c2 (fun xs i => atI xs i) (some value_) (some x4)) (c2 (fun xs i => atI xs i) (some due_) (some x4)))) (rtF (some false)) (some (.nx ()))) (fun (b6 : Unit) => (some (.nx ()))))) xs5 ()) (fun (b3 : Unit) => (rtF (some true))))))))
def m_law_ints_UIUI (value_ : (List Int)) (due_ : (List Int)) : Option Bool := outF (b_law_ints_UIUI value_ due_)
theorem e_law_ints_UIUI (value_ : (List Int)) (due_ : (List Int)) : m_law_ints_UIUI value_ due_ = outF (b_law_ints_UIUI value_ due_) := by unfold m_law_ints_UIUI; rfl
def b_House_cells (self_ : OHouse) : Option (Fl Int Unit) :=
  (rtF ((aPair ((some self_).bind fun x => some x.1) (some ())).bind mLen))
def m_House_cells (self_ : OHouse) : Option Int := outF (b_House_cells self_)
theorem e_House_cells (self_ : OHouse) : m_House_cells self_ = outF (b_House_cells self_) := by unfold m_House_cells; rfl
def b_House_greatest (self_ : OHouse) : Option (Fl Int Unit) :=
  (rtF ((aPair ((some self_).bind fun x => some x.1) (some ())).bind mMaxL))
def m_House_greatest (self_ : OHouse) : Option Int := outF (b_House_greatest self_)
theorem e_House_greatest (self_ : OHouse) : m_House_greatest self_ = outF (b_House_greatest self_) := by unfold m_House_greatest; rfl
def b_House_least (self_ : OHouse) : Option (Fl Int Unit) :=
  (rtF ((aPair ((some self_).bind fun x => some x.1) (some ())).bind mMinL))
def m_House_least (self_ : OHouse) : Option Int := outF (b_House_least self_)
theorem e_House_least (self_ : OHouse) : m_House_least self_ = outF (b_House_least self_) := by unfold m_House_least; rfl
def b_House_total (self_ : OHouse) : Option (Fl Int Unit) :=
  (rtF ((aPair ((some self_).bind fun x => some x.1) (some ())).bind mSum))
def m_House_total (self_ : OHouse) : Option Int := outF (b_House_total self_)
theorem e_House_total (self_ : OHouse) : m_House_total self_ = outF (b_House_total self_) := by unfold m_House_total; rfl
def b_House_wide_bound (self_ : OHouse) : Option (Fl Int Unit) :=
  (rtF ((aPair ((some self_).bind fun x => some x.2.2.1) (aPair ((aPair ((some self_).bind fun x => some x.1) (some ())).bind mMinL) (some ()))).bind mMin2))
def m_House_wide_bound (self_ : OHouse) : Option Int := outF (b_House_wide_bound self_)
theorem e_House_wide_bound (self_ : OHouse) : m_House_wide_bound self_ = outF (b_House_wide_bound self_) := by unfold m_House_wide_bound; rfl
def b_law_ints_LILI (value_ : (List Int)) (due_ : (List Int)) : Option (Fl Bool Unit) :=
  (thenF (mIf (mOr (c2 mNe ((aPair (some value_) (aPair (some ()) (some ()))).bind (mCon true)) ((aPair (some due_) (aPair (some ()) (some ()))).bind (mCon true))) (c2 mNe ((aPair (some value_) (aPair (some ()) (some ()))).bind (mCon false)) ((aPair (some due_) (aPair (some ()) (some ()))).bind (mCon false)))) (rtF (some false)) (some (.nx ()))) (fun (b1 : Unit) => (thenF (mIf (c2 mNe ((aPair (some value_) (some ())).bind mLen) ((aPair (some due_) (some ())).bind mLen)) (rtF (some false)) (some (.nx ()))) (fun (b2 : Unit) => (((aPair ((aPair (some due_) (some ())).bind mLen) (some ())).bind mRng1).bind fun xs5 => thenF (forF (fun (b3 : Unit) x4 => (thenF (mIf (mOr (mNot ((aPair (c2 (fun xs i => atI xs i) (some value_) (some x4)) (some ())).bind (pk1 m_law_int))) (c2 mNe (c2 (fun xs i => atI xs i) (some value_) (some x4)) (c2 (fun xs i => atI xs i) (some due_) (some x4)))) (rtF (some false)) (some (.nx ()))) (fun (b6 : Unit) => (some (.nx ()))))) xs5 ()) (fun (b3 : Unit) => (rtF (some true))))))))
def m_law_ints_LILI (value_ : (List Int)) (due_ : (List Int)) : Option Bool := outF (b_law_ints_LILI value_ due_)
theorem e_law_ints_LILI (value_ : (List Int)) (due_ : (List Int)) : m_law_ints_LILI value_ due_ = outF (b_law_ints_LILI value_ due_) := by unfold m_law_ints_LILI; rfl
def b_law_is_house (house_ : OHouse) (numbers_ : (List Dyn)) : Option (Fl Bool Unit) :=
  (((c2 (fun xs i => atI xs i) (some numbers_) (some (0 : Int))).bind Dyn.toL).bind fun bounds1 => (thenF (mIf (mOr (mNot ((aPair (some house_) (aPair (some ()) (some ()))).bind (mCon true))) (mNot ((aPair ((some house_).bind fun x => some x.1) (aPair ((aPair (some bounds1) (some ())).bind mId) (some ()))).bind (pk2 m_law_ints_UIUI)))) (rtF (some false)) (some (.nx ()))) (fun (b2 : Unit) => ((lmt (lCons ((some house_).bind fun x => some x.2.1) (lCons ((some house_).bind fun x => some x.2.2.1) (lCons ((some house_).bind fun o3 => pk1 m_House_cells (o3, ())) (lCons ((some house_).bind fun o4 => pk1 m_House_greatest (o4, ())) (lCons ((some house_).bind fun o5 => pk1 m_House_least (o5, ())) (lCons ((some house_).bind fun o6 => pk1 m_House_total (o6, ())) (lCons ((some house_).bind fun o7 => pk1 m_House_wide_bound (o7, ())) (some []))))))))).bind fun told8 => ((lmt (lCons ((c2 (fun xs i => atI xs i) (some numbers_) (some (1 : Int))).bind Dyn.toI) (lCons ((c2 (fun xs i => atI xs i) (some numbers_) (some (2 : Int))).bind Dyn.toI) (lCons ((aPair (some bounds1) (some ())).bind mLen) (lCons ((aPair (some bounds1) (some ())).bind mMaxL) (lCons ((aPair (some bounds1) (some ())).bind mMinL) (lCons ((aPair (some bounds1) (some ())).bind mSum) (lCons ((aPair ((c2 (fun xs i => atI xs i) (some numbers_) (some (2 : Int))).bind Dyn.toI) (aPair ((aPair (some bounds1) (some ())).bind mMinL) (some ()))).bind mMin2) (some []))))))))).bind fun due9 => (rtF ((aPair (some told8) (aPair (some due9) (some ()))).bind (pk2 m_law_ints_LILI))))))))
def m_law_is_house (house_ : OHouse) (numbers_ : (List Dyn)) : Option Bool := outF (b_law_is_house house_ numbers_)
theorem e_law_is_house (house_ : OHouse) (numbers_ : (List Dyn)) : m_law_is_house house_ numbers_ = outF (b_law_is_house house_ numbers_) := by unfold m_law_is_house; rfl
def b_law_as_due (made_ : (List OHouse)) (numbers_ : (List Dyn)) : Option (Fl Bool Unit) :=
  (thenF (mIf (mNot ((aPair (some numbers_) (some ())).bind (pk1 m_law_good))) (rtF (c2 mEq ((aPair (some made_) (some ())).bind mLen) (some (0 : Int)))) (some (.nx ()))) (fun (b1 : Unit) => (rtF (mAnd (c2 mEq ((aPair (some made_) (some ())).bind mLen) (some (1 : Int))) ((aPair (c2 (fun xs i => atI xs i) (some made_) (some (0 : Int))) (aPair (some numbers_) (some ()))).bind (pk2 m_law_is_house))))))
def m_law_as_due (made_ : (List OHouse)) (numbers_ : (List Dyn)) : Option Bool := outF (b_law_as_due made_ numbers_)
theorem e_law_as_due (made_ : (List OHouse)) (numbers_ : (List Dyn)) : m_law_as_due made_ numbers_ = outF (b_law_as_due made_ numbers_) := by unfold m_law_as_due; rfl
def b_House_init_OHouseUIII (limits_ : (List Int)) (channels_ : Int) (wide_limit_ : Int) : Option (Fl (Res Unit) OHouse) :=
  (((aPair (some limits_) (some ())).bind mId).bind fun limits1 => ((some channels_).bind fun channels2 => ((some wide_limit_).bind fun wide_limit3 => (thenF (mIf (mNot ((aPair (some limits1) (aPair (some channels_) (aPair (some wide_limit_) (some ())))).bind (pk3 m_keeps_bounds))) (some (.ret (.er ⟨"InvalidHouse", []⟩))) (some (.nx ()))) (fun (b4 : Unit) => (some (.nx (limits1, channels2, wide_limit3, ()))))))))
def m_House_init_OHouseUIII (limits_ : (List Int)) (channels_ : Int) (wide_limit_ : Int) : Option (Res OHouse) := outIX (b_House_init_OHouseUIII limits_ channels_ wide_limit_)
theorem e_House_init_OHouseUIII (limits_ : (List Int)) (channels_ : Int) (wide_limit_ : Int) : m_House_init_OHouseUIII limits_ channels_ wide_limit_ = outIX (b_House_init_OHouseUIII limits_ channels_ wide_limit_) := by unfold m_House_init_OHouseUIII; rfl
def b_law_made_UIII (bounds_ : (List Int)) (width_ : Int) (most_wide_ : Int) : Option (Fl (List OHouse) Unit) :=
  (thenF (tryF ((xB ((aPair (some bounds_) (some ())).bind fun x => (aPair (some width_) (aPair (some most_wide_) (some ()))).bind fun y => pk3 m_House_init_OHouseUIII (x.1, y.1, y.2.1, ())) fun x => some (.ok [x])).bind fun r => some (.ret r)) (isM [("InvalidHouse", true)]) (fun e2 => (thenF (mIf (mAnd ((aPair (some e2) (aPair (some ()) (some ()))).bind (isTab [("InvalidHouse", true)])) (mAnd ((aPair (some e2) (aPair (some ()) (some ()))).bind (isTab [("InvalidHouse", true)])) (mNot ((aPair (some e2) (aPair (some ()) (some ()))).bind (isTab [("InvalidHouse", false)]))))) (rtF (lmt (some []))) (some (.nx ()))) (fun (b3 : Unit) => (some (.nx ())))))) (fun (b1 : Unit) => none))
def m_law_made_UIII (bounds_ : (List Int)) (width_ : Int) (most_wide_ : Int) : Option (List OHouse) := outF (b_law_made_UIII bounds_ width_ most_wide_)
theorem e_law_made_UIII (bounds_ : (List Int)) (width_ : Int) (most_wide_ : Int) : m_law_made_UIII bounds_ width_ most_wide_ = outF (b_law_made_UIII bounds_ width_ most_wide_) := by unfold m_law_made_UIII; rfl
def b_law_near (numbers_ : (List Dyn)) : Option (Fl (List Dyn) Unit) :=
  (((mCut ((c2 (fun xs i => atI xs i) (some numbers_) (some (0 : Int))).bind Dyn.toL) (some none) (mPart (some (5 : Int)))).bind (lcM (fun x1 => (some true)) (fun x1 => ((aPair (some (20 : Int)) (aPair ((aPair (some (1 : Int)) (aPair (some x1) (some ()))).bind mMax2) (some ()))).bind mMin2)))).bind fun bounds2 => (thenF (mIf (c2 mEq ((aPair (some bounds2) (some ())).bind mLen) (some (0 : Int))) ((lmt (lCons (some (7 : Int)) (some []))).bind fun bounds4 => (some (.nx bounds4))) (some (.nx bounds2))) (fun (b3 : (List Int)) => (rtF (lmt (lCons ((some b3).bind fun x => some (Dyn.l x)) (lCons (((aPair (some (24 : Int)) (aPair ((aPair (some (0 : Int)) (aPair ((c2 (fun xs i => atI xs i) (some numbers_) (some (1 : Int))).bind Dyn.toI) (some ()))).bind mMax2) (some ()))).bind mMin2).bind fun x => some (Dyn.i x)) (lCons (((aPair (some (20 : Int)) (aPair ((aPair (some (0 : Int)) (aPair ((c2 (fun xs i => atI xs i) (some numbers_) (some (2 : Int))).bind Dyn.toI) (some ()))).bind mMax2) (some ()))).bind mMin2).bind fun x => some (Dyn.i x)) (some [])))))))))
def m_law_near (numbers_ : (List Dyn)) : Option (List Dyn) := outF (b_law_near numbers_)
theorem e_law_near (numbers_ : (List Dyn)) : m_law_near numbers_ = outF (b_law_near numbers_) := by unfold m_law_near; rfl
def b_law_defaults (bounds_ : (List Int)) (width_ : Int) (most_wide_ : Int) : Option (Fl Bool Unit) :=
  (thenF (mIf (mNot ((aPair ((aPair ((aPair (some bounds_) (some ())).bind mId) (some ())).bind fun x => (fun p => (pk3 m_House_init_OHouseUIII p).bind Res.val) (x.1, (8 : Int), (20 : Int), ())) (aPair (lmt (lCons ((some bounds_).bind fun x => some (Dyn.l x)) (lCons ((some (8 : Int)).bind fun x => some (Dyn.i x)) (lCons ((some (20 : Int)).bind fun x => some (Dyn.i x)) (some []))))) (some ()))).bind (pk2 m_law_is_house))) (rtF (some false)) (some (.nx ()))) (fun (b1 : Unit) => (thenF (mIf (mNot ((aPair ((aPair ((aPair (some bounds_) (some ())).bind mId) (some ())).bind fun x => (aPair (some width_) (some ())).bind fun y => (fun p => (pk3 m_House_init_OHouseLIII p).bind Res.val) (x.1, y.1, (20 : Int), ())) (aPair (lmt (lCons ((some bounds_).bind fun x => some (Dyn.l x)) (lCons ((some width_).bind fun x => some (Dyn.i x)) (lCons ((some (20 : Int)).bind fun x => some (Dyn.i x)) (some []))))) (some ()))).bind (pk2 m_law_is_house))) (rtF (some false)) (some (.nx ()))) (fun (b2 : Unit) => (rtF ((aPair ((aPair ((aPair (some bounds_) (some ())).bind mId) (some ())).bind fun x => (aPair (some most_wide_) (some ())).bind fun y => (fun p => (pk3 m_House_init_OHouseLIII p).bind Res.val) (x.1, (8 : Int), y.1, ())) (aPair (lmt (lCons ((some bounds_).bind fun x => some (Dyn.l x)) (lCons ((some (8 : Int)).bind fun x => some (Dyn.i x)) (lCons ((some most_wide_).bind fun x => some (Dyn.i x)) (some []))))) (some ()))).bind (pk2 m_law_is_house)))))))
def m_law_defaults (bounds_ : (List Int)) (width_ : Int) (most_wide_ : Int) : Option Bool := outF (b_law_defaults bounds_ width_ most_wide_)
theorem e_law_defaults (bounds_ : (List Int)) (width_ : Int) (most_wide_ : Int) : m_law_defaults bounds_ width_ most_wide_ = outF (b_law_defaults bounds_ width_ most_wide_) := by unfold m_law_defaults; rfl
def b_law_bit (number_ : Int) (k_ : Int) : Option (Fl Int Unit) :=
  (rtF (c2 mMod ((aPair (c2 mDiv (some number_) (c2 (fun xs i => atI xs i) (lmt (lCons (some (1 : Int)) (lCons (some (2 : Int)) (lCons (some (4 : Int)) (some []))))) (some k_))) (some ())).bind mId) (some (2 : Int))))
def m_law_bit (number_ : Int) (k_ : Int) : Option Int := outF (b_law_bit number_ k_)
theorem e_law_bit (number_ : Int) (k_ : Int) : m_law_bit number_ k_ = outF (b_law_bit number_ k_) := by unfold m_law_bit; rfl
def b_House_init_OHouseDDD (limits_ : Dyn) (channels_ : Dyn) (wide_limit_ : Dyn) : Option (Fl (Res Unit) OHouse) :=
  (((aPair (some limits_) (some ())).bind mTupD).bind fun limits1 => (((some channels_).bind Dyn.toI).bind fun channels2 => (((some wide_limit_).bind Dyn.toI).bind fun wide_limit3 => (thenF (mIf (mNot ((aPair (some limits1) (aPair ((some channels_).bind Dyn.toI) (aPair ((some wide_limit_).bind Dyn.toI) (some ())))).bind (pk3 m_keeps_bounds))) (some (.ret (.er ⟨"InvalidHouse", []⟩))) (some (.nx ()))) (fun (b4 : Unit) => (some (.nx (limits1, channels2, wide_limit3, ()))))))))
def m_House_init_OHouseDDD (limits_ : Dyn) (channels_ : Dyn) (wide_limit_ : Dyn) : Option (Res OHouse) := outIX (b_House_init_OHouseDDD limits_ channels_ wide_limit_)
theorem e_House_init_OHouseDDD (limits_ : Dyn) (channels_ : Dyn) (wide_limit_ : Dyn) : m_House_init_OHouseDDD limits_ channels_ wide_limit_ = outIX (b_House_init_OHouseDDD limits_ channels_ wide_limit_) := by unfold m_House_init_OHouseDDD; rfl
def b_House_changed_OHouseDDD (self_ : OHouse) (limits_ : Dyn) (channels_ : Dyn) (wide_limit_ : Dyn) : Option (Fl (Res OHouse) Unit) :=
  (((aPair (mIf (c2 mIsD (some limits_) (some ())) (((some self_).bind fun x => some x.1).bind fun x => some (Dyn.u x)) (some limits_)) (some ())).bind fun x => (aPair (mIf (c2 mIsD (some channels_) (some ())) (((some self_).bind fun x => some x.2.1).bind fun x => some (Dyn.i x)) (some channels_)) (aPair (mIf (c2 mIsD (some wide_limit_) (some ())) (((some self_).bind fun x => some x.2.2.1).bind fun x => some (Dyn.i x)) (some wide_limit_)) (some ()))).bind fun y => pk3 m_House_init_OHouseDDD (x.1, y.1, y.2.1, ())).bind fun r => some (.ret r))
def m_House_changed_OHouseDDD (self_ : OHouse) (limits_ : Dyn) (channels_ : Dyn) (wide_limit_ : Dyn) : Option (Res OHouse) := outF (b_House_changed_OHouseDDD self_ limits_ channels_ wide_limit_)
theorem e_House_changed_OHouseDDD (self_ : OHouse) (limits_ : Dyn) (channels_ : Dyn) (wide_limit_ : Dyn) : m_House_changed_OHouseDDD self_ limits_ channels_ wide_limit_ = outF (b_House_changed_OHouseDDD self_ limits_ channels_ wide_limit_) := by unfold m_House_changed_OHouseDDD; rfl
def b_House_changed_OHouseNDD (self_ : OHouse) (limits_ : Unit) (channels_ : Dyn) (wide_limit_ : Dyn) : Option (Fl (Res OHouse) Unit) :=
  (((aPair (mIf (c2 (fun _ _ => some true) (some limits_) (some ())) (((some self_).bind fun x => some x.1).bind fun x => some (Dyn.u x)) none) (some ())).bind fun x => (aPair (mIf (c2 mIsD (some channels_) (some ())) (((some self_).bind fun x => some x.2.1).bind fun x => some (Dyn.i x)) (some channels_)) (aPair (mIf (c2 mIsD (some wide_limit_) (some ())) (((some self_).bind fun x => some x.2.2.1).bind fun x => some (Dyn.i x)) (some wide_limit_)) (some ()))).bind fun y => pk3 m_House_init_OHouseDDD (x.1, y.1, y.2.1, ())).bind fun r => some (.ret r))
def m_House_changed_OHouseNDD (self_ : OHouse) (limits_ : Unit) (channels_ : Dyn) (wide_limit_ : Dyn) : Option (Res OHouse) := outF (b_House_changed_OHouseNDD self_ limits_ channels_ wide_limit_)
theorem e_House_changed_OHouseNDD (self_ : OHouse) (limits_ : Unit) (channels_ : Dyn) (wide_limit_ : Dyn) : m_House_changed_OHouseNDD self_ limits_ channels_ wide_limit_ = outF (b_House_changed_OHouseNDD self_ limits_ channels_ wide_limit_) := by unfold m_House_changed_OHouseNDD; rfl
def b_House_changed_OHouseDND (self_ : OHouse) (limits_ : Dyn) (channels_ : Unit) (wide_limit_ : Dyn) : Option (Fl (Res OHouse) Unit) :=
  (((aPair (mIf (c2 mIsD (some limits_) (some ())) (((some self_).bind fun x => some x.1).bind fun x => some (Dyn.u x)) (some limits_)) (some ())).bind fun x => (aPair (mIf (c2 (fun _ _ => some true) (some channels_) (some ())) (((some self_).bind fun x => some x.2.1).bind fun x => some (Dyn.i x)) none) (aPair (mIf (c2 mIsD (some wide_limit_) (some ())) (((some self_).bind fun x => some x.2.2.1).bind fun x => some (Dyn.i x)) (some wide_limit_)) (some ()))).bind fun y => pk3 m_House_init_OHouseDDD (x.1, y.1, y.2.1, ())).bind fun r => some (.ret r))
def m_House_changed_OHouseDND (self_ : OHouse) (limits_ : Dyn) (channels_ : Unit) (wide_limit_ : Dyn) : Option (Res OHouse) := outF (b_House_changed_OHouseDND self_ limits_ channels_ wide_limit_)
theorem e_House_changed_OHouseDND (self_ : OHouse) (limits_ : Dyn) (channels_ : Unit) (wide_limit_ : Dyn) : m_House_changed_OHouseDND self_ limits_ channels_ wide_limit_ = outF (b_House_changed_OHouseDND self_ limits_ channels_ wide_limit_) := by unfold m_House_changed_OHouseDND; rfl
def b_House_changed_OHouseNND (self_ : OHouse) (limits_ : Unit) (channels_ : Unit) (wide_limit_ : Dyn) : Option (Fl (Res OHouse) Unit) :=
  (((aPair (mIf (c2 (fun _ _ => some true) (some limits_) (some ())) (((some self_).bind fun x => some x.1).bind fun x => some (Dyn.u x)) none) (some ())).bind fun x => (aPair (mIf (c2 (fun _ _ => some true) (some channels_) (some ())) (((some self_).bind fun x => some x.2.1).bind fun x => some (Dyn.i x)) none) (aPair (mIf (c2 mIsD (some wide_limit_) (some ())) (((some self_).bind fun x => some x.2.2.1).bind fun x => some (Dyn.i x)) (some wide_limit_)) (some ()))).bind fun y => pk3 m_House_init_OHouseDDD (x.1, y.1, y.2.1, ())).bind fun r => some (.ret r))
def m_House_changed_OHouseNND (self_ : OHouse) (limits_ : Unit) (channels_ : Unit) (wide_limit_ : Dyn) : Option (Res OHouse) := outF (b_House_changed_OHouseNND self_ limits_ channels_ wide_limit_)
theorem e_House_changed_OHouseNND (self_ : OHouse) (limits_ : Unit) (channels_ : Unit) (wide_limit_ : Dyn) : m_House_changed_OHouseNND self_ limits_ channels_ wide_limit_ = outF (b_House_changed_OHouseNND self_ limits_ channels_ wide_limit_) := by unfold m_House_changed_OHouseNND; rfl
def b_House_changed_OHouseDDN (self_ : OHouse) (limits_ : Dyn) (channels_ : Dyn) (wide_limit_ : Unit) : Option (Fl (Res OHouse) Unit) :=
  (((aPair (mIf (c2 mIsD (some limits_) (some ())) (((some self_).bind fun x => some x.1).bind fun x => some (Dyn.u x)) (some limits_)) (some ())).bind fun x => (aPair (mIf (c2 mIsD (some channels_) (some ())) (((some self_).bind fun x => some x.2.1).bind fun x => some (Dyn.i x)) (some channels_)) (aPair (mIf (c2 (fun _ _ => some true) (some wide_limit_) (some ())) (((some self_).bind fun x => some x.2.2.1).bind fun x => some (Dyn.i x)) none) (some ()))).bind fun y => pk3 m_House_init_OHouseDDD (x.1, y.1, y.2.1, ())).bind fun r => some (.ret r))
def m_House_changed_OHouseDDN (self_ : OHouse) (limits_ : Dyn) (channels_ : Dyn) (wide_limit_ : Unit) : Option (Res OHouse) := outF (b_House_changed_OHouseDDN self_ limits_ channels_ wide_limit_)
theorem e_House_changed_OHouseDDN (self_ : OHouse) (limits_ : Dyn) (channels_ : Dyn) (wide_limit_ : Unit) : m_House_changed_OHouseDDN self_ limits_ channels_ wide_limit_ = outF (b_House_changed_OHouseDDN self_ limits_ channels_ wide_limit_) := by unfold m_House_changed_OHouseDDN; rfl
def b_House_changed_OHouseNDN (self_ : OHouse) (limits_ : Unit) (channels_ : Dyn) (wide_limit_ : Unit) : Option (Fl (Res OHouse) Unit) :=
  (((aPair (mIf (c2 (fun _ _ => some true) (some limits_) (some ())) (((some self_).bind fun x => some x.1).bind fun x => some (Dyn.u x)) none) (some ())).bind fun x => (aPair (mIf (c2 mIsD (some channels_) (some ())) (((some self_).bind fun x => some x.2.1).bind fun x => some (Dyn.i x)) (some channels_)) (aPair (mIf (c2 (fun _ _ => some true) (some wide_limit_) (some ())) (((some self_).bind fun x => some x.2.2.1).bind fun x => some (Dyn.i x)) none) (some ()))).bind fun y => pk3 m_House_init_OHouseDDD (x.1, y.1, y.2.1, ())).bind fun r => some (.ret r))
def m_House_changed_OHouseNDN (self_ : OHouse) (limits_ : Unit) (channels_ : Dyn) (wide_limit_ : Unit) : Option (Res OHouse) := outF (b_House_changed_OHouseNDN self_ limits_ channels_ wide_limit_)
theorem e_House_changed_OHouseNDN (self_ : OHouse) (limits_ : Unit) (channels_ : Dyn) (wide_limit_ : Unit) : m_House_changed_OHouseNDN self_ limits_ channels_ wide_limit_ = outF (b_House_changed_OHouseNDN self_ limits_ channels_ wide_limit_) := by unfold m_House_changed_OHouseNDN; rfl
def b_House_changed_OHouseDNN (self_ : OHouse) (limits_ : Dyn) (channels_ : Unit) (wide_limit_ : Unit) : Option (Fl (Res OHouse) Unit) :=
  (((aPair (mIf (c2 mIsD (some limits_) (some ())) (((some self_).bind fun x => some x.1).bind fun x => some (Dyn.u x)) (some limits_)) (some ())).bind fun x => (aPair (mIf (c2 (fun _ _ => some true) (some channels_) (some ())) (((some self_).bind fun x => some x.2.1).bind fun x => some (Dyn.i x)) none) (aPair (mIf (c2 (fun _ _ => some true) (some wide_limit_) (some ())) (((some self_).bind fun x => some x.2.2.1).bind fun x => some (Dyn.i x)) none) (some ()))).bind fun y => pk3 m_House_init_OHouseDDD (x.1, y.1, y.2.1, ())).bind fun r => some (.ret r))
def m_House_changed_OHouseDNN (self_ : OHouse) (limits_ : Dyn) (channels_ : Unit) (wide_limit_ : Unit) : Option (Res OHouse) := outF (b_House_changed_OHouseDNN self_ limits_ channels_ wide_limit_)
theorem e_House_changed_OHouseDNN (self_ : OHouse) (limits_ : Dyn) (channels_ : Unit) (wide_limit_ : Unit) : m_House_changed_OHouseDNN self_ limits_ channels_ wide_limit_ = outF (b_House_changed_OHouseDNN self_ limits_ channels_ wide_limit_) := by unfold m_House_changed_OHouseDNN; rfl
def b_House_changed_OHouseNNN (self_ : OHouse) (limits_ : Unit) (channels_ : Unit) (wide_limit_ : Unit) : Option (Fl (Res OHouse) Unit) :=
  (((aPair (mIf (c2 (fun _ _ => some true) (some limits_) (some ())) (((some self_).bind fun x => some x.1).bind fun x => some (Dyn.u x)) none) (some ())).bind fun x => (aPair (mIf (c2 (fun _ _ => some true) (some channels_) (some ())) (((some self_).bind fun x => some x.2.1).bind fun x => some (Dyn.i x)) none) (aPair (mIf (c2 (fun _ _ => some true) (some wide_limit_) (some ())) (((some self_).bind fun x => some x.2.2.1).bind fun x => some (Dyn.i x)) none) (some ()))).bind fun y => pk3 m_House_init_OHouseDDD (x.1, y.1, y.2.1, ())).bind fun r => some (.ret r))
def m_House_changed_OHouseNNN (self_ : OHouse) (limits_ : Unit) (channels_ : Unit) (wide_limit_ : Unit) : Option (Res OHouse) := outF (b_House_changed_OHouseNNN self_ limits_ channels_ wide_limit_)
theorem e_House_changed_OHouseNNN (self_ : OHouse) (limits_ : Unit) (channels_ : Unit) (wide_limit_ : Unit) : m_House_changed_OHouseNNN self_ limits_ channels_ wide_limit_ = outF (b_House_changed_OHouseNNN self_ limits_ channels_ wide_limit_) := by unfold m_House_changed_OHouseNNN; rfl
def b_law_changed (house_ : OHouse) (form_ : Int) (bounds_ : Dyn) (width_ : Dyn) (most_wide_ : Dyn) : Option (Fl (List OHouse) Unit) :=
  (thenF (tryF (thenF (mIf (c2 mEq (some form_) (some (7 : Int))) ((xB ((some house_).bind fun x => (aPair (some bounds_) (aPair (some width_) (aPair (some most_wide_) (some ())))).bind fun y => pk4 m_House_changed_OHouseDDD (x, y.1, y.2.1, y.2.2.1, ())) fun x => some (.ok [x])).bind fun r => some (.ret r)) (some (.nx ()))) (fun (b2 : Unit) => (thenF (mIf (c2 mEq (some form_) (some (6 : Int))) ((xB ((some house_).bind fun x => (aPair (some width_) (aPair (some most_wide_) (some ()))).bind fun y => pk4 m_House_changed_OHouseNDD (x, (), y.1, y.2.1, ())) fun x => some (.ok [x])).bind fun r => some (.ret r)) (some (.nx ()))) (fun (b3 : Unit) => (thenF (mIf (c2 mEq (some form_) (some (5 : Int))) ((xB ((some house_).bind fun x => (aPair (some bounds_) (aPair (some most_wide_) (some ()))).bind fun y => pk4 m_House_changed_OHouseDND (x, y.1, (), y.2.1, ())) fun x => some (.ok [x])).bind fun r => some (.ret r)) (some (.nx ()))) (fun (b4 : Unit) => (thenF (mIf (c2 mEq (some form_) (some (4 : Int))) ((xB ((some house_).bind fun x => (aPair (some most_wide_) (some ())).bind fun y => pk4 m_House_changed_OHouseNND (x, (), (), y.1, ())) fun x => some (.ok [x])).bind fun r => some (.ret r)) (some (.nx ()))) (fun (b5 : Unit) => (thenF (mIf (c2 mEq (some form_) (some (3 : Int))) ((xB ((some house_).bind fun x => (aPair (some bounds_) (aPair (some width_) (some ()))).bind fun y => pk4 m_House_changed_OHouseDDN (x, y.1, y.2.1, (), ())) fun x => some (.ok [x])).bind fun r => some (.ret r)) (some (.nx ()))) (fun (b6 : Unit) => (thenF (mIf (c2 mEq (some form_) (some (2 : Int))) ((xB ((some house_).bind fun x => (aPair (some width_) (some ())).bind fun y => pk4 m_House_changed_OHouseNDN (x, (), y.1, (), ())) fun x => some (.ok [x])).bind fun r => some (.ret r)) (some (.nx ()))) (fun (b7 : Unit) => (thenF (mIf (c2 mEq (some form_) (some (1 : Int))) ((xB ((some house_).bind fun x => (aPair (some bounds_) (some ())).bind fun y => pk4 m_House_changed_OHouseDNN (x, y.1, (), (), ())) fun x => some (.ok [x])).bind fun r => some (.ret r)) (some (.nx ()))) (fun (b8 : Unit) => ((xB ((some house_).bind fun x => pk4 m_House_changed_OHouseNNN (x, (), (), (), ())) fun x => some (.ok [x])).bind fun r => some (.ret r)))))))))))))))) (isM [("InvalidHouse", true)]) (fun e9 => (thenF (mIf (mAnd ((aPair (some e9) (aPair (some ()) (some ()))).bind (isTab [("InvalidHouse", true)])) (mAnd ((aPair (some e9) (aPair (some ()) (some ()))).bind (isTab [("InvalidHouse", true)])) (mNot ((aPair (some e9) (aPair (some ()) (some ()))).bind (isTab [("InvalidHouse", false)]))))) (rtF (lmt (some []))) (some (.nx ()))) (fun (b10 : Unit) => (some (.nx ())))))) (fun (b1 : Unit) => none))
def m_law_changed (house_ : OHouse) (form_ : Int) (bounds_ : Dyn) (width_ : Dyn) (most_wide_ : Dyn) : Option (List OHouse) := outF (b_law_changed house_ form_ bounds_ width_ most_wide_)
theorem e_law_changed (house_ : OHouse) (form_ : Int) (bounds_ : Dyn) (width_ : Dyn) (most_wide_ : Dyn) : m_law_changed house_ form_ bounds_ width_ most_wide_ = outF (b_law_changed house_ form_ bounds_ width_ most_wide_) := by unfold m_law_changed; rfl
def b_law_change (house_ : OHouse) (near_ : (List Dyn)) (cell_ : Int) : Option (Fl Bool Unit) :=
  (((aPair (some cell_) (some ())).bind (pk1 m_law_numbers)).bind fun news1 => (((aPair (some cell_) (aPair (some (14 : Int)) (aPair (some (8 : Int)) (some ())))).bind (pk3 m_law_draw)).bind fun form2 => (((aPair (some (0 : Int)) (aPair (c2 mSub ((aPair (some cell_) (aPair (some (15 : Int)) (aPair (some (16 : Int)) (some ())))).bind (pk3 m_law_draw)) (some (8 : Int))) (some ()))).bind mMax2).bind fun blank3 => (((aPair (some near_) (some ())).bind mId).bind fun after4 => (((aPair (some (3 : Int)) (some ())).bind mRng1).bind fun xs7 => thenF (forF (fun (b5 : (List Dyn) × (List Dyn)) x6 => (thenF (mIf (mOr (c2 mEq ((aPair (some form2) (aPair (some x6) (some ()))).bind (pk2 m_law_bit)) (some (0 : Int))) (c2 mEq ((aPair (some blank3) (aPair (some x6) (some ()))).bind (pk2 m_law_bit)) (some (1 : Int)))) (((some ()).bind fun _ => some Dyn.n).bind fun y10 => (some x6).bind fun k11 => (mSet b5.1 k11 y10).bind fun news9 => (some (.nx (news9, b5.2)))) (((some x6).bind fun k => atI b5.1 k).bind fun y13 => (some x6).bind fun k14 => (mSet b5.2 k14 y13).bind fun after12 => (some (.nx (b5.1, after12))))) (fun (b8 : (List Dyn) × (List Dyn)) => (some (.nx (b8.1, b8.2)))))) xs7 (news1, after4)) (fun (b5 : (List Dyn) × (List Dyn)) => ((some ()).bind fun (handed15 : Unit) => (thenF (mIf (c2 mNotD (c2 (fun xs i => atI xs i) (some b5.1) (some (0 : Int))) (some ())) ((((aPair ((c2 (fun xs i => atI xs i) (some b5.1) (some (0 : Int))).bind Dyn.toL) (some ())).bind mId)).bind fun handed17 => (some (.nx (some handed17)))) (some (.nx (none : Option (List Int))))) (fun (b16 : Option (List Int)) => (((aPair (some house_) (aPair (some form2) (aPair (some (b16.elim Dyn.n Dyn.l)) (aPair (c2 (fun xs i => atI xs i) (some b5.1) (some (1 : Int))) (aPair (c2 (fun xs i => atI xs i) (some b5.1) (some (2 : Int))) (some ())))))).bind (pk5 m_law_changed)).bind fun made18 => (thenF (mIf (c2 mNotD (some (b16.elim Dyn.n Dyn.l)) (some ())) (thenF (mIf (mNot ((aPair b16 (aPair ((c2 (fun xs i => atI xs i) (some b5.1) (some (0 : Int))).bind Dyn.toL) (some ()))).bind (pk2 m_law_ints_LILI))) (rtF (some false)) (some (.nx ()))) (fun (b20 : Unit) => ((some (20 : Int)).bind fun (y30 : Int) => b16.bind fun ys => if ys.length ≤ lim then (some (.nx ())) else none))) (some (.nx ()))) (fun (b19 : Unit) => (thenF (mIf (mOr (mNot ((aPair (some made18) (aPair (some b5.2) (some ()))).bind (pk2 m_law_as_due))) (mNot ((aPair (some house_) (aPair (some near_) (some ()))).bind (pk2 m_law_is_house)))) (rtF (some false)) (some (.nx ()))) (fun (b21 : Unit) => (thenF (mIf (c2 mEq ((aPair (some made18) (some ())).bind mLen) (some (0 : Int))) (((aPair (some b5.2) (some ())).bind (pk1 m_law_near)).bind fun after23 => (((aPair (some house_) (aPair (some (7 : Int)) (aPair (((aPair ((c2 (fun xs i => atI xs i) (some after23) (some (0 : Int))).bind Dyn.toL) (some ())).bind mId).bind fun x => some (Dyn.u x)) (aPair (c2 (fun xs i => atI xs i) (some after23) (some (1 : Int))) (aPair (c2 (fun xs i => atI xs i) (some after23) (some (2 : Int))) (some ())))))).bind (pk5 m_law_changed)).bind fun made24 => (thenF (mIf (mNot ((aPair (some made24) (aPair (some after23) (some ()))).bind (pk2 m_law_as_due))) (rtF (some false)) (some (.nx ()))) (fun (b25 : Unit) => (some (.nx (after23, made24))))))) (some (.nx (b5.2, made18)))) (fun (b22 : (List Dyn) × (List OHouse)) => ((c2 (fun xs i => atI xs i) (some b22.2) (some (0 : Int))).bind fun newer26 => (thenF (mIf (mNot ((aPair ((some newer26).bind fun x => (aPair (c2 (fun xs i => atI xs i) (some near_) (some (1 : Int))) (some ())).bind fun y => (fun p => (pk4 m_House_changed_OHouseNDN p).bind Res.val) (x, (), y.1, (), ())) (aPair (lmt (lCons (c2 (fun xs i => atI xs i) (some b22.1) (some (0 : Int))) (lCons (c2 (fun xs i => atI xs i) (some near_) (some (1 : Int))) (lCons (c2 (fun xs i => atI xs i) (some b22.1) (some (2 : Int))) (some []))))) (some ()))).bind (pk2 m_law_is_house))) (rtF (some false)) (some (.nx ()))) (fun (b27 : Unit) => (thenF (mIf (mNot ((aPair ((some newer26).bind fun x => (aPair (((aPair ((c2 (fun xs i => atI xs i) (some near_) (some (0 : Int))).bind Dyn.toL) (some ())).bind mId).bind fun x => some (Dyn.u x)) (some ())).bind fun y => (fun p => (pk4 m_House_changed_OHouseDNN p).bind Res.val) (x, y.1, (), (), ())) (aPair (lmt (lCons (c2 (fun xs i => atI xs i) (some near_) (some (0 : Int))) (lCons (c2 (fun xs i => atI xs i) (some b22.1) (some (1 : Int))) (lCons (c2 (fun xs i => atI xs i) (some b22.1) (some (2 : Int))) (some []))))) (some ()))).bind (pk2 m_law_is_house))) (rtF (some false)) (some (.nx ()))) (fun (b28 : Unit) => (rtF (mAnd ((aPair (some newer26) (aPair (some b22.1) (some ()))).bind (pk2 m_law_is_house)) ((aPair (some house_) (aPair (some near_) (some ()))).bind (pk2 m_law_is_house)))))))))))))))))))))))))
def m_law_change (house_ : OHouse) (near_ : (List Dyn)) (cell_ : Int) : Option Bool := outF (b_law_change house_ near_ cell_)
theorem e_law_change (house_ : OHouse) (near_ : (List Dyn)) (cell_ : Int) : m_law_change house_ near_ cell_ = outF (b_law_change house_ near_ cell_) := by unfold m_law_change; rfl
def b_law (script_ : (List Int)) : Option (Fl Bool Unit) :=
  (((aPair ((aPair (some script_) (aPair (some (0 : Int)) (some ()))).bind (pk2 m_law_cell)) (some ())).bind (pk1 m_law_numbers)).bind fun numbers1 => (thenF (mIf (mNot ((aPair ((aPair ((aPair ((c2 (fun xs i => atI xs i) (some numbers1) (some (0 : Int))).bind Dyn.toL) (some ())).bind mId) (aPair ((c2 (fun xs i => atI xs i) (some numbers1) (some (1 : Int))).bind Dyn.toI) (aPair ((c2 (fun xs i => atI xs i) (some numbers1) (some (2 : Int))).bind Dyn.toI) (some ())))).bind (pk3 m_law_made_LIII)) (aPair (some numbers1) (some ()))).bind (pk2 m_law_as_due))) (rtF (some false)) (some (.nx ()))) (fun (b2 : Unit) => (thenF (mIf (mNot ((aPair ((aPair ((aPair ((c2 (fun xs i => atI xs i) (some numbers1) (some (0 : Int))).bind Dyn.toL) (some ())).bind mId) (aPair ((c2 (fun xs i => atI xs i) (some numbers1) (some (1 : Int))).bind Dyn.toI) (aPair ((c2 (fun xs i => atI xs i) (some numbers1) (some (2 : Int))).bind Dyn.toI) (some ())))).bind (pk3 m_law_made_UIII)) (aPair (some numbers1) (some ()))).bind (pk2 m_law_as_due))) (rtF (some false)) (some (.nx ()))) (fun (b3 : Unit) => (((aPair (some numbers1) (some ())).bind (pk1 m_law_near)).bind fun near4 => (((aPair ((c2 (fun xs i => atI xs i) (some near4) (some (0 : Int))).bind Dyn.toL) (some ())).bind mId).bind fun handed5 => (((aPair (some handed5) (aPair ((c2 (fun xs i => atI xs i) (some near4) (some (1 : Int))).bind Dyn.toI) (aPair ((c2 (fun xs i => atI xs i) (some near4) (some (2 : Int))).bind Dyn.toI) (some ())))).bind (pk3 m_law_made_LIII)).bind fun made6 => (thenF (mIf (mOr (mNot ((aPair (some made6) (aPair (some near4) (some ()))).bind (pk2 m_law_as_due))) (mNot ((aPair (some handed5) (aPair ((c2 (fun xs i => atI xs i) (some near4) (some (0 : Int))).bind Dyn.toL) (some ()))).bind (pk2 m_law_ints_LILI)))) (rtF (some false)) (some (.nx ()))) (fun (b7 : Unit) => ((c2 mSub (some (21 : Int)) (c2 (fun xs i => atI xs i) (some handed5) (some (0 : Int)))).bind fun y9 => (some (0 : Int)).bind fun k10 => (mSet handed5 k10 y9).bind fun handed8 => ((some (20 : Int)).bind fun (y11 : Int) => if handed8.length ≤ lim then (thenF (mIf (mOr (mNot ((aPair (c2 (fun xs i => atI xs i) (some made6) (some (0 : Int))) (aPair (some near4) (some ()))).bind (pk2 m_law_is_house))) (mNot ((aPair ((c2 (fun xs i => atI xs i) (some near4) (some (0 : Int))).bind Dyn.toL) (aPair ((c2 (fun xs i => atI xs i) (some near4) (some (1 : Int))).bind Dyn.toI) (aPair ((c2 (fun xs i => atI xs i) (some near4) (some (2 : Int))).bind Dyn.toI) (some ())))).bind (pk3 m_law_defaults)))) (rtF (some false)) (some (.nx ()))) (fun (b12 : Unit) => (rtF ((aPair (c2 (fun xs i => atI xs i) (some made6) (some (0 : Int))) (aPair (some near4) (aPair ((aPair (some script_) (aPair (some (1 : Int)) (some ()))).bind (pk2 m_law_cell)) (some ())))).bind (pk3 m_law_change))))) else none))))))))))))
def m_law (script_ : (List Int)) : Option Bool := outF (b_law script_)
theorem e_law (script_ : (List Int)) : m_law script_ = outF (b_law script_) := by unfold m_law; rfl
end Q01
namespace Q01
open PySem PySem.Spec PyProof.Rows L2 TP
abbrev fsHouse (K : PySem.W.Frag) : OHouse → List FV := fun y => [⟨"limits", (tyU K tyI), y.1⟩, ⟨"channels", tyI, y.2.1⟩, ⟨"wide_limit", tyI, y.2.2.1⟩]
abbrev fHouse (K : PySem.W.Frag) : FTy OHouse := fL (fsHouse K)
abbrev tyHouse (K : PySem.W.Frag) : Ty OHouse := tyO (He.ga K "House") (fHouse K)
theorem fld_House_limits {K : PySem.W.Frag} : Fld (fHouse K) "limits" (tyU K tyI) (fun y => y.1) := fld_at (ns := ["limits", "channels", "wide_limit"]) 0 (fun _ => rfl) (fun _ => rfl) (by decide +kernel)
theorem fld_House_channels {K : PySem.W.Frag} : Fld (fHouse K) "channels" tyI (fun y => y.2.1) := fld_at (ns := ["limits", "channels", "wide_limit"]) 1 (fun _ => rfl) (fun _ => rfl) (by decide +kernel)
theorem fld_House_wide_limit {K : PySem.W.Frag} : Fld (fHouse K) "wide_limit" tyI (fun y => y.2.2.1) := fld_at (ns := ["limits", "channels", "wide_limit"]) 2 (fun _ => rfl) (fun _ => rfl) (by decide +kernel)
theorem nol_House {K : PySem.W.Frag} : NoL (tyHouse K) := nol_O (nolf_L fun y => ⟨(nol_U nol_I), nol_I, nol_I, trivial⟩)
theorem nof_House_changed {K : PySem.W.Frag} : ∀ H vs y, (fHouse K).rp H vs y → vs.lookup ("changed" : PySem.Str) = none := nofld (ns := ["limits", "channels", "wide_limit"]) (fun _ => rfl) (by decide +kernel)
theorem kb_House_House_init_ww (D : Addr) (doc pm : Value) (an : Option Addr) (cdv ct : Value) (a0 a1 w0 w1 : Value) : KwChain D ((([] : List (PySem.Str × V)).map (·.1)).zip []) (bindArgs (PySem.W.fnOf "__init__" "House.__init__" (defArgs s_House_init) (defBody s_House_init) (defScope s_House_init) .none (.ref D) doc pm an cdv ct) ⟨[a0, a1], (["channels", "wide_limit"] : List PySem.Str).zip [w0, w1]⟩) ((["self", "limits", "channels", "wide_limit"] : List PySem.Str).zip ([a0, a1] ++ [w0, w1])) := by
  show bindArgs _ _ = _
  kernel_rfl
theorem kb_House_House_init_wm (D : Addr) (doc pm : Value) (an : Option Addr) (cdv ct : Value) (a0 a1 m0 w0 : Value) : KwChain D ((([("wide_limit", .int 20)] : List (PySem.Str × V)).map (·.1)).zip [m0]) (bindArgs (PySem.W.fnOf "__init__" "House.__init__" (defArgs s_House_init) (defBody s_House_init) (defScope s_House_init) .none (.ref D) doc pm an cdv ct) ⟨[a0, a1], (["channels"] : List PySem.Str).zip [w0]⟩) ((["self", "limits", "channels", "wide_limit"] : List PySem.Str).zip ([a0, a1] ++ ([w0] ++ [m0]))) := by
  exact ⟨_, _, _, _, _, _, rfl, rfl, rfl⟩
theorem kb_House_House_init_mw (D : Addr) (doc pm : Value) (an : Option Addr) (cdv ct : Value) (a0 a1 m0 w0 : Value) : KwChain D ((([("channels", .int 8)] : List (PySem.Str × V)).map (·.1)).zip [m0]) (bindArgs (PySem.W.fnOf "__init__" "House.__init__" (defArgs s_House_init) (defBody s_House_init) (defScope s_House_init) .none (.ref D) doc pm an cdv ct) ⟨[a0, a1], (["wide_limit"] : List PySem.Str).zip [w0]⟩) ((["self", "limits", "channels", "wide_limit"] : List PySem.Str).zip ([a0, a1] ++ ([m0] ++ [w0]))) := by
  exact ⟨_, _, _, _, _, _, rfl, rfl, rfl⟩
theorem kb_House_House_changed_www (D : Addr) (doc pm : Value) (an : Option Addr) (cdv ct : Value) (a0 w0 w1 w2 : Value) : KwChain D ((([] : List (PySem.Str × V)).map (·.1)).zip []) (bindArgs (PySem.W.fnOf "changed" "House.changed" (defArgs s_House_changed) (defBody s_House_changed) (defScope s_House_changed) .none (.ref D) doc pm an cdv ct) ⟨[a0], (["limits", "channels", "wide_limit"] : List PySem.Str).zip [w0, w1, w2]⟩) ((["self", "limits", "channels", "wide_limit"] : List PySem.Str).zip ([a0] ++ [w0, w1, w2])) := by
  show bindArgs _ _ = _
  kernel_rfl
theorem kb_House_House_changed_mww (D : Addr) (doc pm : Value) (an : Option Addr) (cdv ct : Value) (a0 m0 w0 w1 : Value) : KwChain D ((([("limits", .non)] : List (PySem.Str × V)).map (·.1)).zip [m0]) (bindArgs (PySem.W.fnOf "changed" "House.changed" (defArgs s_House_changed) (defBody s_House_changed) (defScope s_House_changed) .none (.ref D) doc pm an cdv ct) ⟨[a0], (["channels", "wide_limit"] : List PySem.Str).zip [w0, w1]⟩) ((["self", "limits", "channels", "wide_limit"] : List PySem.Str).zip ([a0] ++ ([m0] ++ [w0, w1]))) := by
  exact ⟨_, _, _, _, _, _, rfl, rfl, rfl⟩
theorem kb_House_House_changed_wmw (D : Addr) (doc pm : Value) (an : Option Addr) (cdv ct : Value) (a0 m0 w0 w1 : Value) : KwChain D ((([("channels", .non)] : List (PySem.Str × V)).map (·.1)).zip [m0]) (bindArgs (PySem.W.fnOf "changed" "House.changed" (defArgs s_House_changed) (defBody s_House_changed) (defScope s_House_changed) .none (.ref D) doc pm an cdv ct) ⟨[a0], (["limits", "wide_limit"] : List PySem.Str).zip [w0, w1]⟩) ((["self", "limits", "channels", "wide_limit"] : List PySem.Str).zip ([a0] ++ [w0, m0, w1])) := by
  exact ⟨_, _, _, _, _, _, rfl, rfl, rfl⟩
theorem kb_House_House_changed_mmw (D : Addr) (doc pm : Value) (an : Option Addr) (cdv ct : Value) (a0 m0 m1 w0 : Value) : KwChain D ((([("limits", .non), ("channels", .non)] : List (PySem.Str × V)).map (·.1)).zip [m0, m1]) (bindArgs (PySem.W.fnOf "changed" "House.changed" (defArgs s_House_changed) (defBody s_House_changed) (defScope s_House_changed) .none (.ref D) doc pm an cdv ct) ⟨[a0], (["wide_limit"] : List PySem.Str).zip [w0]⟩) ((["self", "limits", "channels", "wide_limit"] : List PySem.Str).zip ([a0] ++ ([m0, m1] ++ [w0]))) := by
  exact ⟨_, _, _, _, _, _, rfl, rfl, _, _, _, _, _, _, rfl, rfl, rfl⟩
theorem kb_House_House_changed_wwm (D : Addr) (doc pm : Value) (an : Option Addr) (cdv ct : Value) (a0 m0 w0 w1 : Value) : KwChain D ((([("wide_limit", .non)] : List (PySem.Str × V)).map (·.1)).zip [m0]) (bindArgs (PySem.W.fnOf "changed" "House.changed" (defArgs s_House_changed) (defBody s_House_changed) (defScope s_House_changed) .none (.ref D) doc pm an cdv ct) ⟨[a0], (["limits", "channels"] : List PySem.Str).zip [w0, w1]⟩) ((["self", "limits", "channels", "wide_limit"] : List PySem.Str).zip ([a0] ++ ([w0, w1] ++ [m0]))) := by
  exact ⟨_, _, _, _, _, _, rfl, rfl, rfl⟩
theorem kb_House_House_changed_mwm (D : Addr) (doc pm : Value) (an : Option Addr) (cdv ct : Value) (a0 m0 m1 w0 : Value) : KwChain D ((([("limits", .non), ("wide_limit", .non)] : List (PySem.Str × V)).map (·.1)).zip [m0, m1]) (bindArgs (PySem.W.fnOf "changed" "House.changed" (defArgs s_House_changed) (defBody s_House_changed) (defScope s_House_changed) .none (.ref D) doc pm an cdv ct) ⟨[a0], (["channels"] : List PySem.Str).zip [w0]⟩) ((["self", "limits", "channels", "wide_limit"] : List PySem.Str).zip ([a0] ++ [m0, w0, m1])) := by
  exact ⟨_, _, _, _, _, _, rfl, rfl, _, _, _, _, _, _, rfl, rfl, rfl⟩
theorem kb_House_House_changed_wmm (D : Addr) (doc pm : Value) (an : Option Addr) (cdv ct : Value) (a0 m0 m1 w0 : Value) : KwChain D ((([("channels", .non), ("wide_limit", .non)] : List (PySem.Str × V)).map (·.1)).zip [m0, m1]) (bindArgs (PySem.W.fnOf "changed" "House.changed" (defArgs s_House_changed) (defBody s_House_changed) (defScope s_House_changed) .none (.ref D) doc pm an cdv ct) ⟨[a0], (["limits"] : List PySem.Str).zip [w0]⟩) ((["self", "limits", "channels", "wide_limit"] : List PySem.Str).zip ([a0] ++ ([w0] ++ [m0, m1]))) := by
  exact ⟨_, _, _, _, _, _, rfl, rfl, _, _, _, _, _, _, rfl, rfl, rfl⟩
theorem kb_House_House_changed_mmm (D : Addr) (doc pm : Value) (an : Option Addr) (cdv ct : Value) (a0 m0 m1 m2 : Value) : KwChain D ((([("limits", .non), ("channels", .non), ("wide_limit", .non)] : List (PySem.Str × V)).map (·.1)).zip [m0, m1, m2]) (bindArgs (PySem.W.fnOf "changed" "House.changed" (defArgs s_House_changed) (defBody s_House_changed) (defScope s_House_changed) .none (.ref D) doc pm an cdv ct) ⟨[a0], ([] : List PySem.Str).zip []⟩) ((["self", "limits", "channels", "wide_limit"] : List PySem.Str).zip ([a0] ++ ([m0, m1, m2] ++ []))) := by
  exact ⟨_, _, _, _, _, _, rfl, rfl, _, _, _, _, _, _, rfl, rfl, _, _, _, _, _, _, rfl, rfl, rfl⟩
end Q01
set_option maxHeartbeats 4000000
namespace Q01
open PySem PySem.Spec PyProof.Rows L2 TP
section
variable {P : Program} {w : World} {K : PySem.W.Frag} {mg : Str → Option Value} {base : Heap}
theorem ok_law_cell (T : Cn ft fn K mg) : Ok P w K mg base 1 (He.ga K "_law_cell") ["script", "k"] (spOf (aC (tyLs K tyI) (aC tyI aN)) tyI (pk2 m_law_cell)) := by
  refine ok_pure (x := "_law_cell") (qual := "_law_cell") (params := defArgs s_law_cell) (body := defBody s_law_cell) (scope := defScope s_law_cell) (fa := He.ga K "_law_cell") (N := N_law_cell) (sl := _) (T.def_ 0 (d := d_law_cell)) sc_law_cell (asl_cons (asl_cons asl_nil)) rfl (Nat.le_of_ble_eq_true rfl) (fun _ _ _ _ _ _ us hl => match us, hl with | [_, _], _ => rfl) fun cdv Ar outer s H E hr => ?_
  refine ⟨_, (pss_cons (ps_if (pt_cmpR op_lt (pv 1) (pe_callB call_len_seq rfl (T.free 0) bo_len (pa_cons (pv 0) pa_nil)) (nomark _)) (pss_cons (ps_ret (pe_ix ix_list (pv 0) (pv 1) (fun _ _ => rfl))) pss_nil) pss_nil) (pss_cons (ps_ret pe_int) pss_nil)), fun p => ⟨b_law_cell p.1 p.2.1, ((pk2_app m_law_cell p).trans (e_law_cell _ _)), (sd_if (env1 := fun (b1 : Unit) => ([.no, .no] : TP.Env)) (evt_test (ev_op opv_lt (ev_var (i := 1) rfl) (ev_cb cv_lenLs (eva_cons (ev_var (i := 0) rfl) eva_nil)))) (sd_ret (ev_op opv_ixLs (ev_var (i := 0) rfl) (ev_var (i := 1) rfl))) (sd_nx (wk_m [false, false] rfl)) (fun b1 => (sd_ret ev_int)))⟩⟩
end
end Q01
set_option maxHeartbeats 4000000
namespace Q01
open PySem PySem.Spec PyProof.Rows L2 TP
section
variable {P : Program} {w : World} {K : PySem.W.Frag} {mg : Str → Option Value} {base : Heap}
theorem ok_law_draw (T : Cn ft fn K mg) : Ok P w K mg base 1 (He.ga K "_law_draw") ["cell", "k", "size"] (spOf (aC tyI (aC tyI (aC tyI aN))) tyI (pk3 m_law_draw)) := by
  refine ok_pure (x := "_law_draw") (qual := "_law_draw") (params := defArgs s_law_draw) (body := defBody s_law_draw) (scope := defScope s_law_draw) (fa := He.ga K "_law_draw") (N := N_law_draw) (sl := _) (T.def_ 1 (d := d_law_draw)) sc_law_draw (asl_cons (asl_cons (asl_cons asl_nil))) rfl (Nat.le_of_ble_eq_true rfl) (fun _ _ _ _ _ _ us hl => match us, hl with | [_, _, _], _ => rfl) fun cdv Ar outer s H E hr => ?_
  refine ⟨_, (pss_cons (ps_if (pt_cmpR op_ge (pv 0) (pe_op op_pow pe_int pe_int) (nomark _)) (pss_cons (ps_set (i := 4) sc_law_draw.nd rfl (Or.inl rfl) (pe_callTy call_int1 rfl (T.free 1) bo_int (pa_cons (pv 0) pa_nil))) (pss_cons (ps_for PassesOwn.never rfl (pi_range1 rfl (T.free 2) (pa_cons (pv 1) pa_nil)) (pg_name (i := 5) sc_law_draw.nd rfl (Or.inl rfl)) (pss_cons (ps_set (i := 4) sc_law_draw.nd rfl (Or.inl rfl) (pe_op op_fdiv (pv 4) pe_int)) pss_nil)) (pss_cons (ps_if (pt_cmpR op_gt (pv 4) pe_int (nomark _)) (pss_cons (ps_ret (pe_op op_mod (pe_op op_mod (pe_callTy call_int1 rfl (T.free 1) bo_int (pa_cons (pv 4) pa_nil)) pe_int) (pv 2))) pss_nil) pss_nil) pss_nil))) pss_nil) (pss_cons (ps_set (i := 3) sc_law_draw.nd rfl (Or.inl rfl) (pe_op op_mod (pe_callTy call_int1 rfl (T.free 1) bo_int (pa_cons (pe_op op_add (pe_op op_add (pv 0) (pe_op op_mul pe_int (pv 1))) pe_int) pa_nil)) pe_int)) (pss_cons (ps_set (i := 3) sc_law_draw.nd rfl (Or.inl rfl) (pe_op op_mod (pe_callTy call_int1 rfl (T.free 1) bo_int (pa_cons (pe_op op_mul (pv 3) (pe_op op_add (pv 3) pe_int)) pa_nil)) pe_int)) (pss_cons (ps_set (i := 3) sc_law_draw.nd rfl (Or.inl rfl) (pe_op op_mod (pe_callTy call_int1 rfl (T.free 1) bo_int (pa_cons (pe_op op_add (pe_op op_mul (pv 3) (pe_op op_add (pv 3) pe_int)) (pe_op op_mul pe_int (pv 1))) pa_nil)) pe_int)) (pss_cons (ps_ret (pe_op op_mod (pe_callTy call_int1 rfl (T.free 1) bo_int (pa_cons (pe_op op_fdiv (pv 3) pe_int) pa_nil)) (pv 2))) pss_nil))))), fun p => ⟨b_law_draw p.1 p.2.1 p.2.2.1, ((pk3_app m_law_draw p).trans (e_law_draw _ _ _)), (sd_if (env1 := fun (b1 : Unit) => ([.pu tyI p.1, .pu tyI p.2.1, .pu tyI p.2.2.1, .no, .no, .no] : TP.Env)) (evt_test (ev_op opv_ge (ev_var (i := 0) rfl) (ev_op opv_pow ev_int ev_int))) (sd_asg (i := 4) (ev_cb cv_intI (eva_cons (ev_var (i := 0) rfl) eva_nil)) (fun rest2 => (sd_for (env1 := fun (b3 : Int) => ([.pu tyI p.1, .pu tyI p.2.1, .pu tyI p.2.2.1, .no, .pu tyI b3, .no] : TP.Env)) (b0 := rest2) (evi_rng1 (eva_cons (ev_var (i := 1) rfl) eva_nil)) (wk_m [true, true, true, false, true, false] rfl) (fun b3 => evg_name) (fun b3 x4 => (sd_asg (i := 4) (ev_op opv_div (ev_var (i := 4) rfl) ev_int) (fun rest6 => (sd_nx (wk_m [true, true, true, false, true, false] rfl))))) (fun b3 => (sd_if (env1 := fun (b7 : Unit) => ([.pu tyI p.1, .pu tyI p.2.1, .pu tyI p.2.2.1, .no, .no, .no] : TP.Env)) (evt_test (ev_op opv_gt (ev_var (i := 4) rfl) ev_int)) (sd_ret (ev_op opv_mod (ev_op opv_mod (ev_cb cv_intI (eva_cons (ev_var (i := 4) rfl) eva_nil)) ev_int) (ev_var (i := 2) rfl))) (sd_nx (wk_m [true, true, true, false, false, false] rfl)) (fun b7 => (sd_nx (wk_m [true, true, true, false, false, false] rfl)))))))) (sd_nx (wk_m [true, true, true, false, false, false] rfl)) (fun b1 => (sd_asg (i := 3) (ev_op opv_mod (ev_cb cv_intI (eva_cons (ev_op opv_add (ev_op opv_add (ev_var (i := 0) rfl) (ev_op opv_mul ev_int (ev_var (i := 1) rfl))) ev_int) eva_nil)) ev_int) (fun mixed8 => (sd_asg (i := 3) (ev_op opv_mod (ev_cb cv_intI (eva_cons (ev_op opv_mul (ev_var (i := 3) rfl) (ev_op opv_add (ev_var (i := 3) rfl) ev_int)) eva_nil)) ev_int) (fun mixed9 => (sd_asg (i := 3) (ev_op opv_mod (ev_cb cv_intI (eva_cons (ev_op opv_add (ev_op opv_mul (ev_var (i := 3) rfl) (ev_op opv_add (ev_var (i := 3) rfl) ev_int)) (ev_op opv_mul ev_int (ev_var (i := 1) rfl))) eva_nil)) ev_int) (fun mixed10 => (sd_ret (ev_op opv_mod (ev_cb cv_intI (eva_cons (ev_op opv_div (ev_var (i := 3) rfl) ev_int) eva_nil)) (ev_var (i := 2) rfl)))))))))))⟩⟩
end
end Q01
set_option maxHeartbeats 4000000
namespace Q01
open PySem PySem.Spec PyProof.Rows L2 TP
section
variable {P : Program} {w : World} {K : PySem.W.Frag} {mg : Str → Option Value} {base : Heap}
theorem ok_law_within (T : Cn ft fn K mg) : Ok P w K mg base 2 (He.ga K "_law_within") ["cell", "k", "low", "high"] (spOf (aC tyI (aC tyI (aC tyI (aC tyI aN)))) tyI (pk4 m_law_within)) := by
  refine ok_pure (x := "_law_within") (qual := "_law_within") (params := defArgs s_law_within) (body := defBody s_law_within) (scope := defScope s_law_within) (fa := He.ga K "_law_within") (N := N_law_within) (sl := _) (T.def_ 2 (d := d_law_within)) sc_law_within (asl_cons (asl_cons (asl_cons (asl_cons asl_nil)))) rfl (Nat.le_of_ble_eq_true rfl) (fun _ _ _ _ _ _ us hl => match us, hl with | [_, _, _, _], _ => rfl) fun cdv Ar outer s H E hr => ?_
  refine ⟨_, (pss_cons (ps_set (i := 4) sc_law_within.nd rfl (Or.inl rfl) (pe_callF (ok_law_draw T) (hr.mono (by decide)) rfl (T.glo 3) (pa_cons (pv 0) (pa_cons (pv 1) (pa_cons pe_int pa_nil))))) (pss_cons (ps_if (pt_cmpR op_lt (pv 4) pe_int (nomark _)) (pss_cons (ps_ret (pv 2)) pss_nil) pss_nil) (pss_cons (ps_if (pt_cmpR op_lt (pv 4) pe_int (nomark _)) (pss_cons (ps_ret (pv 3)) pss_nil) pss_nil) (pss_cons (ps_ret (pe_op op_add (pv 2) (pe_op op_mod (pe_callTy call_int1 rfl (T.free 1) bo_int (pa_cons (pv 4) pa_nil)) (pe_op op_add (pe_op op_sub (pv 3) (pv 2)) pe_int)))) pss_nil)))), fun p => ⟨b_law_within p.1 p.2.1 p.2.2.1 p.2.2.2.1, ((pk4_app m_law_within p).trans (e_law_within _ _ _ _)), (sd_asg (i := 4) (ev_call (eva_cons (ev_var (i := 0) rfl) (eva_cons (ev_var (i := 1) rfl) (eva_cons ev_int eva_nil)))) (fun drawn1 => (sd_if (env1 := fun (b2 : Unit) => ([.no, .no, .pu tyI p.2.2.1, .pu tyI p.2.2.2.1, .pu tyI drawn1] : TP.Env)) (evt_test (ev_op opv_lt (ev_var (i := 4) rfl) ev_int)) (sd_ret (ev_var (i := 2) rfl)) (sd_nx (wk_m [false, false, true, true, true] rfl)) (fun b2 => (sd_if (env1 := fun (b3 : Unit) => ([.no, .no, .pu tyI p.2.2.1, .pu tyI p.2.2.2.1, .pu tyI drawn1] : TP.Env)) (evt_test (ev_op opv_lt (ev_var (i := 4) rfl) ev_int)) (sd_ret (ev_var (i := 3) rfl)) (sd_nx (wk_m [false, false, true, true, true] rfl)) (fun b3 => (sd_ret (ev_op opv_add (ev_var (i := 2) rfl) (ev_op opv_mod (ev_cb cv_intI (eva_cons (ev_var (i := 4) rfl) eva_nil)) (ev_op opv_add (ev_op opv_sub (ev_var (i := 3) rfl) (ev_var (i := 2) rfl)) ev_int))))))))))⟩⟩
end
end Q01
set_option maxHeartbeats 4000000
namespace Q01
open PySem PySem.Spec PyProof.Rows L2 TP
section
variable {P : Program} {w : World} {K : PySem.W.Frag} {mg : Str → Option Value} {base : Heap}
theorem ok_law_beyond (T : Cn ft fn K mg) : Ok P w K mg base 2 (He.ga K "_law_beyond") ["cell", "k", "low", "high"] (spOf (aC tyI (aC tyI (aC tyI (aC tyI aN)))) tyI (pk4 m_law_beyond)) := by
  refine ok_pure (x := "_law_beyond") (qual := "_law_beyond") (params := defArgs s_law_beyond) (body := defBody s_law_beyond) (scope := defScope s_law_beyond) (fa := He.ga K "_law_beyond") (N := N_law_beyond) (sl := _) (T.def_ 3 (d := d_law_beyond)) sc_law_beyond (asl_cons (asl_cons (asl_cons (asl_cons asl_nil)))) rfl (Nat.le_of_ble_eq_true rfl) (fun _ _ _ _ _ _ us hl => match us, hl with | [_, _, _, _], _ => rfl) fun cdv Ar outer s H E hr => ?_
  refine ⟨_, (pss_cons (ps_ret (pe_ix ix_list (pe_lst (pa_cons (pe_op op_sub (pv 2) pe_int) (pa_cons (pe_op op_add (pv 3) pe_int) (pa_cons (pe_op op_sub (pv 2) pe_int) (pa_cons (pe_op op_add (pv 3) pe_int) (pa_cons (pe_op op_sub (pv 2) pe_int) (pa_cons (pe_op op_add (pv 3) pe_int) pa_nil))))))) (pe_callF (ok_law_draw T) (hr.mono (by decide)) rfl (T.glo 3) (pa_cons (pv 0) (pa_cons (pv 1) (pa_cons pe_int pa_nil)))) (fun _ _ => rfl))) pss_nil), fun p => ⟨b_law_beyond p.1 p.2.1 p.2.2.1 p.2.2.2.1, ((pk4_app m_law_beyond p).trans (e_law_beyond _ _ _ _)), (sd_ret (ev_op opv_ixL (EvN.ev (evn_lst (evas_cons (ev_op opv_sub (ev_var (i := 2) rfl) ev_int) (evas_cons (ev_op opv_add (ev_var (i := 3) rfl) ev_int) (evas_cons (ev_op opv_sub (ev_var (i := 2) rfl) ev_int) (evas_cons (ev_op opv_add (ev_var (i := 3) rfl) ev_int) (evas_cons (ev_op opv_sub (ev_var (i := 2) rfl) ev_int) (evas_cons (ev_op opv_add (ev_var (i := 3) rfl) ev_int) evas_nil)))))))) (ev_call (eva_cons (ev_var (i := 0) rfl) (eva_cons (ev_var (i := 1) rfl) (eva_cons ev_int eva_nil))))))⟩⟩
end
end Q01
set_option maxHeartbeats 4000000
namespace Q01
open PySem PySem.Spec PyProof.Rows L2 TP
section
variable {P : Program} {w : World} {K : PySem.W.Frag} {mg : Str → Option Value} {base : Heap}
theorem ok_law_numbers (T : Cn ft fn K mg) : Ok P w K mg base 3 (He.ga K "_law_numbers") ["cell"] (spOfN (aC tyI aN) (tyD K) (pk1 m_law_numbers)) := by
  refine ok_new (x := "_law_numbers") (qual := "_law_numbers") (params := defArgs s_law_numbers) (body := defBody s_law_numbers) (scope := defScope s_law_numbers) (fa := He.ga K "_law_numbers") (N := N_law_numbers) (sl := _) (T.def_ 4 (d := d_law_numbers)) sc_law_numbers (asl_cons asl_nil) rfl (Nat.le_of_ble_eq_true rfl) (fun _ _ _ _ _ _ us hl => match us, hl with | [_], _ => rfl) fun cdv Ar outer s H E hr => ?_
  refine ⟨_, (pss_cons (ps_set (i := 1) sc_law_numbers.nd rfl (Or.inl rfl) (pe_op op_add pe_int (pe_callF (ok_law_draw T) (hr.mono (by decide)) rfl (T.glo 3) (pa_cons (pv 0) (pa_cons pe_int (pa_cons pe_int pa_nil)))))) (pss_cons (ps_set (i := 2) sc_law_numbers.nd rfl (Or.inl rfl) (pe_callF (ok_law_draw T) (hr.mono (by decide)) rfl (T.glo 3) (pa_cons (pv 0) (pa_cons pe_int (pa_cons pe_int pa_nil))))) (pss_cons (ps_if (pt_cmpR op_eq (pv 2) pe_int (nomark _)) (pss_cons (ps_set (i := 1) sc_law_numbers.nd rfl (Or.inl rfl) (pe_op op_mul pe_int (pe_callF (ok_law_draw T) (hr.mono (by decide)) rfl (T.glo 3) (pa_cons (pv 0) (pa_cons pe_int (pa_cons pe_int pa_nil)))))) pss_nil) pss_nil) (pss_cons (ps_setLc (i := 3) (own := [("at", 7)]) rfl sc_law_numbers.nd rfl rfl (sw_true rfl rfl rfl (by rfl)) (pi_range1 rfl (T.free 2) (pa_cons (pv 1) pa_nil)) (blkOk_by (by rfl)) (fun _ _ _ _ _ => (pg_name (i := 7) sc_law_numbers.nd rfl (Or.inl rfl))) (fun _ _ _ _ _ => pts_nil) (fun _ _ _ _ _ => (pe_callF (ok_law_within T) (hr.mono (by decide)) rfl (T.glo 4) (pa_cons (pv 0) (pa_cons (pe_op op_add pe_int (pv 7)) (pa_cons pe_int (pa_cons pe_int pa_nil))))))) (pss_cons (ps_set (i := 4) sc_law_numbers.nd rfl (Or.inl rfl) (pe_callF (ok_law_within T) (hr.mono (by decide)) rfl (T.glo 4) (pa_cons (pv 0) (pa_cons pe_int (pa_cons pe_int (pa_cons pe_int pa_nil)))))) (pss_cons (ps_set (i := 5) sc_law_numbers.nd rfl (Or.inl rfl) (pe_callF (ok_law_within T) (hr.mono (by decide)) rfl (T.glo 4) (pa_cons (pv 0) (pa_cons pe_int (pa_cons pe_int (pa_cons pe_int pa_nil)))))) (pss_cons (ps_if (PW.pt (pw_or (pt_cmpR op_eq (pv 2) pe_int (nomark _)) (pw_or1 (pt_cmpR op_eq (pv 2) pe_int (nomark _))))) (pss_cons (ps_set (i := 6) sc_law_numbers.nd rfl (Or.inl rfl) (pe_op op_mod (pe_callTy call_int1 rfl (T.free 1) bo_int (pa_cons (pe_callF (ok_law_draw T) (hr.mono (by decide)) rfl (T.glo 3) (pa_cons (pv 0) (pa_cons pe_int (pa_cons pe_int pa_nil)))) pa_nil)) (pv 1))) (pss_cons (ps_asg (pe_callF (ok_law_beyond T) (hr.mono (by decide)) rfl (T.glo 5) (pa_cons (pv 0) (pa_cons pe_int (pa_cons pe_int (pa_cons pe_int pa_nil))))) (pg_sub (pv 3) (pv 6) set_list)) pss_nil)) pss_nil) (pss_cons (ps_if (PW.pt (pw_or (pt_cmpR op_eq (pv 2) pe_int (nomark _)) (pw_or1 (pt_cmpR op_eq (pv 2) pe_int (nomark _))))) (pss_cons (ps_set (i := 4) sc_law_numbers.nd rfl (Or.inl rfl) (pe_callF (ok_law_beyond T) (hr.mono (by decide)) rfl (T.glo 5) (pa_cons (pv 0) (pa_cons pe_int (pa_cons pe_int (pa_cons pe_int pa_nil)))))) pss_nil) pss_nil) (pss_cons (ps_if (PW.pt (pw_or (pt_cmpR op_eq (pv 2) pe_int (nomark _)) (pw_or1 (pt_cmpR op_eq (pv 2) pe_int (nomark _))))) (pss_cons (ps_set (i := 5) sc_law_numbers.nd rfl (Or.inl rfl) (pe_callF (ok_law_beyond T) (hr.mono (by decide)) rfl (T.glo 5) (pa_cons (pv 0) (pa_cons pe_int (pa_cons pe_int (pa_cons pe_int pa_nil)))))) pss_nil) pss_nil) (pss_cons (ps_ret (pe_lst (pa_cons (pv 3) (pa_cons (pv 4) (pa_cons (pv 5) pa_nil))))) pss_nil)))))))))), fun p => ⟨b_law_numbers p.1, ((pk1_app m_law_numbers p).trans (e_law_numbers _)), (sd_asg (i := 1) (ev_op opv_add ev_int (ev_call (eva_cons (ev_var (i := 0) rfl) (eva_cons ev_int (eva_cons ev_int eva_nil))))) (fun many1 => (sd_asg (i := 2) (ev_call (eva_cons (ev_var (i := 0) rfl) (eva_cons ev_int (eva_cons ev_int eva_nil)))) (fun flaw2 => (sd_if (env1 := fun (b3 : Int) => ([.pu tyI p.1, .pu tyI b3, .pu tyI flaw2, .no, .no, .no, .no, .no] : TP.Env)) (evt_test (ev_op opv_eqI (ev_var (i := 2) rfl) ev_int)) (sd_asg (i := 1) (ev_op opv_mul ev_int (ev_call (eva_cons (ev_var (i := 0) rfl) (eva_cons ev_int (eva_cons ev_int eva_nil))))) (fun many4 => (sd_nx (wk_m [true, true, true, false, false, false, false, false] rfl)))) (sd_nx (wk_m [true, true, true, false, false, false, false, false] rfl)) (fun b3 => (sd_asgN (i := 3) (evn_lc (is := [7]) (vs := [7]) (evi_rng1 (eva_cons (ev_var (i := 1) rfl) eva_nil)) evg_name (fun _ h => h) (fun x5 => evt_yes) (fun x5 => (ev_call (eva_cons (ev_var (i := 0) rfl) (eva_cons (ev_op opv_add ev_int (ev_var (i := 7) rfl)) (eva_cons ev_int (eva_cons ev_int eva_nil))))))) (fun bounds6 => (sd_asg (i := 4) (ev_call (eva_cons (ev_var (i := 0) rfl) (eva_cons ev_int (eva_cons ev_int (eva_cons ev_int eva_nil))))) (fun width7 => (sd_asg (i := 5) (ev_call (eva_cons (ev_var (i := 0) rfl) (eva_cons ev_int (eva_cons ev_int (eva_cons ev_int eva_nil))))) (fun most_wide8 => (sd_if (env1 := fun (b9 : (List Int)) => ([.pu tyI p.1, .no, .pu tyI flaw2, .pu (tyL tyI) b9, .pu tyI width7, .pu tyI most_wide8, .no, .no] : TP.Env)) (evt_or (evt_test (ev_op opv_eqI (ev_var (i := 2) rfl) ev_int)) (evt_test (ev_op opv_eqI (ev_var (i := 2) rfl) ev_int))) (sd_asg (i := 6) (ev_op opv_mod (ev_cb cv_intI (eva_cons (ev_call (eva_cons (ev_var (i := 0) rfl) (eva_cons ev_int (eva_cons ev_int eva_nil)))) eva_nil)) (ev_var (i := 1) rfl)) (fun place10 => (sd_setItem (i := 3) rfl (ev_call (eva_cons (ev_var (i := 0) rfl) (eva_cons ev_int (eva_cons ev_int (eva_cons ev_int eva_nil))))) (ev_var (i := 6) rfl) (fun bounds11 => (sd_freeze (i := 3) rfl (sd_nx (wk_m [true, false, true, true, true, true, false, false] rfl))))))) (sd_freeze (i := 3) rfl (sd_nx (wk_m [true, false, true, true, true, true, false, false] rfl))) (fun b9 => (sd_if (env1 := fun (b14 : Int) => ([.pu tyI p.1, .no, .pu tyI flaw2, .pu (tyL tyI) b9, .pu tyI b14, .pu tyI most_wide8, .no, .no] : TP.Env)) (evt_or (evt_test (ev_op opv_eqI (ev_var (i := 2) rfl) ev_int)) (evt_test (ev_op opv_eqI (ev_var (i := 2) rfl) ev_int))) (sd_asg (i := 4) (ev_call (eva_cons (ev_var (i := 0) rfl) (eva_cons ev_int (eva_cons ev_int (eva_cons ev_int eva_nil))))) (fun width15 => (sd_nx (wk_m [true, false, true, true, true, true, false, false] rfl)))) (sd_nx (wk_m [true, false, true, true, true, true, false, false] rfl)) (fun b14 => (sd_if (env1 := fun (b16 : Int) => ([.no, .no, .no, .pu (tyL tyI) b9, .pu tyI b14, .pu tyI b16, .no, .no] : TP.Env)) (evt_or (evt_test (ev_op opv_eqI (ev_var (i := 2) rfl) ev_int)) (evt_test (ev_op opv_eqI (ev_var (i := 2) rfl) ev_int))) (sd_asg (i := 5) (ev_call (eva_cons (ev_var (i := 0) rfl) (eva_cons ev_int (eva_cons ev_int (eva_cons ev_int eva_nil))))) (fun most_wide17 => (sd_nx (wk_m [false, false, false, true, true, true, false, false] rfl)))) (sd_nx (wk_m [false, false, false, true, true, true, false, false] rfl)) (fun b16 => (sd_retN (evn_lst (evas_cons (ev_dL (ev_var (i := 3) rfl)) (evas_cons (ev_dI (ev_var (i := 4) rfl)) (evas_cons (ev_dI (ev_var (i := 5) rfl)) evas_nil)))))))))))))))))))))))⟩⟩
end
end Q01
set_option maxHeartbeats 4000000
namespace Q01
open PySem PySem.Spec PyProof.Rows L2 TP
section
variable {P : Program} {w : World} {K : PySem.W.Frag} {mg : Str → Option Value} {base : Heap}
theorem ok_keeps_bounds (T : Cn ft fn K mg) : Ok P w K mg base 1 (He.ga K "_keeps_bounds") ["limits", "channels", "wide_limit"] (spOf (aC (tyU K tyI) (aC tyI (aC tyI aN))) tyB (pk3 m_keeps_bounds)) := by
  refine ok_pure (x := "_keeps_bounds") (qual := "_keeps_bounds") (params := defArgs s_keeps_bounds) (body := defBody s_keeps_bounds) (scope := defScope s_keeps_bounds) (fa := He.ga K "_keeps_bounds") (N := N_keeps_bounds) (sl := _) (T.def_ 5 (d := d_keeps_bounds)) sc_keeps_bounds (asl_cons (asl_cons (asl_cons asl_nil))) rfl (Nat.le_of_ble_eq_true rfl) (fun _ _ _ _ _ _ us hl => match us, hl with | [_, _, _], _ => rfl) fun cdv Ar outer s H E hr => ?_
  refine ⟨_, (pss_cons (ps_if (pt_not (pt_chain op_le op_le pe_int (pe_callB call_len_seq rfl (T.free 0) bo_len (pa_cons (pv 0) pa_nil)) (pe_gint rfl (T.int 6)))) (pss_cons (ps_ret pe_bl) pss_nil) pss_nil) (pss_cons (ps_for PassesOwn.never rfl (pi_tup (pv 0)) (pg_name (i := 3) sc_keeps_bounds.nd rfl (Or.inl rfl)) (pss_cons (ps_if (pt_not (pt_chain op_le op_le pe_int (pv 3) (pe_gint rfl (T.int 7)))) (pss_cons (ps_ret pe_bl) pss_nil) pss_nil) pss_nil)) (pss_cons (ps_ret (pe_and (pe_chain op_le op_le pe_int (pv 1) (pe_gint rfl (T.int 8))) (pe_one (pe_chain op_le op_le pe_int (pv 2) (pe_gint rfl (T.int 7)))))) pss_nil))), fun p => ⟨b_keeps_bounds p.1 p.2.1 p.2.2.1, ((pk3_app m_keeps_bounds p).trans (e_keeps_bounds _ _ _)), (sd_if (env1 := fun (b4 : Unit) => ([.pu (tyU K tyI) p.1, .pu tyI p.2.1, .pu tyI p.2.2.1, .no] : TP.Env)) (evt_not (evt_test (ev_chain opv_le opv_le ev_int (ev_cb cv_lenU (eva_cons (ev_var (i := 0) rfl) eva_nil)) ev_int))) (sd_ret ev_bl) (sd_nx (wk_m [true, true, true, false] rfl)) (fun b4 => (sd_for (env1 := fun (b5 : Unit) => ([.no, .pu tyI p.2.1, .pu tyI p.2.2.1, .no] : TP.Env)) (b0 := ()) (evi_tup (ev_var (i := 0) rfl)) (wk_m [false, true, true, false] rfl) (fun b5 => evg_name) (fun b5 x6 => (sd_if (env1 := fun (b11 : Unit) => ([.no, .pu tyI p.2.1, .pu tyI p.2.2.1, .no] : TP.Env)) (evt_not (evt_test (ev_chain opv_le opv_le ev_int (ev_var (i := 3) rfl) ev_int))) (sd_ret ev_bl) (sd_nx (wk_m [false, true, true, false] rfl)) (fun b11 => (sd_nx (wk_m [false, true, true, false] rfl))))) (fun b5 => (sd_ret (ev_andV (ev_chain opv_le opv_le ev_int (ev_var (i := 1) rfl) ev_int) (ev_chain opv_le opv_le ev_int (ev_var (i := 2) rfl) ev_int)))))))⟩⟩
end
end Q01
set_option maxHeartbeats 4000000
namespace Q01
open PySem PySem.Spec PyProof.Rows L2 TP
section
variable {P : Program} {w : World} {K : PySem.W.Frag} {mg : Str → Option Value} {base : Heap}
theorem okix_House_init_OHouseLIII (T : Cn ft fn K mg) : OkIX P w K mg base 2 "__init__" "House.__init__" (defArgs s_House_init) (defBody s_House_init) (defScope s_House_init) [("channels", V.int 8), ("wide_limit", V.int 20)] (maA K "House" "__init__") ["self", "limits", "channels", "wide_limit"] (spInitX K (He.ga K "House") (aC (tyL tyI) (aC tyI (aC tyI aN))) (fHouse K) (pk3 m_House_init_OHouseLIII)) := by
  refine ⟨ok_initX (x := "__init__") (qual := "House.__init__") (params := defArgs s_House_init) (body := defBody s_House_init) (scope := defScope s_House_init) (fa := maA K "House" "__init__") (N := N_House_init) (C := He.ga K "House") (fs := fsHouse K) (sl := _) (T.def_ 6 (d := d_House_init)) sc_House_init (asl_cons (asl_cons (asl_cons asl_nil))) rfl (Nat.le_of_ble_eq_true rfl) fun cdv Ar outer s H E hr => ?_⟩
  refine ⟨_, (pss_cons (ps_fld (pv 0) (pe_callTy call_tuple_of rfl (T.free 9) bo_tuple (pa_cons (pv 1) pa_nil)) rfl) (pss_cons (ps_fld (pv 0) (pv 2) rfl) (pss_cons (ps_fld (pv 0) (pv 3) rfl) (pss_cons (ps_if (pt_not (pt_val (pe_callF (ok_keeps_bounds T) (hr.mono (by decide)) rfl (T.glo 12) (pa_cons (pe_fld (pv 0) rfl) (pa_cons (pv 2) (pa_cons (pv 3) pa_nil)))))) (pss_cons (ps_rs rfl (L2N.takes_of rfl rfl rfl rfl) (mkN_0 (T.exc0 13) rfl (T.glo 14))) pss_nil) pss_nil) pss_nil)))), fun a0 p => ⟨b_House_init_OHouseLIII p.1 p.2.1 p.2.2.1, ((pk3_app m_House_init_OHouseLIII p).trans (e_House_init_OHouseLIII _ _ _)), (sd_fld' (i := 0) [] rfl (T.cls 10) (T.noat 11) rfl (by decide +kernel) (by decide) (ev_cb cv_tupleL (eva_cons (ev_var (i := 1) rfl) eva_nil)) (fun limits1 => (sd_fld' (i := 0) ["limits"] rfl (T.cls 10) (T.noat 16) rfl (by decide +kernel) (by decide) (ev_var (i := 2) rfl) (fun channels2 => (sd_fld' (i := 0) ["limits", "channels"] rfl (T.cls 10) (T.noat 15) rfl (by decide +kernel) (by decide) (ev_var (i := 3) rfl) (fun wide_limit3 => (sd_if (env1 := fun (b4 : Unit) => ([.ob a0 (He.ga K "House") [⟨"limits", (tyU K tyI), limits1⟩, ⟨"channels", tyI, channels2⟩, ⟨"wide_limit", tyI, wide_limit3⟩], .no, .no, .no] : TP.Env)) (evt_not (evt_B (ev_call (eva_cons (ev_fldOb' (j := 0) ["limits", "channels", "wide_limit"] rfl (T.cls 10) (T.noat 11) rfl rfl (by decide +kernel)) (eva_cons (ev_var (i := 2) rfl) (eva_cons (ev_var (i := 3) rfl) eva_nil)))))) (sd_raise (m := some ⟨"InvalidHouse", []⟩) (wk_m [false, false, false, false] rfl) evmk_0) (sd_nx (wk_m [true, false, false, false] rfl)) (fun b4 => (sd_nx (wk_m [true, false, false, false] rfl))))))))))⟩⟩
end
end Q01
set_option maxHeartbeats 4000000
namespace Q01
open PySem PySem.Spec PyProof.Rows L2 TP
section
variable {P : Program} {w : World} {K : PySem.W.Frag} {mg : Str → Option Value} {base : Heap}
theorem ok_law_made_LIII (T : Cn ft fn K mg) : Ok P w K mg base 4 (He.ga K "_law_made") ["bounds", "width", "most_wide"] (spOfN (aC (tyL tyI) (aC tyI (aC tyI aN))) (tyHouse K) (pk3 m_law_made_LIII)) := by
  refine ok_new (x := "_law_made") (qual := "_law_made") (params := defArgs s_law_made) (body := defBody s_law_made) (scope := defScope s_law_made) (fa := He.ga K "_law_made") (N := N_law_made) (sl := _) (T.def_ 7 (d := d_law_made)) sc_law_made (asl_cons (asl_cons (asl_cons asl_nil))) rfl (Nat.le_of_ble_eq_true rfl) (fun _ _ _ _ _ _ us hl => match us, hl with | [_, _, _], _ => rfl) fun cdv Ar outer s H E hr => ?_
  refine ⟨_, (pss_cons (L2N.ps_try_as (i := 3) rfl rfl sc_law_made.nd rfl rfl ⟨rfl, by decide, .inl (T.glo 14)⟩ takesN0 (fun V pn xe tkw hpw => (pss_cons (ps_ret (pe_lst (pa_cons (pe_makeKXF (n := 1) (ks := ["channels", "wide_limit"]) (g := fun us _ ws => us ++ ws) (ms := []) (okix_House_init_OHouseLIII T) (T.mkr 17) (hr.mono (by decide)) tkw rfl (T.glo 18) (by decide) (by simp) (fun h1 _ h3 => h1.append h3) (fun D doc pm an cdv ct us mv ws h1 h2 h3 => match us, mv, ws, h1, h2, h3 with | [a0, a1], [], [w0, w1], _, _, _ => kb_House_House_init_ww D doc pm an cdv ct a0 a1 w0 w1) (pa_cons (pv 0) pa_nil) (pk_cons (pv 1) (pk_cons (pv 2) pk_nil))) pa_nil))) pss_nil)) (fun a oe cls d pn hz hf => (pss_cons (ps_if (PW.pt (pw_and (pt_val (pe_callB (call_isX hz.zc hf) rfl (T.free 22) bo_isinstance (pa_cons (pv 3) (pa_cons (pe_gref rfl (T.glo 21)) pa_nil)))) (pw_and (pt_val (pe_callB (call_isX hz.zc hf) rfl (T.free 22) bo_isinstance (pa_cons (pv 3) (pa_cons (pe_tyc rfl (T.free 24) bo_ValueError) pa_nil)))) (pw_and1 (pt_not (pt_val (pe_callB (call_isX hz.zc hf) rfl (T.free 22) bo_isinstance (pa_cons (pv 3) (pa_cons (pe_gref rfl (T.glo 26)) pa_nil))))))))) (pss_cons (ps_ret (pe_lst pa_nil)) pss_nil) pss_nil) pss_nil))) (pss_cons ps_never pss_nil)), fun p => ⟨b_law_made_LIII p.1 p.2.1 p.2.2.1, ((pk3_app m_law_made_LIII p).trans (e_law_made_LIII _ _ _)), (sd_tryAs2 (i := 3) (c := .ref (He.ga K "InvalidHouse")) (Γx := [.no, .no, .no, .no]) (env1 := fun (b1 : Unit) => ([.no, .no, .no, .no] : TP.Env)) (envh := fun (b1 : Unit) => ([.no, .no, .no, .no] : TP.Env)) (mh := fun e2 => (thenF (mIf (mAnd ((aPair (some e2) (aPair (some ()) (some ()))).bind (isTab [("InvalidHouse", true)])) (mAnd ((aPair (some e2) (aPair (some ()) (some ()))).bind (isTab [("InvalidHouse", true)])) (mNot ((aPair (some e2) (aPair (some ()) (some ()))).bind (isTab [("InvalidHouse", false)]))))) (rtF (lmt (some []))) (some (.nx ()))) (fun (b3 : Unit) => (some (.nx ()))))) (fun V => (sd_retCXN (evxn_lst1 (evx_makeK (g := fun vs zs => (fun us _ ws => us ++ ws) vs (List.map (·.2) ([] : List (PySem.Str × L2.V))) zs) (A1 := (aC (tyL tyI) aN)) (A2 := (aC tyI (aC tyI aN))) (A := (aC (tyL tyI) (aC tyI (aC tyI aN)))) (f := pk3 m_House_init_OHouseLIII) (j := fun x y => (x.1, y.1, y.2.1, ())) (wk_m [false, false, false, false] rfl) (fun G vs zs x y h k => by obtain ⟨v0, _, rfl, hv0, h0⟩ := h; cases h0; obtain ⟨u0, _, rfl, hu0, k0⟩ := k; obtain ⟨u1, _, rfl, hu1, k1⟩ := k0; cases k1; exact ⟨_, fun _ => rfl, ⟨_, _, rfl, hv0, ⟨_, _, rfl, hu0, ⟨_, _, rfl, hu1, rfl⟩⟩⟩⟩) rfl rfl (eva_cons (ev_var (i := 0) rfl) eva_nil) (eva_cons (ev_var (i := 1) rfl) (eva_cons (ev_var (i := 2) rfl) eva_nil)))))) (isM_ok (t := [("InvalidHouse", true)]) ⟨T.exm 27, trivial⟩) (fun a cls d e2 _ => (sd_if (env1 := fun (b3 : Unit) => ([.no, .no, .no, .no] : TP.Env)) (evt_and (evt_B (ev_cb (cv_isX (t := [("InvalidHouse", true)]) ⟨⟨T.exk 19, T.kit 20⟩, trivial⟩) (eva_cons (ev_var (i := 3) rfl) (eva_cons ev_clsK eva_nil)))) (evt_and (evt_B (ev_cb (cv_isXB (t := [("InvalidHouse", true)]) ⟨⟨T.exk 19, T.kitB 23⟩, trivial⟩) (eva_cons (ev_var (i := 3) rfl) (eva_cons ev_ty eva_nil)))) (evt_not (evt_B (ev_cb (cv_isX (t := [("InvalidHouse", false)]) ⟨⟨T.exk 19, T.kit 25⟩, trivial⟩) (eva_cons (ev_var (i := 3) rfl) (eva_cons ev_clsK eva_nil))))))) (sd_retN (evn_lst evas_nil)) (sd_nx (wk_m [false, false, false, false] rfl)) (fun b3 => (sd_nx (wk_m [false, false, false, false] rfl))))) (fun _ => wk_m [] rfl) (fun b1 => sd_any) rfl)⟩⟩
end
end Q01
set_option maxHeartbeats 4000000
namespace Q01
open PySem PySem.Spec PyProof.Rows L2 TP
section
variable {P : Program} {w : World} {K : PySem.W.Frag} {mg : Str → Option Value} {base : Heap}
theorem ok_law_good (T : Cn ft fn K mg) : Ok P w K mg base 1 (He.ga K "_law_good") ["numbers"] (spOf (aC (tyL (tyD K)) aN) tyB (pk1 m_law_good)) := by
  refine ok_pure (x := "_law_good") (qual := "_law_good") (params := defArgs s_law_good) (body := defBody s_law_good) (scope := defScope s_law_good) (fa := He.ga K "_law_good") (N := N_law_good) (sl := _) (T.def_ 8 (d := d_law_good)) sc_law_good (asl_cons asl_nil) rfl (Nat.le_of_ble_eq_true rfl) (fun _ _ _ _ _ _ us hl => match us, hl with | [_], _ => rfl) fun cdv Ar outer s H E hr => ?_
  refine ⟨_, (pss_cons (ps_set (i := 1) sc_law_good.nd rfl (Or.inl rfl) (pe_ix ix_list (pv 0) pe_int (fun _ _ => rfl))) (pss_cons (ps_if (PW.pt (pw_or (pt_cmpR op_lt (pe_callB call_len_seq rfl (T.free 0) bo_len (pa_cons (pv 1) pa_nil)) pe_int (nomark _)) (pw_or (pt_cmpR op_gt (pe_callB call_len_seq rfl (T.free 0) bo_len (pa_cons (pv 1) pa_nil)) pe_int (nomark _)) (pw_or (pt_cmpR op_lt (pe_callB (cr_min rfl) rfl (T.free 28) bo_min (pa_cons (pv 1) pa_nil)) pe_int (nomark _)) (pw_or1 (pt_cmpR op_gt (pe_callB (cr_max rfl) rfl (T.free 29) bo_max (pa_cons (pv 1) pa_nil)) pe_int (nomark _))))))) (pss_cons (ps_ret pe_bl) pss_nil) pss_nil) (pss_cons (ps_ret (pe_and (pe_chain op_le op_le pe_int (pe_ix ix_list (pv 0) pe_int (fun _ _ => rfl)) pe_int) (pe_one (pe_chain op_le op_le pe_int (pe_ix ix_list (pv 0) pe_int (fun _ _ => rfl)) pe_int)))) pss_nil))), fun p => ⟨b_law_good p.1, ((pk1_app m_law_good p).trans (e_law_good _)), (sd_asg (i := 1) (ev_pL (ev_op opv_ixL (ev_var (i := 0) rfl) ev_int)) (fun bounds1 => (sd_if (env1 := fun (b2 : Unit) => ([.pu (tyL (tyD K)) p.1, .no] : TP.Env)) (evt_or (evt_test (ev_op opv_lt (ev_cb cv_lenL (eva_cons (ev_var (i := 1) rfl) eva_nil)) ev_int)) (evt_or (evt_test (ev_op opv_gt (ev_cb cv_lenL (eva_cons (ev_var (i := 1) rfl) eva_nil)) ev_int)) (evt_or (evt_test (ev_op opv_lt (ev_cb cv_minL (eva_cons (ev_var (i := 1) rfl) eva_nil)) ev_int)) (evt_test (ev_op opv_gt (ev_cb cv_maxL (eva_cons (ev_var (i := 1) rfl) eva_nil)) ev_int))))) (sd_ret ev_bl) (sd_nx (wk_m [true, false] rfl)) (fun b2 => (sd_ret (ev_andV (ev_chain opv_le opv_le ev_int (ev_pI (ev_op opv_ixL (ev_var (i := 0) rfl) ev_int)) ev_int) (ev_chain opv_le opv_le ev_int (ev_pI (ev_op opv_ixL (ev_var (i := 0) rfl) ev_int)) ev_int)))))))⟩⟩
end
end Q01
set_option maxHeartbeats 4000000
namespace Q01
open PySem PySem.Spec PyProof.Rows L2 TP
section
variable {P : Program} {w : World} {K : PySem.W.Frag} {mg : Str → Option Value} {base : Heap}
theorem ok_law_int (T : Cn ft fn K mg) : Ok P w K mg base 1 (He.ga K "_law_int") ["value"] (spOf (aC tyI aN) tyB (pk1 m_law_int)) := by
  refine ok_pure (x := "_law_int") (qual := "_law_int") (params := defArgs s_law_int) (body := defBody s_law_int) (scope := defScope s_law_int) (fa := He.ga K "_law_int") (N := N_law_int) (sl := _) (T.def_ 9 (d := d_law_int)) sc_law_int (asl_cons asl_nil) rfl (Nat.le_of_ble_eq_true rfl) (fun _ _ _ _ _ _ us hl => match us, hl with | [_], _ => rfl) fun cdv Ar outer s H E hr => ?_
  refine ⟨_, (pss_cons (ps_ret (pe_and (pe_callB call_isi rfl (T.free 22) bo_isinstance (pa_cons (pv 0) (pa_cons (pe_tyc rfl (T.free 1) bo_int) pa_nil))) (pe_one (pe_not (pe_callB call_isi rfl (T.free 22) bo_isinstance (pa_cons (pv 0) (pa_cons (pe_tyc rfl (T.free 30) bo_bool) pa_nil))))))) pss_nil), fun p => ⟨b_law_int p.1, ((pk1_app m_law_int p).trans (e_law_int _)), (sd_ret (ev_andV (ev_cb (cv_isi ist_I rfl) (eva_cons (ev_var (i := 0) rfl) (eva_cons ev_ty eva_nil))) (ev_notV (ev_cb (cv_isi ist_I rfl) (eva_cons (ev_var (i := 0) rfl) (eva_cons ev_ty eva_nil))))))⟩⟩
end
end Q01
set_option maxHeartbeats 4000000
namespace Q01
open PySem PySem.Spec PyProof.Rows L2 TP
section
variable {P : Program} {w : World} {K : PySem.W.Frag} {mg : Str → Option Value} {base : Heap}
theorem ok_law_ints_UIUI (T : Cn ft fn K mg) : Ok P w K mg base 2 (He.ga K "_law_ints") ["value", "due"] (spOf (aC (tyU K tyI) (aC (tyU K tyI) aN)) tyB (pk2 m_law_ints_UIUI)) := by
  refine ok_pure (x := "_law_ints") (qual := "_law_ints") (params := defArgs s_law_ints) (body := defBody s_law_ints) (scope := defScope s_law_ints) (fa := He.ga K "_law_ints") (N := N_law_ints) (sl := _) (T.def_ 10 (d := d_law_ints)) sc_law_ints (asl_cons (asl_cons asl_nil)) rfl (Nat.le_of_ble_eq_true rfl) (fun _ _ _ _ _ _ us hl => match us, hl with | [_, _], _ => rfl) fun cdv Ar outer s H E hr => ?_
  refine ⟨_, (pss_cons (ps_if (PW.pt (pw_or (pt_cmpR op_ne (pe_callB call_isi rfl (T.free 22) bo_isinstance (pa_cons (pv 0) (pa_cons (pe_tyc rfl (T.free 31) bo_list) pa_nil))) (pe_callB call_isi rfl (T.free 22) bo_isinstance (pa_cons (pv 1) (pa_cons (pe_tyc rfl (T.free 31) bo_list) pa_nil))) (nomark _)) (pw_or1 (pt_cmpR op_ne (pe_callB call_isi rfl (T.free 22) bo_isinstance (pa_cons (pv 0) (pa_cons (pe_tyc rfl (T.free 9) bo_tuple) pa_nil))) (pe_callB call_isi rfl (T.free 22) bo_isinstance (pa_cons (pv 1) (pa_cons (pe_tyc rfl (T.free 9) bo_tuple) pa_nil))) (nomark _))))) (pss_cons (ps_ret pe_bl) pss_nil) pss_nil) (pss_cons (ps_if (pt_cmpR op_ne (pe_callB call_len_seq rfl (T.free 0) bo_len (pa_cons (pv 0) pa_nil)) (pe_callB call_len_seq rfl (T.free 0) bo_len (pa_cons (pv 1) pa_nil)) (nomark _)) (pss_cons (ps_ret pe_bl) pss_nil) pss_nil) (pss_cons (ps_for PassesOwn.never rfl (pi_range1 rfl (T.free 2) (pa_cons (pe_callB call_len_seq rfl (T.free 0) bo_len (pa_cons (pv 1) pa_nil)) pa_nil)) (pg_name (i := 2) sc_law_ints.nd rfl (Or.inl rfl)) (pss_cons (ps_if (PW.pt (pw_or (pt_not (pt_val (pe_callF (ok_law_int T) (hr.mono (by decide)) rfl (T.glo 32) (pa_cons (pe_ix ix_tup (pv 0) (pv 2) (fun _ _ => rfl)) pa_nil)))) (pw_or1 (pt_cmpR op_ne (pe_ix ix_tup (pv 0) (pv 2) (fun _ _ => rfl)) (pe_ix ix_tup (pv 1) (pv 2) (fun _ _ => rfl)) (nomark _))))) (pss_cons (ps_ret pe_bl) pss_nil) pss_nil) pss_nil)) (pss_cons (ps_ret pe_bl) pss_nil)))), fun p => ⟨b_law_ints_UIUI p.1 p.2.1, ((pk2_app m_law_ints_UIUI p).trans (e_law_ints_UIUI _ _)), (sd_if (env1 := fun (b1 : Unit) => ([.pu (tyU K tyI) p.1, .pu (tyU K tyI) p.2.1, .no] : TP.Env)) (evt_or (evt_test (ev_op opv_neB (ev_cb (cv_isi ist_U rfl) (eva_cons (ev_var (i := 0) rfl) (eva_cons ev_ty eva_nil))) (ev_cb (cv_isi ist_U rfl) (eva_cons (ev_var (i := 1) rfl) (eva_cons ev_ty eva_nil))))) (evt_test (ev_op opv_neB (ev_cb (cv_isi ist_U rfl) (eva_cons (ev_var (i := 0) rfl) (eva_cons ev_ty eva_nil))) (ev_cb (cv_isi ist_U rfl) (eva_cons (ev_var (i := 1) rfl) (eva_cons ev_ty eva_nil)))))) (sd_ret ev_bl) (sd_nx (wk_m [true, true, false] rfl)) (fun b1 => (sd_if (env1 := fun (b2 : Unit) => ([.pu (tyU K tyI) p.1, .pu (tyU K tyI) p.2.1, .no] : TP.Env)) (evt_test (ev_op opv_neI (ev_cb cv_lenU (eva_cons (ev_var (i := 0) rfl) eva_nil)) (ev_cb cv_lenU (eva_cons (ev_var (i := 1) rfl) eva_nil)))) (sd_ret ev_bl) (sd_nx (wk_m [true, true, false] rfl)) (fun b2 => (sd_for (env1 := fun (b3 : Unit) => ([.pu (tyU K tyI) p.1, .pu (tyU K tyI) p.2.1, .no] : TP.Env)) (b0 := ()) (evi_rng1 (eva_cons (ev_cb cv_lenU (eva_cons (ev_var (i := 1) rfl) eva_nil)) eva_nil)) (wk_m [true, true, false] rfl) (fun b3 => evg_name) (fun b3 x4 => (sd_if (env1 := fun (b6 : Unit) => ([.pu (tyU K tyI) p.1, .pu (tyU K tyI) p.2.1, .no] : TP.Env)) (evt_or (evt_not (evt_B (ev_call (eva_cons (ev_op opv_ixU (ev_var (i := 0) rfl) (ev_var (i := 2) rfl)) eva_nil)))) (evt_test (ev_op opv_neI (ev_op opv_ixU (ev_var (i := 0) rfl) (ev_var (i := 2) rfl)) (ev_op opv_ixU (ev_var (i := 1) rfl) (ev_var (i := 2) rfl))))) (sd_ret ev_bl) (sd_nx (wk_m [true, true, false] rfl)) (fun b6 => (sd_nx (wk_m [true, true, false] rfl))))) (fun b3 => (sd_ret ev_bl)))))))⟩⟩
end
end Q01
set_option maxHeartbeats 4000000
namespace Q01
open PySem PySem.Spec PyProof.Rows L2 TP
section
variable {P : Program} {w : World} {K : PySem.W.Frag} {mg : Str → Option Value} {base : Heap}
theorem ok_House_cells (T : Cn ft fn K mg) : Ok P w K mg base 1 (pgA K "House" "cells") ["self"] (spOf (aC (tyHouse K) aN) tyI (pk1 m_House_cells)) := by
  refine ok_pure (x := "cells") (qual := "House.cells") (params := defArgs s_House_cells) (body := defBody s_House_cells) (scope := defScope s_House_cells) (fa := pgA K "House" "cells") (N := N_House_cells) (sl := _) (T.def_ 11 (d := d_House_cells)) sc_House_cells (asl_cons asl_nil) rfl (Nat.le_of_ble_eq_true rfl) (fun _ _ _ _ _ _ us hl => match us, hl with | [_], _ => rfl) fun cdv Ar outer s H E hr => ?_
  refine ⟨_, (pss_cons (ps_ret (pe_callB call_len_seq rfl (T.free 0) bo_len (pa_cons (pe_fld (pv 0) rfl) pa_nil))) pss_nil), fun p => ⟨b_House_cells p.1, ((pk1_app m_House_cells p).trans (e_House_cells _)), (sd_ret (ev_cb cv_lenU (eva_cons (ev_fld (T.cls 10) (T.noat 11) fld_House_limits (ev_var (i := 0) rfl)) eva_nil)))⟩⟩
end
end Q01
set_option maxHeartbeats 4000000
namespace Q01
open PySem PySem.Spec PyProof.Rows L2 TP
section
variable {P : Program} {w : World} {K : PySem.W.Frag} {mg : Str → Option Value} {base : Heap}
theorem ok_House_greatest (T : Cn ft fn K mg) : Ok P w K mg base 1 (pgA K "House" "greatest") ["self"] (spOf (aC (tyHouse K) aN) tyI (pk1 m_House_greatest)) := by
  refine ok_pure (x := "greatest") (qual := "House.greatest") (params := defArgs s_House_greatest) (body := defBody s_House_greatest) (scope := defScope s_House_greatest) (fa := pgA K "House" "greatest") (N := N_House_greatest) (sl := _) (T.def_ 12 (d := d_House_greatest)) sc_House_greatest (asl_cons asl_nil) rfl (Nat.le_of_ble_eq_true rfl) (fun _ _ _ _ _ _ us hl => match us, hl with | [_], _ => rfl) fun cdv Ar outer s H E hr => ?_
  refine ⟨_, (pss_cons (ps_ret (pe_callB (cr_maxT rfl hr.units) rfl (T.free 29) bo_max (pa_cons (pe_fld (pv 0) rfl) pa_nil))) pss_nil), fun p => ⟨b_House_greatest p.1, ((pk1_app m_House_greatest p).trans (e_House_greatest _)), (sd_ret (ev_cb cv_maxT (eva_cons (ev_fld (T.cls 10) (T.noat 11) fld_House_limits (ev_var (i := 0) rfl)) eva_nil)))⟩⟩
end
end Q01
set_option maxHeartbeats 4000000
namespace Q01
open PySem PySem.Spec PyProof.Rows L2 TP
section
variable {P : Program} {w : World} {K : PySem.W.Frag} {mg : Str → Option Value} {base : Heap}
theorem ok_House_least (T : Cn ft fn K mg) : Ok P w K mg base 1 (pgA K "House" "least") ["self"] (spOf (aC (tyHouse K) aN) tyI (pk1 m_House_least)) := by
  refine ok_pure (x := "least") (qual := "House.least") (params := defArgs s_House_least) (body := defBody s_House_least) (scope := defScope s_House_least) (fa := pgA K "House" "least") (N := N_House_least) (sl := _) (T.def_ 13 (d := d_House_least)) sc_House_least (asl_cons asl_nil) rfl (Nat.le_of_ble_eq_true rfl) (fun _ _ _ _ _ _ us hl => match us, hl with | [_], _ => rfl) fun cdv Ar outer s H E hr => ?_
  refine ⟨_, (pss_cons (ps_ret (pe_callB (cr_minT rfl hr.units) rfl (T.free 28) bo_min (pa_cons (pe_fld (pv 0) rfl) pa_nil))) pss_nil), fun p => ⟨b_House_least p.1, ((pk1_app m_House_least p).trans (e_House_least _)), (sd_ret (ev_cb cv_minT (eva_cons (ev_fld (T.cls 10) (T.noat 11) fld_House_limits (ev_var (i := 0) rfl)) eva_nil)))⟩⟩
end
end Q01
set_option maxHeartbeats 4000000
namespace Q01
open PySem PySem.Spec PyProof.Rows L2 TP
section
variable {P : Program} {w : World} {K : PySem.W.Frag} {mg : Str → Option Value} {base : Heap}
theorem ok_House_total (T : Cn ft fn K mg) : Ok P w K mg base 1 (pgA K "House" "total") ["self"] (spOf (aC (tyHouse K) aN) tyI (pk1 m_House_total)) := by
  refine ok_pure (x := "total") (qual := "House.total") (params := defArgs s_House_total) (body := defBody s_House_total) (scope := defScope s_House_total) (fa := pgA K "House" "total") (N := N_House_total) (sl := _) (T.def_ 14 (d := d_House_total)) sc_House_total (asl_cons asl_nil) rfl (Nat.le_of_ble_eq_true rfl) (fun _ _ _ _ _ _ us hl => match us, hl with | [_], _ => rfl) fun cdv Ar outer s H E hr => ?_
  refine ⟨_, (pss_cons (ps_ret (pe_callB (cr_sumT rfl) rfl (T.free 33) bo_sum (pa_cons (pe_fld (pv 0) rfl) pa_nil))) pss_nil), fun p => ⟨b_House_total p.1, ((pk1_app m_House_total p).trans (e_House_total _)), (sd_ret (ev_cb cv_sumT (eva_cons (ev_fld (T.cls 10) (T.noat 11) fld_House_limits (ev_var (i := 0) rfl)) eva_nil)))⟩⟩
end
end Q01
set_option maxHeartbeats 4000000
namespace Q01
open PySem PySem.Spec PyProof.Rows L2 TP
section
variable {P : Program} {w : World} {K : PySem.W.Frag} {mg : Str → Option Value} {base : Heap}
theorem ok_House_wide_bound (T : Cn ft fn K mg) : Ok P w K mg base 1 (pgA K "House" "wide_bound") ["self"] (spOf (aC (tyHouse K) aN) tyI (pk1 m_House_wide_bound)) := by
  refine ok_pure (x := "wide_bound") (qual := "House.wide_bound") (params := defArgs s_House_wide_bound) (body := defBody s_House_wide_bound) (scope := defScope s_House_wide_bound) (fa := pgA K "House" "wide_bound") (N := N_House_wide_bound) (sl := _) (T.def_ 15 (d := d_House_wide_bound)) sc_House_wide_bound (asl_cons asl_nil) rfl (Nat.le_of_ble_eq_true rfl) (fun _ _ _ _ _ _ us hl => match us, hl with | [_], _ => rfl) fun cdv Ar outer s H E hr => ?_
  refine ⟨_, (pss_cons (ps_ret (pe_callB (call_min2 rfl) rfl (T.free 28) bo_min (pa_cons (pe_fld (pv 0) rfl) (pa_cons (pe_callB (cr_minT rfl hr.units) rfl (T.free 28) bo_min (pa_cons (pe_fld (pv 0) rfl) pa_nil)) pa_nil)))) pss_nil), fun p => ⟨b_House_wide_bound p.1, ((pk1_app m_House_wide_bound p).trans (e_House_wide_bound _)), (sd_ret (ev_cb cv_min2 (eva_cons (ev_fld (T.cls 10) (T.noat 15) fld_House_wide_limit (ev_var (i := 0) rfl)) (eva_cons (ev_cb cv_minT (eva_cons (ev_fld (T.cls 10) (T.noat 11) fld_House_limits (ev_var (i := 0) rfl)) eva_nil)) eva_nil))))⟩⟩
end
end Q01
set_option maxHeartbeats 4000000
namespace Q01
open PySem PySem.Spec PyProof.Rows L2 TP
section
variable {P : Program} {w : World} {K : PySem.W.Frag} {mg : Str → Option Value} {base : Heap}
theorem ok_law_ints_LILI (T : Cn ft fn K mg) : Ok P w K mg base 2 (He.ga K "_law_ints") ["value", "due"] (spOf (aC (tyL tyI) (aC (tyL tyI) aN)) tyB (pk2 m_law_ints_LILI)) := by
  refine ok_pure (x := "_law_ints") (qual := "_law_ints") (params := defArgs s_law_ints) (body := defBody s_law_ints) (scope := defScope s_law_ints) (fa := He.ga K "_law_ints") (N := N_law_ints) (sl := _) (T.def_ 10 (d := d_law_ints)) sc_law_ints (asl_cons (asl_cons asl_nil)) rfl (Nat.le_of_ble_eq_true rfl) (fun _ _ _ _ _ _ us hl => match us, hl with | [_, _], _ => rfl) fun cdv Ar outer s H E hr => ?_
  refine ⟨_, (pss_cons (ps_if (PW.pt (pw_or (pt_cmpR op_ne (pe_callB call_isi rfl (T.free 22) bo_isinstance (pa_cons (pv 0) (pa_cons (pe_tyc rfl (T.free 31) bo_list) pa_nil))) (pe_callB call_isi rfl (T.free 22) bo_isinstance (pa_cons (pv 1) (pa_cons (pe_tyc rfl (T.free 31) bo_list) pa_nil))) (nomark _)) (pw_or1 (pt_cmpR op_ne (pe_callB call_isi rfl (T.free 22) bo_isinstance (pa_cons (pv 0) (pa_cons (pe_tyc rfl (T.free 9) bo_tuple) pa_nil))) (pe_callB call_isi rfl (T.free 22) bo_isinstance (pa_cons (pv 1) (pa_cons (pe_tyc rfl (T.free 9) bo_tuple) pa_nil))) (nomark _))))) (pss_cons (ps_ret pe_bl) pss_nil) pss_nil) (pss_cons (ps_if (pt_cmpR op_ne (pe_callB call_len_seq rfl (T.free 0) bo_len (pa_cons (pv 0) pa_nil)) (pe_callB call_len_seq rfl (T.free 0) bo_len (pa_cons (pv 1) pa_nil)) (nomark _)) (pss_cons (ps_ret pe_bl) pss_nil) pss_nil) (pss_cons (ps_for PassesOwn.never rfl (pi_range1 rfl (T.free 2) (pa_cons (pe_callB call_len_seq rfl (T.free 0) bo_len (pa_cons (pv 1) pa_nil)) pa_nil)) (pg_name (i := 2) sc_law_ints.nd rfl (Or.inl rfl)) (pss_cons (ps_if (PW.pt (pw_or (pt_not (pt_val (pe_callF (ok_law_int T) (hr.mono (by decide)) rfl (T.glo 32) (pa_cons (pe_ix ix_list (pv 0) (pv 2) (fun _ _ => rfl)) pa_nil)))) (pw_or1 (pt_cmpR op_ne (pe_ix ix_list (pv 0) (pv 2) (fun _ _ => rfl)) (pe_ix ix_list (pv 1) (pv 2) (fun _ _ => rfl)) (nomark _))))) (pss_cons (ps_ret pe_bl) pss_nil) pss_nil) pss_nil)) (pss_cons (ps_ret pe_bl) pss_nil)))), fun p => ⟨b_law_ints_LILI p.1 p.2.1, ((pk2_app m_law_ints_LILI p).trans (e_law_ints_LILI _ _)), (sd_if (env1 := fun (b1 : Unit) => ([.pu (tyL tyI) p.1, .pu (tyL tyI) p.2.1, .no] : TP.Env)) (evt_or (evt_test (ev_op opv_neB (ev_cb (cv_isi ist_L rfl) (eva_cons (ev_var (i := 0) rfl) (eva_cons ev_ty eva_nil))) (ev_cb (cv_isi ist_L rfl) (eva_cons (ev_var (i := 1) rfl) (eva_cons ev_ty eva_nil))))) (evt_test (ev_op opv_neB (ev_cb (cv_isi ist_L rfl) (eva_cons (ev_var (i := 0) rfl) (eva_cons ev_ty eva_nil))) (ev_cb (cv_isi ist_L rfl) (eva_cons (ev_var (i := 1) rfl) (eva_cons ev_ty eva_nil)))))) (sd_ret ev_bl) (sd_nx (wk_m [true, true, false] rfl)) (fun b1 => (sd_if (env1 := fun (b2 : Unit) => ([.pu (tyL tyI) p.1, .pu (tyL tyI) p.2.1, .no] : TP.Env)) (evt_test (ev_op opv_neI (ev_cb cv_lenL (eva_cons (ev_var (i := 0) rfl) eva_nil)) (ev_cb cv_lenL (eva_cons (ev_var (i := 1) rfl) eva_nil)))) (sd_ret ev_bl) (sd_nx (wk_m [true, true, false] rfl)) (fun b2 => (sd_for (env1 := fun (b3 : Unit) => ([.pu (tyL tyI) p.1, .pu (tyL tyI) p.2.1, .no] : TP.Env)) (b0 := ()) (evi_rng1 (eva_cons (ev_cb cv_lenL (eva_cons (ev_var (i := 1) rfl) eva_nil)) eva_nil)) (wk_m [true, true, false] rfl) (fun b3 => evg_name) (fun b3 x4 => (sd_if (env1 := fun (b6 : Unit) => ([.pu (tyL tyI) p.1, .pu (tyL tyI) p.2.1, .no] : TP.Env)) (evt_or (evt_not (evt_B (ev_call (eva_cons (ev_op opv_ixL (ev_var (i := 0) rfl) (ev_var (i := 2) rfl)) eva_nil)))) (evt_test (ev_op opv_neI (ev_op opv_ixL (ev_var (i := 0) rfl) (ev_var (i := 2) rfl)) (ev_op opv_ixL (ev_var (i := 1) rfl) (ev_var (i := 2) rfl))))) (sd_ret ev_bl) (sd_nx (wk_m [true, true, false] rfl)) (fun b6 => (sd_nx (wk_m [true, true, false] rfl))))) (fun b3 => (sd_ret ev_bl)))))))⟩⟩
end
end Q01
set_option maxHeartbeats 4000000
namespace Q01
open PySem PySem.Spec PyProof.Rows L2 TP
section
variable {P : Program} {w : World} {K : PySem.W.Frag} {mg : Str → Option Value} {base : Heap}
theorem ok_law_is_house (T : Cn ft fn K mg) : Ok P w K mg base 3 (He.ga K "_law_is_house") ["house", "numbers"] (spOf (aC (tyHouse K) (aC (tyL (tyD K)) aN)) tyB (pk2 m_law_is_house)) := by
  refine ok_pure (x := "_law_is_house") (qual := "_law_is_house") (params := defArgs s_law_is_house) (body := defBody s_law_is_house) (scope := defScope s_law_is_house) (fa := He.ga K "_law_is_house") (N := N_law_is_house) (sl := _) (T.def_ 16 (d := d_law_is_house)) sc_law_is_house (asl_cons (asl_cons asl_nil)) rfl (Nat.le_of_ble_eq_true rfl) (fun _ _ _ _ _ _ us hl => match us, hl with | [_, _], _ => rfl) fun cdv Ar outer s H E hr => ?_
  refine ⟨_, (pss_cons (ps_set (i := 2) sc_law_is_house.nd rfl (Or.inl rfl) (pe_ix ix_list (pv 1) pe_int (fun _ _ => rfl))) (pss_cons (ps_if (PW.pt (pw_or (pt_not (pt_val (pe_callB (C8.call_isC (T.iso 34 (T.cls 10))) rfl (T.free 22) bo_isinstance (pa_cons (pv 0) (pa_cons (pe_gref rfl (T.glo 18)) pa_nil))))) (pw_or1 (pt_not (pt_val (pe_callF (ok_law_ints_UIUI T) (hr.mono (by decide)) rfl (T.glo 35) (pa_cons (pe_fld (pv 0) rfl) (pa_cons (pe_callTy call_tuple_of rfl (T.free 9) bo_tuple (pa_cons (pv 2) pa_nil)) pa_nil)))))))) (pss_cons (ps_ret pe_bl) pss_nil) pss_nil) (pss_cons (ps_set (i := 3) sc_law_is_house.nd rfl (Or.inl rfl) (pe_lst (pa_cons (pe_fld (pv 0) rfl) (pa_cons (pe_fld (pv 0) rfl) (pa_cons (pe_propF (pv 0) (T.cls 10) (T.prop 36) (ok_House_cells T) (hr.mono (by decide)) rfl) (pa_cons (pe_propF (pv 0) (T.cls 10) (T.prop 37) (ok_House_greatest T) (hr.mono (by decide)) rfl) (pa_cons (pe_propF (pv 0) (T.cls 10) (T.prop 38) (ok_House_least T) (hr.mono (by decide)) rfl) (pa_cons (pe_propF (pv 0) (T.cls 10) (T.prop 39) (ok_House_total T) (hr.mono (by decide)) rfl) (pa_cons (pe_propF (pv 0) (T.cls 10) (T.prop 40) (ok_House_wide_bound T) (hr.mono (by decide)) rfl) pa_nil))))))))) (pss_cons (ps_set (i := 4) sc_law_is_house.nd rfl (Or.inl rfl) (pe_lst (pa_cons (pe_ix ix_list (pv 1) pe_int (fun _ _ => rfl)) (pa_cons (pe_ix ix_list (pv 1) pe_int (fun _ _ => rfl)) (pa_cons (pe_callB call_len_seq rfl (T.free 0) bo_len (pa_cons (pv 2) pa_nil)) (pa_cons (pe_callB (cr_max rfl) rfl (T.free 29) bo_max (pa_cons (pv 2) pa_nil)) (pa_cons (pe_callB (cr_min rfl) rfl (T.free 28) bo_min (pa_cons (pv 2) pa_nil)) (pa_cons (pe_callB (cr_sum rfl) rfl (T.free 33) bo_sum (pa_cons (pv 2) pa_nil)) (pa_cons (pe_callB (call_min2 rfl) rfl (T.free 28) bo_min (pa_cons (pe_ix ix_list (pv 1) pe_int (fun _ _ => rfl)) (pa_cons (pe_callB (cr_min rfl) rfl (T.free 28) bo_min (pa_cons (pv 2) pa_nil)) pa_nil))) pa_nil))))))))) (pss_cons (ps_ret (pe_callF (ok_law_ints_LILI T) (hr.mono (by decide)) rfl (T.glo 35) (pa_cons (pv 3) (pa_cons (pv 4) pa_nil)))) pss_nil))))), fun p => ⟨b_law_is_house p.1 p.2.1, ((pk2_app m_law_is_house p).trans (e_law_is_house _ _)), (sd_asg (i := 2) (ev_pL (ev_op opv_ixL (ev_var (i := 1) rfl) ev_int)) (fun bounds1 => (sd_if (env1 := fun (b2 : Unit) => ([.pu (tyHouse K) p.1, .pu (tyL (tyD K)) p.2.1, .pu (tyL tyI) bounds1, .no, .no] : TP.Env)) (evt_or (evt_not (evt_B (ev_cb cv_isO (eva_cons (ev_var (i := 0) rfl) (eva_cons ev_clsK eva_nil))))) (evt_not (evt_B (ev_call (eva_cons (ev_fld (T.cls 10) (T.noat 11) fld_House_limits (ev_var (i := 0) rfl)) (eva_cons (ev_cb cv_tupleL (eva_cons (ev_var (i := 2) rfl) eva_nil)) eva_nil)))))) (sd_ret ev_bl) (sd_nx (wk_m [true, true, true, false, false] rfl)) (fun b2 => (sd_asg (i := 3) (EvN.ev (evn_lst (evas_cons (ev_fld (T.cls 10) (T.noat 16) fld_House_channels (ev_var (i := 0) rfl)) (evas_cons (ev_fld (T.cls 10) (T.noat 15) fld_House_wide_limit (ev_var (i := 0) rfl)) (evas_cons (ev_prop (ev_var (i := 0) rfl)) (evas_cons (ev_prop (ev_var (i := 0) rfl)) (evas_cons (ev_prop (ev_var (i := 0) rfl)) (evas_cons (ev_prop (ev_var (i := 0) rfl)) (evas_cons (ev_prop (ev_var (i := 0) rfl)) evas_nil))))))))) (fun told8 => (sd_asg (i := 4) (EvN.ev (evn_lst (evas_cons (ev_pI (ev_op opv_ixL (ev_var (i := 1) rfl) ev_int)) (evas_cons (ev_pI (ev_op opv_ixL (ev_var (i := 1) rfl) ev_int)) (evas_cons (ev_cb cv_lenL (eva_cons (ev_var (i := 2) rfl) eva_nil)) (evas_cons (ev_cb cv_maxL (eva_cons (ev_var (i := 2) rfl) eva_nil)) (evas_cons (ev_cb cv_minL (eva_cons (ev_var (i := 2) rfl) eva_nil)) (evas_cons (ev_cb cv_sumL (eva_cons (ev_var (i := 2) rfl) eva_nil)) (evas_cons (ev_cb cv_min2 (eva_cons (ev_pI (ev_op opv_ixL (ev_var (i := 1) rfl) ev_int)) (eva_cons (ev_cb cv_minL (eva_cons (ev_var (i := 2) rfl) eva_nil)) eva_nil))) evas_nil))))))))) (fun due9 => (sd_ret (ev_call (eva_cons (ev_var (i := 3) rfl) (eva_cons (ev_var (i := 4) rfl) eva_nil))))))))))))⟩⟩
end
end Q01
set_option maxHeartbeats 4000000
namespace Q01
open PySem PySem.Spec PyProof.Rows L2 TP
section
variable {P : Program} {w : World} {K : PySem.W.Frag} {mg : Str → Option Value} {base : Heap}
theorem ok_law_as_due (T : Cn ft fn K mg) : Ok P w K mg base 4 (He.ga K "_law_as_due") ["made", "numbers"] (spOf (aC (tyL (tyHouse K)) (aC (tyL (tyD K)) aN)) tyB (pk2 m_law_as_due)) := by
  refine ok_pure (x := "_law_as_due") (qual := "_law_as_due") (params := defArgs s_law_as_due) (body := defBody s_law_as_due) (scope := defScope s_law_as_due) (fa := He.ga K "_law_as_due") (N := N_law_as_due) (sl := _) (T.def_ 17 (d := d_law_as_due)) sc_law_as_due (asl_cons (asl_cons asl_nil)) rfl (Nat.le_of_ble_eq_true rfl) (fun _ _ _ _ _ _ us hl => match us, hl with | [_, _], _ => rfl) fun cdv Ar outer s H E hr => ?_
  refine ⟨_, (pss_cons (ps_if (pt_not (pt_val (pe_callF (ok_law_good T) (hr.mono (by decide)) rfl (T.glo 41) (pa_cons (pv 1) pa_nil)))) (pss_cons (ps_ret (pe_cmpR op_eq (pe_callB call_len_seq rfl (T.free 0) bo_len (pa_cons (pv 0) pa_nil)) pe_int (nomark _))) pss_nil) pss_nil) (pss_cons (ps_ret (pe_and (pe_cmpR op_eq (pe_callB call_len_seq rfl (T.free 0) bo_len (pa_cons (pv 0) pa_nil)) pe_int (nomark _)) (pe_one (pe_callF (ok_law_is_house T) (hr.mono (by decide)) rfl (T.glo 42) (pa_cons (pe_ix ix_list (pv 0) pe_int (fun _ _ => rfl)) (pa_cons (pv 1) pa_nil)))))) pss_nil)), fun p => ⟨b_law_as_due p.1 p.2.1, ((pk2_app m_law_as_due p).trans (e_law_as_due _ _)), (sd_if (env1 := fun (b1 : Unit) => ([.pu (tyL (tyHouse K)) p.1, .pu (tyL (tyD K)) p.2.1] : TP.Env)) (evt_not (evt_B (ev_call (eva_cons (ev_var (i := 1) rfl) eva_nil)))) (sd_ret (ev_op opv_eqI (ev_cb cv_lenL (eva_cons (ev_var (i := 0) rfl) eva_nil)) ev_int)) (sd_nx (wk_m [true, true] rfl)) (fun b1 => (sd_ret (ev_andV (ev_op opv_eqI (ev_cb cv_lenL (eva_cons (ev_var (i := 0) rfl) eva_nil)) ev_int) (ev_call (eva_cons (ev_op opv_ixL (ev_var (i := 0) rfl) ev_int) (eva_cons (ev_var (i := 1) rfl) eva_nil)))))))⟩⟩
end
end Q01
set_option maxHeartbeats 4000000
namespace Q01
open PySem PySem.Spec PyProof.Rows L2 TP
section
variable {P : Program} {w : World} {K : PySem.W.Frag} {mg : Str → Option Value} {base : Heap}
theorem okix_House_init_OHouseUIII (T : Cn ft fn K mg) : OkIX P w K mg base 2 "__init__" "House.__init__" (defArgs s_House_init) (defBody s_House_init) (defScope s_House_init) [("channels", V.int 8), ("wide_limit", V.int 20)] (maA K "House" "__init__") ["self", "limits", "channels", "wide_limit"] (spInitX K (He.ga K "House") (aC (tyU K tyI) (aC tyI (aC tyI aN))) (fHouse K) (pk3 m_House_init_OHouseUIII)) := by
  refine ⟨ok_initX (x := "__init__") (qual := "House.__init__") (params := defArgs s_House_init) (body := defBody s_House_init) (scope := defScope s_House_init) (fa := maA K "House" "__init__") (N := N_House_init) (C := He.ga K "House") (fs := fsHouse K) (sl := _) (T.def_ 6 (d := d_House_init)) sc_House_init (asl_cons (asl_cons (asl_cons asl_nil))) rfl (Nat.le_of_ble_eq_true rfl) fun cdv Ar outer s H E hr => ?_⟩
  refine ⟨_, (pss_cons (ps_fld (pv 0) (pe_callTy call_tuple_of rfl (T.free 9) bo_tuple (pa_cons (pv 1) pa_nil)) rfl) (pss_cons (ps_fld (pv 0) (pv 2) rfl) (pss_cons (ps_fld (pv 0) (pv 3) rfl) (pss_cons (ps_if (pt_not (pt_val (pe_callF (ok_keeps_bounds T) (hr.mono (by decide)) rfl (T.glo 12) (pa_cons (pe_fld (pv 0) rfl) (pa_cons (pv 2) (pa_cons (pv 3) pa_nil)))))) (pss_cons (ps_rs rfl (L2N.takes_of rfl rfl rfl rfl) (mkN_0 (T.exc0 13) rfl (T.glo 14))) pss_nil) pss_nil) pss_nil)))), fun a0 p => ⟨b_House_init_OHouseUIII p.1 p.2.1 p.2.2.1, ((pk3_app m_House_init_OHouseUIII p).trans (e_House_init_OHouseUIII _ _ _)), (sd_fld' (i := 0) [] rfl (T.cls 10) (T.noat 11) rfl (by decide +kernel) (by decide) (ev_cb cv_tupleU (eva_cons (ev_var (i := 1) rfl) eva_nil)) (fun limits1 => (sd_fld' (i := 0) ["limits"] rfl (T.cls 10) (T.noat 16) rfl (by decide +kernel) (by decide) (ev_var (i := 2) rfl) (fun channels2 => (sd_fld' (i := 0) ["limits", "channels"] rfl (T.cls 10) (T.noat 15) rfl (by decide +kernel) (by decide) (ev_var (i := 3) rfl) (fun wide_limit3 => (sd_if (env1 := fun (b4 : Unit) => ([.ob a0 (He.ga K "House") [⟨"limits", (tyU K tyI), limits1⟩, ⟨"channels", tyI, channels2⟩, ⟨"wide_limit", tyI, wide_limit3⟩], .no, .no, .no] : TP.Env)) (evt_not (evt_B (ev_call (eva_cons (ev_fldOb' (j := 0) ["limits", "channels", "wide_limit"] rfl (T.cls 10) (T.noat 11) rfl rfl (by decide +kernel)) (eva_cons (ev_var (i := 2) rfl) (eva_cons (ev_var (i := 3) rfl) eva_nil)))))) (sd_raise (m := some ⟨"InvalidHouse", []⟩) (wk_m [false, false, false, false] rfl) evmk_0) (sd_nx (wk_m [true, false, false, false] rfl)) (fun b4 => (sd_nx (wk_m [true, false, false, false] rfl))))))))))⟩⟩
end
end Q01
set_option maxHeartbeats 4000000
namespace Q01
open PySem PySem.Spec PyProof.Rows L2 TP
section
variable {P : Program} {w : World} {K : PySem.W.Frag} {mg : Str → Option Value} {base : Heap}
theorem ok_law_made_UIII (T : Cn ft fn K mg) : Ok P w K mg base 4 (He.ga K "_law_made") ["bounds", "width", "most_wide"] (spOfN (aC (tyU K tyI) (aC tyI (aC tyI aN))) (tyHouse K) (pk3 m_law_made_UIII)) := by
  refine ok_new (x := "_law_made") (qual := "_law_made") (params := defArgs s_law_made) (body := defBody s_law_made) (scope := defScope s_law_made) (fa := He.ga K "_law_made") (N := N_law_made) (sl := _) (T.def_ 7 (d := d_law_made)) sc_law_made (asl_cons (asl_cons (asl_cons asl_nil))) rfl (Nat.le_of_ble_eq_true rfl) (fun _ _ _ _ _ _ us hl => match us, hl with | [_, _, _], _ => rfl) fun cdv Ar outer s H E hr => ?_
  refine ⟨_, (pss_cons (L2N.ps_try_as (i := 3) rfl rfl sc_law_made.nd rfl rfl ⟨rfl, by decide, .inl (T.glo 14)⟩ takesN0 (fun V pn xe tkw hpw => (pss_cons (ps_ret (pe_lst (pa_cons (pe_makeKXF (n := 1) (ks := ["channels", "wide_limit"]) (g := fun us _ ws => us ++ ws) (ms := []) (okix_House_init_OHouseUIII T) (T.mkr 17) (hr.mono (by decide)) tkw rfl (T.glo 18) (by decide) (by simp) (fun h1 _ h3 => h1.append h3) (fun D doc pm an cdv ct us mv ws h1 h2 h3 => match us, mv, ws, h1, h2, h3 with | [a0, a1], [], [w0, w1], _, _, _ => kb_House_House_init_ww D doc pm an cdv ct a0 a1 w0 w1) (pa_cons (pv 0) pa_nil) (pk_cons (pv 1) (pk_cons (pv 2) pk_nil))) pa_nil))) pss_nil)) (fun a oe cls d pn hz hf => (pss_cons (ps_if (PW.pt (pw_and (pt_val (pe_callB (call_isX hz.zc hf) rfl (T.free 22) bo_isinstance (pa_cons (pv 3) (pa_cons (pe_gref rfl (T.glo 21)) pa_nil)))) (pw_and (pt_val (pe_callB (call_isX hz.zc hf) rfl (T.free 22) bo_isinstance (pa_cons (pv 3) (pa_cons (pe_tyc rfl (T.free 24) bo_ValueError) pa_nil)))) (pw_and1 (pt_not (pt_val (pe_callB (call_isX hz.zc hf) rfl (T.free 22) bo_isinstance (pa_cons (pv 3) (pa_cons (pe_gref rfl (T.glo 26)) pa_nil))))))))) (pss_cons (ps_ret (pe_lst pa_nil)) pss_nil) pss_nil) pss_nil))) (pss_cons ps_never pss_nil)), fun p => ⟨b_law_made_UIII p.1 p.2.1 p.2.2.1, ((pk3_app m_law_made_UIII p).trans (e_law_made_UIII _ _ _)), (sd_tryAs2 (i := 3) (c := .ref (He.ga K "InvalidHouse")) (Γx := [.no, .no, .no, .no]) (env1 := fun (b1 : Unit) => ([.no, .no, .no, .no] : TP.Env)) (envh := fun (b1 : Unit) => ([.no, .no, .no, .no] : TP.Env)) (mh := fun e2 => (thenF (mIf (mAnd ((aPair (some e2) (aPair (some ()) (some ()))).bind (isTab [("InvalidHouse", true)])) (mAnd ((aPair (some e2) (aPair (some ()) (some ()))).bind (isTab [("InvalidHouse", true)])) (mNot ((aPair (some e2) (aPair (some ()) (some ()))).bind (isTab [("InvalidHouse", false)]))))) (rtF (lmt (some []))) (some (.nx ()))) (fun (b3 : Unit) => (some (.nx ()))))) (fun V => (sd_retCXN (evxn_lst1 (evx_makeK (g := fun vs zs => (fun us _ ws => us ++ ws) vs (List.map (·.2) ([] : List (PySem.Str × L2.V))) zs) (A1 := (aC (tyU K tyI) aN)) (A2 := (aC tyI (aC tyI aN))) (A := (aC (tyU K tyI) (aC tyI (aC tyI aN)))) (f := pk3 m_House_init_OHouseUIII) (j := fun x y => (x.1, y.1, y.2.1, ())) (wk_m [false, false, false, false] rfl) (fun G vs zs x y h k => by obtain ⟨v0, _, rfl, hv0, h0⟩ := h; cases h0; obtain ⟨u0, _, rfl, hu0, k0⟩ := k; obtain ⟨u1, _, rfl, hu1, k1⟩ := k0; cases k1; exact ⟨_, fun _ => rfl, ⟨_, _, rfl, hv0, ⟨_, _, rfl, hu0, ⟨_, _, rfl, hu1, rfl⟩⟩⟩⟩) rfl rfl (eva_cons (ev_var (i := 0) rfl) eva_nil) (eva_cons (ev_var (i := 1) rfl) (eva_cons (ev_var (i := 2) rfl) eva_nil)))))) (isM_ok (t := [("InvalidHouse", true)]) ⟨T.exm 27, trivial⟩) (fun a cls d e2 _ => (sd_if (env1 := fun (b3 : Unit) => ([.no, .no, .no, .no] : TP.Env)) (evt_and (evt_B (ev_cb (cv_isX (t := [("InvalidHouse", true)]) ⟨⟨T.exk 19, T.kit 20⟩, trivial⟩) (eva_cons (ev_var (i := 3) rfl) (eva_cons ev_clsK eva_nil)))) (evt_and (evt_B (ev_cb (cv_isXB (t := [("InvalidHouse", true)]) ⟨⟨T.exk 19, T.kitB 23⟩, trivial⟩) (eva_cons (ev_var (i := 3) rfl) (eva_cons ev_ty eva_nil)))) (evt_not (evt_B (ev_cb (cv_isX (t := [("InvalidHouse", false)]) ⟨⟨T.exk 19, T.kit 25⟩, trivial⟩) (eva_cons (ev_var (i := 3) rfl) (eva_cons ev_clsK eva_nil))))))) (sd_retN (evn_lst evas_nil)) (sd_nx (wk_m [false, false, false, false] rfl)) (fun b3 => (sd_nx (wk_m [false, false, false, false] rfl))))) (fun _ => wk_m [] rfl) (fun b1 => sd_any) rfl)⟩⟩
end
end Q01
set_option maxHeartbeats 4000000
namespace Q01
open PySem PySem.Spec PyProof.Rows L2 TP
section
variable {P : Program} {w : World} {K : PySem.W.Frag} {mg : Str → Option Value} {base : Heap}
theorem ok_law_near (T : Cn ft fn K mg) : Ok P w K mg base 1 (He.ga K "_law_near") ["numbers"] (spOfN (aC (tyL (tyD K)) aN) (tyD K) (pk1 m_law_near)) := by
  refine ok_new (x := "_law_near") (qual := "_law_near") (params := defArgs s_law_near) (body := defBody s_law_near) (scope := defScope s_law_near) (fa := He.ga K "_law_near") (N := N_law_near) (sl := _) (T.def_ 18 (d := d_law_near)) sc_law_near (asl_cons asl_nil) rfl (Nat.le_of_ble_eq_true rfl) (fun _ _ _ _ _ _ us hl => match us, hl with | [_], _ => rfl) fun cdv Ar outer s H E hr => ?_
  refine ⟨_, (pss_cons (ps_setLc (i := 1) (own := [("limit", 2)]) rfl sc_law_near.nd rfl rfl (sw_true rfl rfl rfl (by rfl)) (pi_list (pe_slice sl_list (pe_ix ix_list (pv 0) pe_int (fun _ _ => rfl)) po_none (po_some pe_int))) (blkOk_by (by rfl)) (fun _ _ _ _ _ => (pg_name (i := 2) sc_law_near.nd rfl (Or.inl rfl))) (fun _ _ _ _ _ => pts_nil) (fun _ _ _ _ _ => (pe_callB (call_min2 rfl) rfl (T.free 28) bo_min (pa_cons pe_int (pa_cons (pe_callB (call_max2 rfl) rfl (T.free 29) bo_max (pa_cons pe_int (pa_cons (pv 2) pa_nil))) pa_nil))))) (pss_cons (ps_if (pt_cmpR op_eq (pe_callB call_len_seq rfl (T.free 0) bo_len (pa_cons (pv 1) pa_nil)) pe_int (nomark _)) (pss_cons (ps_set (i := 1) sc_law_near.nd rfl (Or.inl rfl) (pe_lst (pa_cons pe_int pa_nil))) pss_nil) pss_nil) (pss_cons (ps_ret (pe_lst (pa_cons (pv 1) (pa_cons (pe_callB (call_min2 rfl) rfl (T.free 28) bo_min (pa_cons pe_int (pa_cons (pe_callB (call_max2 rfl) rfl (T.free 29) bo_max (pa_cons pe_int (pa_cons (pe_ix ix_list (pv 0) pe_int (fun _ _ => rfl)) pa_nil))) pa_nil))) (pa_cons (pe_callB (call_min2 rfl) rfl (T.free 28) bo_min (pa_cons pe_int (pa_cons (pe_callB (call_max2 rfl) rfl (T.free 29) bo_max (pa_cons pe_int (pa_cons (pe_ix ix_list (pv 0) pe_int (fun _ _ => rfl)) pa_nil))) pa_nil))) pa_nil))))) pss_nil))), fun p => ⟨b_law_near p.1, ((pk1_app m_law_near p).trans (e_law_near _)), (sd_asg (i := 1) (EvN.ev (evn_lc (is := [2]) (vs := [2]) (evi_list (K := K) (EvN.ev (evn_cut (ev_pL (ev_op opv_ixL (ev_var (i := 0) rfl) ev_int)) evo_no (evo_at ev_int)))) evg_name (fun _ h => h) (fun x1 => evt_yes) (fun x1 => (ev_cb cv_min2 (eva_cons ev_int (eva_cons (ev_cb cv_max2 (eva_cons ev_int (eva_cons (ev_var (i := 2) rfl) eva_nil))) eva_nil)))))) (fun bounds2 => (sd_if (env1 := fun (b3 : (List Int)) => ([.pu (tyL (tyD K)) p.1, .pu (tyL tyI) b3, .no] : TP.Env)) (evt_test (ev_op opv_eqI (ev_cb cv_lenL (eva_cons (ev_var (i := 1) rfl) eva_nil)) ev_int)) (sd_asg (i := 1) (EvN.ev (evn_lst (evas_cons ev_int evas_nil))) (fun bounds4 => (sd_nx (wk_m [true, true, false] rfl)))) (sd_nx (wk_m [true, true, false] rfl)) (fun b3 => (sd_retN (evn_lst (evas_cons (ev_dL (ev_var (i := 1) rfl)) (evas_cons (ev_dI (ev_cb cv_min2 (eva_cons ev_int (eva_cons (ev_cb cv_max2 (eva_cons ev_int (eva_cons (ev_pI (ev_op opv_ixL (ev_var (i := 0) rfl) ev_int)) eva_nil))) eva_nil)))) (evas_cons (ev_dI (ev_cb cv_min2 (eva_cons ev_int (eva_cons (ev_cb cv_max2 (eva_cons ev_int (eva_cons (ev_pI (ev_op opv_ixL (ev_var (i := 0) rfl) ev_int)) eva_nil))) eva_nil)))) evas_nil)))))))))⟩⟩
end
end Q01
set_option maxHeartbeats 4000000
namespace Q01
open PySem PySem.Spec PyProof.Rows L2 TP
section
variable {P : Program} {w : World} {K : PySem.W.Frag} {mg : Str → Option Value} {base : Heap}
theorem ok_law_defaults (T : Cn ft fn K mg) : Ok P w K mg base 4 (He.ga K "_law_defaults") ["bounds", "width", "most_wide"] (spOf (aC (tyL tyI) (aC tyI (aC tyI aN))) tyB (pk3 m_law_defaults)) := by
  refine ok_pure (x := "_law_defaults") (qual := "_law_defaults") (params := defArgs s_law_defaults) (body := defBody s_law_defaults) (scope := defScope s_law_defaults) (fa := He.ga K "_law_defaults") (N := N_law_defaults) (sl := _) (T.def_ 19 (d := d_law_defaults)) sc_law_defaults (asl_cons (asl_cons (asl_cons asl_nil))) rfl (Nat.le_of_ble_eq_true rfl) (fun _ _ _ _ _ _ us hl => match us, hl with | [_, _, _], _ => rfl) fun cdv Ar outer s H E hr => ?_
  refine ⟨_, (pss_cons (ps_if (pt_not (pt_val (pe_callF (ok_law_is_house T) (hr.mono (by decide)) rfl (T.glo 42) (pa_cons (pe_makeF0 (n := 2) (oki_calm (okix_House_init_OHouseUIII T)) (T.mkr 17) (hr.mono (by decide)) rfl (T.glo 18) (by decide) rfl (fun D doc pm an cdv ct us ks h1 h2 => match us, ks, h1, h2 with | [_, _], [_, _], _, _ => ⟨_, _, _, _, _, _, rfl, rfl, ⟨_, _, _, _, _, _, rfl, rfl, rfl⟩⟩) (pa_cons (pe_callTy call_tuple_of rfl (T.free 9) bo_tuple (pa_cons (pv 0) pa_nil)) pa_nil)) (pa_cons (pe_lst (pa_cons (pv 0) (pa_cons pe_int (pa_cons pe_int pa_nil)))) pa_nil))))) (pss_cons (ps_ret pe_bl) pss_nil) pss_nil) (pss_cons (ps_if (pt_not (pt_val (pe_callF (ok_law_is_house T) (hr.mono (by decide)) rfl (T.glo 42) (pa_cons (pe_makeKF (n := 1) (ks := ["channels"]) (g := fun us mz ws => us ++ (ws ++ mz)) (ms := [("wide_limit", .int 20)]) (oki_calm (okix_House_init_OHouseLIII T)) (T.mkr 17) (hr.mono (by decide)) rfl (T.glo 18) (by decide) (by simp) (fun h1 h2 h3 => h1.append (h3.append h2)) (fun D doc pm an cdv ct us mv ws h1 h2 h3 => match us, mv, ws, h1, h2, h3 with | [a0, a1], [m0], [w0], _, _, _ => kb_House_House_init_wm D doc pm an cdv ct a0 a1 m0 w0) (pa_cons (pe_callTy call_list_of rfl (T.free 31) bo_list (pa_cons (pv 0) pa_nil)) pa_nil) (pk_cons (pv 1) pk_nil)) (pa_cons (pe_lst (pa_cons (pv 0) (pa_cons (pv 1) (pa_cons pe_int pa_nil)))) pa_nil))))) (pss_cons (ps_ret pe_bl) pss_nil) pss_nil) (pss_cons (ps_ret (pe_callF (ok_law_is_house T) (hr.mono (by decide)) rfl (T.glo 42) (pa_cons (pe_makeKF (n := 1) (ks := ["wide_limit"]) (g := fun us mz ws => us ++ (mz ++ ws)) (ms := [("channels", .int 8)]) (oki_calm (okix_House_init_OHouseLIII T)) (T.mkr 17) (hr.mono (by decide)) rfl (T.glo 18) (by decide) (by simp) (fun h1 h2 h3 => h1.append (h2.append h3)) (fun D doc pm an cdv ct us mv ws h1 h2 h3 => match us, mv, ws, h1, h2, h3 with | [a0, a1], [m0], [w0], _, _, _ => kb_House_House_init_mw D doc pm an cdv ct a0 a1 m0 w0) (pa_cons (pe_callTy call_list_of rfl (T.free 31) bo_list (pa_cons (pv 0) pa_nil)) pa_nil) (pk_cons (pv 2) pk_nil)) (pa_cons (pe_lst (pa_cons (pv 0) (pa_cons pe_int (pa_cons (pv 2) pa_nil)))) pa_nil)))) pss_nil))), fun p => ⟨b_law_defaults p.1 p.2.1 p.2.2.1, ((pk3_app m_law_defaults p).trans (e_law_defaults _ _ _)), (sd_if (env1 := fun (b1 : Unit) => ([.pu (tyL tyI) p.1, .pu tyI p.2.1, .pu tyI p.2.2.1] : TP.Env)) (evt_not (evt_B (ev_call (eva_cons (ev_make (A1 := (aC (tyU K tyI) aN)) (A := (aC (tyU K tyI) (aC tyI (aC tyI aN)))) (f := (fun p => (pk3 m_House_init_OHouseUIII p).bind Res.val)) (j := fun x => (x.1, (8 : Int), (20 : Int), ())) (fun G vs x h => by obtain ⟨v0, _, rfl, hv0, h0⟩ := h; cases h0; exact ⟨_, _, rfl, hv0, ⟨_, _, rfl, rfl, ⟨_, _, rfl, rfl, rfl⟩⟩⟩) (eva_cons (ev_cb cv_tupleL (eva_cons (ev_var (i := 0) rfl) eva_nil)) eva_nil)) (eva_cons (EvN.ev (evn_lst (evas_cons (ev_dL (ev_var (i := 0) rfl)) (evas_cons (ev_dI ev_int) (evas_cons (ev_dI ev_int) evas_nil))))) eva_nil))))) (sd_ret ev_bl) (sd_nx (wk_m [true, true, true] rfl)) (fun b1 => (sd_if (env1 := fun (b2 : Unit) => ([.pu (tyL tyI) p.1, .no, .pu tyI p.2.2.1] : TP.Env)) (evt_not (evt_B (ev_call (eva_cons (ev_makeK (A1 := (aC (tyL tyI) aN)) (A2 := (aC tyI aN)) (A := (aC (tyL tyI) (aC tyI (aC tyI aN)))) (f := (fun p => (pk3 m_House_init_OHouseLIII p).bind Res.val)) (j := fun x y => (x.1, y.1, (20 : Int), ())) (fun G vs zs x y h k => by obtain ⟨v0, _, rfl, hv0, h0⟩ := h; cases h0; obtain ⟨u0, _, rfl, hu0, k0⟩ := k; cases k0; exact ⟨_, fun _ => rfl, ⟨_, _, rfl, hv0, ⟨_, _, rfl, hu0, ⟨_, _, rfl, rfl, rfl⟩⟩⟩⟩) rfl rfl (eva_cons (EvN.ev (evn_cb cn_listL (eva_cons (ev_var (i := 0) rfl) eva_nil))) eva_nil) (eva_cons (ev_var (i := 1) rfl) eva_nil)) (eva_cons (EvN.ev (evn_lst (evas_cons (ev_dL (ev_var (i := 0) rfl)) (evas_cons (ev_dI (ev_var (i := 1) rfl)) (evas_cons (ev_dI ev_int) evas_nil))))) eva_nil))))) (sd_ret ev_bl) (sd_nx (wk_m [true, false, true] rfl)) (fun b2 => (sd_ret (ev_call (eva_cons (ev_makeK (A1 := (aC (tyL tyI) aN)) (A2 := (aC tyI aN)) (A := (aC (tyL tyI) (aC tyI (aC tyI aN)))) (f := (fun p => (pk3 m_House_init_OHouseLIII p).bind Res.val)) (j := fun x y => (x.1, (8 : Int), y.1, ())) (fun G vs zs x y h k => by obtain ⟨v0, _, rfl, hv0, h0⟩ := h; cases h0; obtain ⟨u0, _, rfl, hu0, k0⟩ := k; cases k0; exact ⟨_, fun _ => rfl, ⟨_, _, rfl, hv0, ⟨_, _, rfl, rfl, ⟨_, _, rfl, hu0, rfl⟩⟩⟩⟩) rfl rfl (eva_cons (EvN.ev (evn_cb cn_listL (eva_cons (ev_var (i := 0) rfl) eva_nil))) eva_nil) (eva_cons (ev_var (i := 2) rfl) eva_nil)) (eva_cons (EvN.ev (evn_lst (evas_cons (ev_dL (ev_var (i := 0) rfl)) (evas_cons (ev_dI ev_int) (evas_cons (ev_dI (ev_var (i := 2) rfl)) evas_nil))))) eva_nil))))))))⟩⟩
end
end Q01
set_option maxHeartbeats 4000000
namespace Q01
open PySem PySem.Spec PyProof.Rows L2 TP
section
variable {P : Program} {w : World} {K : PySem.W.Frag} {mg : Str → Option Value} {base : Heap}
theorem ok_law_bit (T : Cn ft fn K mg) : Ok P w K mg base 1 (He.ga K "_law_bit") ["number", "k"] (spOf (aC tyI (aC tyI aN)) tyI (pk2 m_law_bit)) := by
  refine ok_pure (x := "_law_bit") (qual := "_law_bit") (params := defArgs s_law_bit) (body := defBody s_law_bit) (scope := defScope s_law_bit) (fa := He.ga K "_law_bit") (N := N_law_bit) (sl := _) (T.def_ 20 (d := d_law_bit)) sc_law_bit (asl_cons (asl_cons asl_nil)) rfl (Nat.le_of_ble_eq_true rfl) (fun _ _ _ _ _ _ us hl => match us, hl with | [_, _], _ => rfl) fun cdv Ar outer s H E hr => ?_
  refine ⟨_, (pss_cons (ps_ret (pe_op op_mod (pe_callTy call_int1 rfl (T.free 1) bo_int (pa_cons (pe_op op_fdiv (pv 0) (pe_ix ix_list (pe_lst (pa_cons pe_int (pa_cons pe_int (pa_cons pe_int pa_nil)))) (pv 1) (fun _ _ => rfl))) pa_nil)) pe_int)) pss_nil), fun p => ⟨b_law_bit p.1 p.2.1, ((pk2_app m_law_bit p).trans (e_law_bit _ _)), (sd_ret (ev_op opv_mod (ev_cb cv_intI (eva_cons (ev_op opv_div (ev_var (i := 0) rfl) (ev_op opv_ixL (EvN.ev (evn_lst (evas_cons ev_int (evas_cons ev_int (evas_cons ev_int evas_nil))))) (ev_var (i := 1) rfl))) eva_nil)) ev_int))⟩⟩
end
end Q01
set_option maxHeartbeats 4000000
namespace Q01
open PySem PySem.Spec PyProof.Rows L2 TP
section
variable {P : Program} {w : World} {K : PySem.W.Frag} {mg : Str → Option Value} {base : Heap}
theorem okix_House_init_OHouseDDD (T : Cn ft fn K mg) : OkIX P w K mg base 2 "__init__" "House.__init__" (defArgs s_House_init) (defBody s_House_init) (defScope s_House_init) [("channels", V.int 8), ("wide_limit", V.int 20)] (maA K "House" "__init__") ["self", "limits", "channels", "wide_limit"] (spInitX K (He.ga K "House") (aC (tyD K) (aC (tyD K) (aC (tyD K) aN))) (fHouse K) (pk3 m_House_init_OHouseDDD)) := by
  refine ⟨ok_initX (x := "__init__") (qual := "House.__init__") (params := defArgs s_House_init) (body := defBody s_House_init) (scope := defScope s_House_init) (fa := maA K "House" "__init__") (N := N_House_init) (C := He.ga K "House") (fs := fsHouse K) (sl := _) (T.def_ 6 (d := d_House_init)) sc_House_init (asl_cons (asl_cons (asl_cons asl_nil))) rfl (Nat.le_of_ble_eq_true rfl) fun cdv Ar outer s H E hr => ?_⟩
  refine ⟨_, (pss_cons (ps_fld (pv 0) (pe_callTy call_tuple_of rfl (T.free 9) bo_tuple (pa_cons (pv 1) pa_nil)) rfl) (pss_cons (ps_fld (pv 0) (pv 2) rfl) (pss_cons (ps_fld (pv 0) (pv 3) rfl) (pss_cons (ps_if (pt_not (pt_val (pe_callF (ok_keeps_bounds T) (hr.mono (by decide)) rfl (T.glo 12) (pa_cons (pe_fld (pv 0) rfl) (pa_cons (pv 2) (pa_cons (pv 3) pa_nil)))))) (pss_cons (ps_rs rfl (L2N.takes_of rfl rfl rfl rfl) (mkN_0 (T.exc0 13) rfl (T.glo 14))) pss_nil) pss_nil) pss_nil)))), fun a0 p => ⟨b_House_init_OHouseDDD p.1 p.2.1 p.2.2.1, ((pk3_app m_House_init_OHouseDDD p).trans (e_House_init_OHouseDDD _ _ _)), (sd_fld' (i := 0) [] rfl (T.cls 10) (T.noat 11) rfl (by decide +kernel) (by decide) (ev_cb cv_tupleD (eva_cons (ev_var (i := 1) rfl) eva_nil)) (fun limits1 => (sd_fld' (i := 0) ["limits"] rfl (T.cls 10) (T.noat 16) rfl (by decide +kernel) (by decide) (ev_pI (ev_var (i := 2) rfl)) (fun channels2 => (sd_fld' (i := 0) ["limits", "channels"] rfl (T.cls 10) (T.noat 15) rfl (by decide +kernel) (by decide) (ev_pI (ev_var (i := 3) rfl)) (fun wide_limit3 => (sd_if (env1 := fun (b4 : Unit) => ([.ob a0 (He.ga K "House") [⟨"limits", (tyU K tyI), limits1⟩, ⟨"channels", tyI, channels2⟩, ⟨"wide_limit", tyI, wide_limit3⟩], .no, .no, .no] : TP.Env)) (evt_not (evt_B (ev_call (eva_cons (ev_fldOb' (j := 0) ["limits", "channels", "wide_limit"] rfl (T.cls 10) (T.noat 11) rfl rfl (by decide +kernel)) (eva_cons (ev_pI (ev_var (i := 2) rfl)) (eva_cons (ev_pI (ev_var (i := 3) rfl)) eva_nil)))))) (sd_raise (m := some ⟨"InvalidHouse", []⟩) (wk_m [false, false, false, false] rfl) evmk_0) (sd_nx (wk_m [true, false, false, false] rfl)) (fun b4 => (sd_nx (wk_m [true, false, false, false] rfl))))))))))⟩⟩
end
end Q01
set_option maxHeartbeats 4000000
namespace Q01
open PySem PySem.Spec PyProof.Rows L2 TP
section
variable {P : Program} {w : World} {K : PySem.W.Frag} {mg : Str → Option Value} {base : Heap}
theorem okxk_House_changed_OHouseDDD (T : Cn ft fn K mg) : OkXK P w K mg base 4 "changed" "House.changed" (defArgs s_House_changed) (defBody s_House_changed) (defScope s_House_changed) [("limits", V.non), ("channels", V.non), ("wide_limit", V.non)] (maA K "House" "changed") ["self", "limits", "channels", "wide_limit"] (spX K (aC (tyHouse K) (aC (tyD K) (aC (tyD K) (aC (tyD K) aN)))) (tyHouse K) (pk4 m_House_changed_OHouseDDD)) := by
  refine okx_pureK (x := "changed") (qual := "House.changed") (params := defArgs s_House_changed) (body := defBody s_House_changed) (scope := defScope s_House_changed) (fa := maA K "House" "changed") (N := N_House_changed) (sl := _) (T.def_ 21 (d := d_House_changed)) sc_House_changed (asl_cons (asl_cons (asl_cons (asl_cons asl_nil)))) rfl (Nat.le_of_ble_eq_true rfl) fun cdv Ar outer s H E hr => ?_
  refine ⟨_, (pss_cons (ps_ret (pe_makeKXF (n := 1) (ks := ["channels", "wide_limit"]) (g := fun us _ ws => us ++ ws) (ms := []) (okix_House_init_OHouseDDD T) (T.mkr 17) (hr.mono (by decide)) (L2N.takes_of rfl rfl rfl rfl) rfl (T.glo 18) (by decide) (by simp) (fun h1 _ h3 => h1.append h3) (fun D doc pm an cdv ct us mv ws h1 h2 h3 => match us, mv, ws, h1, h2, h3 with | [a0, a1], [], [w0, w1], _, _, _ => kb_House_House_init_ww D doc pm an cdv ct a0 a1 w0 w1) (pa_cons (pe_ifExp (pt_cmpR op_isN (pv 1) pe_non (nomark _)) (pe_fld (pv 0) rfl) (pv 1)) pa_nil) (pk_cons (pe_ifExp (pt_cmpR op_isN (pv 2) pe_non (nomark _)) (pe_fld (pv 0) rfl) (pv 2)) (pk_cons (pe_ifExp (pt_cmpR op_isN (pv 3) pe_non (nomark _)) (pe_fld (pv 0) rfl) (pv 3)) pk_nil)))) pss_nil), fun p => ⟨b_House_changed_OHouseDDD p.1 p.2.1 p.2.2.1 p.2.2.2.1, ((pk4_app m_House_changed_OHouseDDD p).trans (e_House_changed_OHouseDDD _ _ _ _)), (sd_retCX (evx_makeK (g := fun vs zs => (fun us _ ws => us ++ ws) vs (List.map (·.2) ([] : List (PySem.Str × L2.V))) zs) (A1 := (aC (tyD K) aN)) (A2 := (aC (tyD K) (aC (tyD K) aN))) (A := (aC (tyD K) (aC (tyD K) (aC (tyD K) aN)))) (f := pk3 m_House_init_OHouseDDD) (j := fun x y => (x.1, y.1, y.2.1, ())) (wk_m [false, false, false, false] rfl) (fun G vs zs x y h k => by obtain ⟨v0, _, rfl, hv0, h0⟩ := h; cases h0; obtain ⟨u0, _, rfl, hu0, k0⟩ := k; obtain ⟨u1, _, rfl, hu1, k1⟩ := k0; cases k1; exact ⟨_, fun _ => rfl, ⟨_, _, rfl, hv0, ⟨_, _, rfl, hu0, ⟨_, _, rfl, hu1, rfl⟩⟩⟩⟩) rfl rfl (eva_cons (ev_if (evt_test (ev_op opv_isD (ev_var (i := 1) rfl) ev_non)) (ev_dU (ev_fld (T.cls 10) (T.noat 11) fld_House_limits (ev_var (i := 0) rfl))) (ev_var (i := 1) rfl)) eva_nil) (eva_cons (ev_if (evt_test (ev_op opv_isD (ev_var (i := 2) rfl) ev_non)) (ev_dI (ev_fld (T.cls 10) (T.noat 16) fld_House_channels (ev_var (i := 0) rfl))) (ev_var (i := 2) rfl)) (eva_cons (ev_if (evt_test (ev_op opv_isD (ev_var (i := 3) rfl) ev_non)) (ev_dI (ev_fld (T.cls 10) (T.noat 15) fld_House_wide_limit (ev_var (i := 0) rfl))) (ev_var (i := 3) rfl)) eva_nil))))⟩⟩
end
end Q01
set_option maxHeartbeats 4000000
namespace Q01
open PySem PySem.Spec PyProof.Rows L2 TP
section
variable {P : Program} {w : World} {K : PySem.W.Frag} {mg : Str → Option Value} {base : Heap}
theorem okxk_House_changed_OHouseNDD (T : Cn ft fn K mg) : OkXK P w K mg base 4 "changed" "House.changed" (defArgs s_House_changed) (defBody s_House_changed) (defScope s_House_changed) [("limits", V.non), ("channels", V.non), ("wide_limit", V.non)] (maA K "House" "changed") ["self", "limits", "channels", "wide_limit"] (spX K (aC (tyHouse K) (aC tyN (aC (tyD K) (aC (tyD K) aN)))) (tyHouse K) (pk4 m_House_changed_OHouseNDD)) := by
  refine okx_pureK (x := "changed") (qual := "House.changed") (params := defArgs s_House_changed) (body := defBody s_House_changed) (scope := defScope s_House_changed) (fa := maA K "House" "changed") (N := N_House_changed) (sl := _) (T.def_ 21 (d := d_House_changed)) sc_House_changed (asl_cons (asl_cons (asl_cons (asl_cons asl_nil)))) rfl (Nat.le_of_ble_eq_true rfl) fun cdv Ar outer s H E hr => ?_
  refine ⟨_, (pss_cons (ps_ret (pe_makeKXF (n := 1) (ks := ["channels", "wide_limit"]) (g := fun us _ ws => us ++ ws) (ms := []) (okix_House_init_OHouseDDD T) (T.mkr 17) (hr.mono (by decide)) (L2N.takes_of rfl rfl rfl rfl) rfl (T.glo 18) (by decide) (by simp) (fun h1 _ h3 => h1.append h3) (fun D doc pm an cdv ct us mv ws h1 h2 h3 => match us, mv, ws, h1, h2, h3 with | [a0, a1], [], [w0, w1], _, _, _ => kb_House_House_init_ww D doc pm an cdv ct a0 a1 w0 w1) (pa_cons (pe_ifExp (pt_cmpR op_isN (pv 1) pe_non (nomark _)) (pe_fld (pv 0) rfl) pe_never) pa_nil) (pk_cons (pe_ifExp (pt_cmpR op_isN (pv 2) pe_non (nomark _)) (pe_fld (pv 0) rfl) (pv 2)) (pk_cons (pe_ifExp (pt_cmpR op_isN (pv 3) pe_non (nomark _)) (pe_fld (pv 0) rfl) (pv 3)) pk_nil)))) pss_nil), fun p => ⟨b_House_changed_OHouseNDD p.1 p.2.1 p.2.2.1 p.2.2.2.1, ((pk4_app m_House_changed_OHouseNDD p).trans (e_House_changed_OHouseNDD _ _ _ _)), (sd_retCX (evx_makeK (g := fun vs zs => (fun us _ ws => us ++ ws) vs (List.map (·.2) ([] : List (PySem.Str × L2.V))) zs) (A1 := (aC (tyD K) aN)) (A2 := (aC (tyD K) (aC (tyD K) aN))) (A := (aC (tyD K) (aC (tyD K) (aC (tyD K) aN)))) (f := pk3 m_House_init_OHouseDDD) (j := fun x y => (x.1, y.1, y.2.1, ())) (wk_m [false, false, false, false] rfl) (fun G vs zs x y h k => by obtain ⟨v0, _, rfl, hv0, h0⟩ := h; cases h0; obtain ⟨u0, _, rfl, hu0, k0⟩ := k; obtain ⟨u1, _, rfl, hu1, k1⟩ := k0; cases k1; exact ⟨_, fun _ => rfl, ⟨_, _, rfl, hv0, ⟨_, _, rfl, hu0, ⟨_, _, rfl, hu1, rfl⟩⟩⟩⟩) rfl rfl (eva_cons (ev_if (evt_test (ev_op opv_isNt (ev_var (i := 1) rfl) ev_non)) (ev_dU (ev_fld (T.cls 10) (T.noat 11) fld_House_limits (ev_var (i := 0) rfl))) ev_never) eva_nil) (eva_cons (ev_if (evt_test (ev_op opv_isD (ev_var (i := 2) rfl) ev_non)) (ev_dI (ev_fld (T.cls 10) (T.noat 16) fld_House_channels (ev_var (i := 0) rfl))) (ev_var (i := 2) rfl)) (eva_cons (ev_if (evt_test (ev_op opv_isD (ev_var (i := 3) rfl) ev_non)) (ev_dI (ev_fld (T.cls 10) (T.noat 15) fld_House_wide_limit (ev_var (i := 0) rfl))) (ev_var (i := 3) rfl)) eva_nil))))⟩⟩
end
end Q01
set_option maxHeartbeats 4000000
namespace Q01
open PySem PySem.Spec PyProof.Rows L2 TP
section
variable {P : Program} {w : World} {K : PySem.W.Frag} {mg : Str → Option Value} {base : Heap}
theorem okxk_House_changed_OHouseDND (T : Cn ft fn K mg) : OkXK P w K mg base 4 "changed" "House.changed" (defArgs s_House_changed) (defBody s_House_changed) (defScope s_House_changed) [("limits", V.non), ("channels", V.non), ("wide_limit", V.non)] (maA K "House" "changed") ["self", "limits", "channels", "wide_limit"] (spX K (aC (tyHouse K) (aC (tyD K) (aC tyN (aC (tyD K) aN)))) (tyHouse K) (pk4 m_House_changed_OHouseDND)) := by
  refine okx_pureK (x := "changed") (qual := "House.changed") (params := defArgs s_House_changed) (body := defBody s_House_changed) (scope := defScope s_House_changed) (fa := maA K "House" "changed") (N := N_House_changed) (sl := _) (T.def_ 21 (d := d_House_changed)) sc_House_changed (asl_cons (asl_cons (asl_cons (asl_cons asl_nil)))) rfl (Nat.le_of_ble_eq_true rfl) fun cdv Ar outer s H E hr => ?_
  refine ⟨_, (pss_cons (ps_ret (pe_makeKXF (n := 1) (ks := ["channels", "wide_limit"]) (g := fun us _ ws => us ++ ws) (ms := []) (okix_House_init_OHouseDDD T) (T.mkr 17) (hr.mono (by decide)) (L2N.takes_of rfl rfl rfl rfl) rfl (T.glo 18) (by decide) (by simp) (fun h1 _ h3 => h1.append h3) (fun D doc pm an cdv ct us mv ws h1 h2 h3 => match us, mv, ws, h1, h2, h3 with | [a0, a1], [], [w0, w1], _, _, _ => kb_House_House_init_ww D doc pm an cdv ct a0 a1 w0 w1) (pa_cons (pe_ifExp (pt_cmpR op_isN (pv 1) pe_non (nomark _)) (pe_fld (pv 0) rfl) (pv 1)) pa_nil) (pk_cons (pe_ifExp (pt_cmpR op_isN (pv 2) pe_non (nomark _)) (pe_fld (pv 0) rfl) pe_never) (pk_cons (pe_ifExp (pt_cmpR op_isN (pv 3) pe_non (nomark _)) (pe_fld (pv 0) rfl) (pv 3)) pk_nil)))) pss_nil), fun p => ⟨b_House_changed_OHouseDND p.1 p.2.1 p.2.2.1 p.2.2.2.1, ((pk4_app m_House_changed_OHouseDND p).trans (e_House_changed_OHouseDND _ _ _ _)), (sd_retCX (evx_makeK (g := fun vs zs => (fun us _ ws => us ++ ws) vs (List.map (·.2) ([] : List (PySem.Str × L2.V))) zs) (A1 := (aC (tyD K) aN)) (A2 := (aC (tyD K) (aC (tyD K) aN))) (A := (aC (tyD K) (aC (tyD K) (aC (tyD K) aN)))) (f := pk3 m_House_init_OHouseDDD) (j := fun x y => (x.1, y.1, y.2.1, ())) (wk_m [false, false, false, false] rfl) (fun G vs zs x y h k => by obtain ⟨v0, _, rfl, hv0, h0⟩ := h; cases h0; obtain ⟨u0, _, rfl, hu0, k0⟩ := k; obtain ⟨u1, _, rfl, hu1, k1⟩ := k0; cases k1; exact ⟨_, fun _ => rfl, ⟨_, _, rfl, hv0, ⟨_, _, rfl, hu0, ⟨_, _, rfl, hu1, rfl⟩⟩⟩⟩) rfl rfl (eva_cons (ev_if (evt_test (ev_op opv_isD (ev_var (i := 1) rfl) ev_non)) (ev_dU (ev_fld (T.cls 10) (T.noat 11) fld_House_limits (ev_var (i := 0) rfl))) (ev_var (i := 1) rfl)) eva_nil) (eva_cons (ev_if (evt_test (ev_op opv_isNt (ev_var (i := 2) rfl) ev_non)) (ev_dI (ev_fld (T.cls 10) (T.noat 16) fld_House_channels (ev_var (i := 0) rfl))) ev_never) (eva_cons (ev_if (evt_test (ev_op opv_isD (ev_var (i := 3) rfl) ev_non)) (ev_dI (ev_fld (T.cls 10) (T.noat 15) fld_House_wide_limit (ev_var (i := 0) rfl))) (ev_var (i := 3) rfl)) eva_nil))))⟩⟩
end
end Q01
set_option maxHeartbeats 4000000
namespace Q01
open PySem PySem.Spec PyProof.Rows L2 TP
section
variable {P : Program} {w : World} {K : PySem.W.Frag} {mg : Str → Option Value} {base : Heap}
theorem okxk_House_changed_OHouseNND (T : Cn ft fn K mg) : OkXK P w K mg base 4 "changed" "House.changed" (defArgs s_House_changed) (defBody s_House_changed) (defScope s_House_changed) [("limits", V.non), ("channels", V.non), ("wide_limit", V.non)] (maA K "House" "changed") ["self", "limits", "channels", "wide_limit"] (spX K (aC (tyHouse K) (aC tyN (aC tyN (aC (tyD K) aN)))) (tyHouse K) (pk4 m_House_changed_OHouseNND)) := by
  refine okx_pureK (x := "changed") (qual := "House.changed") (params := defArgs s_House_changed) (body := defBody s_House_changed) (scope := defScope s_House_changed) (fa := maA K "House" "changed") (N := N_House_changed) (sl := _) (T.def_ 21 (d := d_House_changed)) sc_House_changed (asl_cons (asl_cons (asl_cons (asl_cons asl_nil)))) rfl (Nat.le_of_ble_eq_true rfl) fun cdv Ar outer s H E hr => ?_
  refine ⟨_, (pss_cons (ps_ret (pe_makeKXF (n := 1) (ks := ["channels", "wide_limit"]) (g := fun us _ ws => us ++ ws) (ms := []) (okix_House_init_OHouseDDD T) (T.mkr 17) (hr.mono (by decide)) (L2N.takes_of rfl rfl rfl rfl) rfl (T.glo 18) (by decide) (by simp) (fun h1 _ h3 => h1.append h3) (fun D doc pm an cdv ct us mv ws h1 h2 h3 => match us, mv, ws, h1, h2, h3 with | [a0, a1], [], [w0, w1], _, _, _ => kb_House_House_init_ww D doc pm an cdv ct a0 a1 w0 w1) (pa_cons (pe_ifExp (pt_cmpR op_isN (pv 1) pe_non (nomark _)) (pe_fld (pv 0) rfl) pe_never) pa_nil) (pk_cons (pe_ifExp (pt_cmpR op_isN (pv 2) pe_non (nomark _)) (pe_fld (pv 0) rfl) pe_never) (pk_cons (pe_ifExp (pt_cmpR op_isN (pv 3) pe_non (nomark _)) (pe_fld (pv 0) rfl) (pv 3)) pk_nil)))) pss_nil), fun p => ⟨b_House_changed_OHouseNND p.1 p.2.1 p.2.2.1 p.2.2.2.1, ((pk4_app m_House_changed_OHouseNND p).trans (e_House_changed_OHouseNND _ _ _ _)), (sd_retCX (evx_makeK (g := fun vs zs => (fun us _ ws => us ++ ws) vs (List.map (·.2) ([] : List (PySem.Str × L2.V))) zs) (A1 := (aC (tyD K) aN)) (A2 := (aC (tyD K) (aC (tyD K) aN))) (A := (aC (tyD K) (aC (tyD K) (aC (tyD K) aN)))) (f := pk3 m_House_init_OHouseDDD) (j := fun x y => (x.1, y.1, y.2.1, ())) (wk_m [false, false, false, false] rfl) (fun G vs zs x y h k => by obtain ⟨v0, _, rfl, hv0, h0⟩ := h; cases h0; obtain ⟨u0, _, rfl, hu0, k0⟩ := k; obtain ⟨u1, _, rfl, hu1, k1⟩ := k0; cases k1; exact ⟨_, fun _ => rfl, ⟨_, _, rfl, hv0, ⟨_, _, rfl, hu0, ⟨_, _, rfl, hu1, rfl⟩⟩⟩⟩) rfl rfl (eva_cons (ev_if (evt_test (ev_op opv_isNt (ev_var (i := 1) rfl) ev_non)) (ev_dU (ev_fld (T.cls 10) (T.noat 11) fld_House_limits (ev_var (i := 0) rfl))) ev_never) eva_nil) (eva_cons (ev_if (evt_test (ev_op opv_isNt (ev_var (i := 2) rfl) ev_non)) (ev_dI (ev_fld (T.cls 10) (T.noat 16) fld_House_channels (ev_var (i := 0) rfl))) ev_never) (eva_cons (ev_if (evt_test (ev_op opv_isD (ev_var (i := 3) rfl) ev_non)) (ev_dI (ev_fld (T.cls 10) (T.noat 15) fld_House_wide_limit (ev_var (i := 0) rfl))) (ev_var (i := 3) rfl)) eva_nil))))⟩⟩
end
end Q01
set_option maxHeartbeats 4000000
namespace Q01
open PySem PySem.Spec PyProof.Rows L2 TP
section
variable {P : Program} {w : World} {K : PySem.W.Frag} {mg : Str → Option Value} {base : Heap}
theorem okxk_House_changed_OHouseDDN (T : Cn ft fn K mg) : OkXK P w K mg base 4 "changed" "House.changed" (defArgs s_House_changed) (defBody s_House_changed) (defScope s_House_changed) [("limits", V.non), ("channels", V.non), ("wide_limit", V.non)] (maA K "House" "changed") ["self", "limits", "channels", "wide_limit"] (spX K (aC (tyHouse K) (aC (tyD K) (aC (tyD K) (aC tyN aN)))) (tyHouse K) (pk4 m_House_changed_OHouseDDN)) := by
  refine okx_pureK (x := "changed") (qual := "House.changed") (params := defArgs s_House_changed) (body := defBody s_House_changed) (scope := defScope s_House_changed) (fa := maA K "House" "changed") (N := N_House_changed) (sl := _) (T.def_ 21 (d := d_House_changed)) sc_House_changed (asl_cons (asl_cons (asl_cons (asl_cons asl_nil)))) rfl (Nat.le_of_ble_eq_true rfl) fun cdv Ar outer s H E hr => ?_
  refine ⟨_, (pss_cons (ps_ret (pe_makeKXF (n := 1) (ks := ["channels", "wide_limit"]) (g := fun us _ ws => us ++ ws) (ms := []) (okix_House_init_OHouseDDD T) (T.mkr 17) (hr.mono (by decide)) (L2N.takes_of rfl rfl rfl rfl) rfl (T.glo 18) (by decide) (by simp) (fun h1 _ h3 => h1.append h3) (fun D doc pm an cdv ct us mv ws h1 h2 h3 => match us, mv, ws, h1, h2, h3 with | [a0, a1], [], [w0, w1], _, _, _ => kb_House_House_init_ww D doc pm an cdv ct a0 a1 w0 w1) (pa_cons (pe_ifExp (pt_cmpR op_isN (pv 1) pe_non (nomark _)) (pe_fld (pv 0) rfl) (pv 1)) pa_nil) (pk_cons (pe_ifExp (pt_cmpR op_isN (pv 2) pe_non (nomark _)) (pe_fld (pv 0) rfl) (pv 2)) (pk_cons (pe_ifExp (pt_cmpR op_isN (pv 3) pe_non (nomark _)) (pe_fld (pv 0) rfl) pe_never) pk_nil)))) pss_nil), fun p => ⟨b_House_changed_OHouseDDN p.1 p.2.1 p.2.2.1 p.2.2.2.1, ((pk4_app m_House_changed_OHouseDDN p).trans (e_House_changed_OHouseDDN _ _ _ _)), (sd_retCX (evx_makeK (g := fun vs zs => (fun us _ ws => us ++ ws) vs (List.map (·.2) ([] : List (PySem.Str × L2.V))) zs) (A1 := (aC (tyD K) aN)) (A2 := (aC (tyD K) (aC (tyD K) aN))) (A := (aC (tyD K) (aC (tyD K) (aC (tyD K) aN)))) (f := pk3 m_House_init_OHouseDDD) (j := fun x y => (x.1, y.1, y.2.1, ())) (wk_m [false, false, false, false] rfl) (fun G vs zs x y h k => by obtain ⟨v0, _, rfl, hv0, h0⟩ := h; cases h0; obtain ⟨u0, _, rfl, hu0, k0⟩ := k; obtain ⟨u1, _, rfl, hu1, k1⟩ := k0; cases k1; exact ⟨_, fun _ => rfl, ⟨_, _, rfl, hv0, ⟨_, _, rfl, hu0, ⟨_, _, rfl, hu1, rfl⟩⟩⟩⟩) rfl rfl (eva_cons (ev_if (evt_test (ev_op opv_isD (ev_var (i := 1) rfl) ev_non)) (ev_dU (ev_fld (T.cls 10) (T.noat 11) fld_House_limits (ev_var (i := 0) rfl))) (ev_var (i := 1) rfl)) eva_nil) (eva_cons (ev_if (evt_test (ev_op opv_isD (ev_var (i := 2) rfl) ev_non)) (ev_dI (ev_fld (T.cls 10) (T.noat 16) fld_House_channels (ev_var (i := 0) rfl))) (ev_var (i := 2) rfl)) (eva_cons (ev_if (evt_test (ev_op opv_isNt (ev_var (i := 3) rfl) ev_non)) (ev_dI (ev_fld (T.cls 10) (T.noat 15) fld_House_wide_limit (ev_var (i := 0) rfl))) ev_never) eva_nil))))⟩⟩
end
end Q01
set_option maxHeartbeats 4000000
namespace Q01
open PySem PySem.Spec PyProof.Rows L2 TP
section
variable {P : Program} {w : World} {K : PySem.W.Frag} {mg : Str → Option Value} {base : Heap}
theorem okxk_House_changed_OHouseNDN (T : Cn ft fn K mg) : OkXK P w K mg base 4 "changed" "House.changed" (defArgs s_House_changed) (defBody s_House_changed) (defScope s_House_changed) [("limits", V.non), ("channels", V.non), ("wide_limit", V.non)] (maA K "House" "changed") ["self", "limits", "channels", "wide_limit"] (spX K (aC (tyHouse K) (aC tyN (aC (tyD K) (aC tyN aN)))) (tyHouse K) (pk4 m_House_changed_OHouseNDN)) := by
  refine okx_pureK (x := "changed") (qual := "House.changed") (params := defArgs s_House_changed) (body := defBody s_House_changed) (scope := defScope s_House_changed) (fa := maA K "House" "changed") (N := N_House_changed) (sl := _) (T.def_ 21 (d := d_House_changed)) sc_House_changed (asl_cons (asl_cons (asl_cons (asl_cons asl_nil)))) rfl (Nat.le_of_ble_eq_true rfl) fun cdv Ar outer s H E hr => ?_
  refine ⟨_, (pss_cons (ps_ret (pe_makeKXF (n := 1) (ks := ["channels", "wide_limit"]) (g := fun us _ ws => us ++ ws) (ms := []) (okix_House_init_OHouseDDD T) (T.mkr 17) (hr.mono (by decide)) (L2N.takes_of rfl rfl rfl rfl) rfl (T.glo 18) (by decide) (by simp) (fun h1 _ h3 => h1.append h3) (fun D doc pm an cdv ct us mv ws h1 h2 h3 => match us, mv, ws, h1, h2, h3 with | [a0, a1], [], [w0, w1], _, _, _ => kb_House_House_init_ww D doc pm an cdv ct a0 a1 w0 w1) (pa_cons (pe_ifExp (pt_cmpR op_isN (pv 1) pe_non (nomark _)) (pe_fld (pv 0) rfl) pe_never) pa_nil) (pk_cons (pe_ifExp (pt_cmpR op_isN (pv 2) pe_non (nomark _)) (pe_fld (pv 0) rfl) (pv 2)) (pk_cons (pe_ifExp (pt_cmpR op_isN (pv 3) pe_non (nomark _)) (pe_fld (pv 0) rfl) pe_never) pk_nil)))) pss_nil), fun p => ⟨b_House_changed_OHouseNDN p.1 p.2.1 p.2.2.1 p.2.2.2.1, ((pk4_app m_House_changed_OHouseNDN p).trans (e_House_changed_OHouseNDN _ _ _ _)), (sd_retCX (evx_makeK (g := fun vs zs => (fun us _ ws => us ++ ws) vs (List.map (·.2) ([] : List (PySem.Str × L2.V))) zs) (A1 := (aC (tyD K) aN)) (A2 := (aC (tyD K) (aC (tyD K) aN))) (A := (aC (tyD K) (aC (tyD K) (aC (tyD K) aN)))) (f := pk3 m_House_init_OHouseDDD) (j := fun x y => (x.1, y.1, y.2.1, ())) (wk_m [false, false, false, false] rfl) (fun G vs zs x y h k => by obtain ⟨v0, _, rfl, hv0, h0⟩ := h; cases h0; obtain ⟨u0, _, rfl, hu0, k0⟩ := k; obtain ⟨u1, _, rfl, hu1, k1⟩ := k0; cases k1; exact ⟨_, fun _ => rfl, ⟨_, _, rfl, hv0, ⟨_, _, rfl, hu0, ⟨_, _, rfl, hu1, rfl⟩⟩⟩⟩) rfl rfl (eva_cons (ev_if (evt_test (ev_op opv_isNt (ev_var (i := 1) rfl) ev_non)) (ev_dU (ev_fld (T.cls 10) (T.noat 11) fld_House_limits (ev_var (i := 0) rfl))) ev_never) eva_nil) (eva_cons (ev_if (evt_test (ev_op opv_isD (ev_var (i := 2) rfl) ev_non)) (ev_dI (ev_fld (T.cls 10) (T.noat 16) fld_House_channels (ev_var (i := 0) rfl))) (ev_var (i := 2) rfl)) (eva_cons (ev_if (evt_test (ev_op opv_isNt (ev_var (i := 3) rfl) ev_non)) (ev_dI (ev_fld (T.cls 10) (T.noat 15) fld_House_wide_limit (ev_var (i := 0) rfl))) ev_never) eva_nil))))⟩⟩
end
end Q01
set_option maxHeartbeats 4000000
namespace Q01
open PySem PySem.Spec PyProof.Rows L2 TP
section
variable {P : Program} {w : World} {K : PySem.W.Frag} {mg : Str → Option Value} {base : Heap}
theorem okxk_House_changed_OHouseDNN (T : Cn ft fn K mg) : OkXK P w K mg base 4 "changed" "House.changed" (defArgs s_House_changed) (defBody s_House_changed) (defScope s_House_changed) [("limits", V.non), ("channels", V.non), ("wide_limit", V.non)] (maA K "House" "changed") ["self", "limits", "channels", "wide_limit"] (spX K (aC (tyHouse K) (aC (tyD K) (aC tyN (aC tyN aN)))) (tyHouse K) (pk4 m_House_changed_OHouseDNN)) := by
  refine okx_pureK (x := "changed") (qual := "House.changed") (params := defArgs s_House_changed) (body := defBody s_House_changed) (scope := defScope s_House_changed) (fa := maA K "House" "changed") (N := N_House_changed) (sl := _) (T.def_ 21 (d := d_House_changed)) sc_House_changed (asl_cons (asl_cons (asl_cons (asl_cons asl_nil)))) rfl (Nat.le_of_ble_eq_true rfl) fun cdv Ar outer s H E hr => ?_
  refine ⟨_, (pss_cons (ps_ret (pe_makeKXF (n := 1) (ks := ["channels", "wide_limit"]) (g := fun us _ ws => us ++ ws) (ms := []) (okix_House_init_OHouseDDD T) (T.mkr 17) (hr.mono (by decide)) (L2N.takes_of rfl rfl rfl rfl) rfl (T.glo 18) (by decide) (by simp) (fun h1 _ h3 => h1.append h3) (fun D doc pm an cdv ct us mv ws h1 h2 h3 => match us, mv, ws, h1, h2, h3 with | [a0, a1], [], [w0, w1], _, _, _ => kb_House_House_init_ww D doc pm an cdv ct a0 a1 w0 w1) (pa_cons (pe_ifExp (pt_cmpR op_isN (pv 1) pe_non (nomark _)) (pe_fld (pv 0) rfl) (pv 1)) pa_nil) (pk_cons (pe_ifExp (pt_cmpR op_isN (pv 2) pe_non (nomark _)) (pe_fld (pv 0) rfl) pe_never) (pk_cons (pe_ifExp (pt_cmpR op_isN (pv 3) pe_non (nomark _)) (pe_fld (pv 0) rfl) pe_never) pk_nil)))) pss_nil), fun p => ⟨b_House_changed_OHouseDNN p.1 p.2.1 p.2.2.1 p.2.2.2.1, ((pk4_app m_House_changed_OHouseDNN p).trans (e_House_changed_OHouseDNN _ _ _ _)), (sd_retCX (evx_makeK (g := fun vs zs => (fun us _ ws => us ++ ws) vs (List.map (·.2) ([] : List (PySem.Str × L2.V))) zs) (A1 := (aC (tyD K) aN)) (A2 := (aC (tyD K) (aC (tyD K) aN))) (A := (aC (tyD K) (aC (tyD K) (aC (tyD K) aN)))) (f := pk3 m_House_init_OHouseDDD) (j := fun x y => (x.1, y.1, y.2.1, ())) (wk_m [false, false, false, false] rfl) (fun G vs zs x y h k => by obtain ⟨v0, _, rfl, hv0, h0⟩ := h; cases h0; obtain ⟨u0, _, rfl, hu0, k0⟩ := k; obtain ⟨u1, _, rfl, hu1, k1⟩ := k0; cases k1; exact ⟨_, fun _ => rfl, ⟨_, _, rfl, hv0, ⟨_, _, rfl, hu0, ⟨_, _, rfl, hu1, rfl⟩⟩⟩⟩) rfl rfl (eva_cons (ev_if (evt_test (ev_op opv_isD (ev_var (i := 1) rfl) ev_non)) (ev_dU (ev_fld (T.cls 10) (T.noat 11) fld_House_limits (ev_var (i := 0) rfl))) (ev_var (i := 1) rfl)) eva_nil) (eva_cons (ev_if (evt_test (ev_op opv_isNt (ev_var (i := 2) rfl) ev_non)) (ev_dI (ev_fld (T.cls 10) (T.noat 16) fld_House_channels (ev_var (i := 0) rfl))) ev_never) (eva_cons (ev_if (evt_test (ev_op opv_isNt (ev_var (i := 3) rfl) ev_non)) (ev_dI (ev_fld (T.cls 10) (T.noat 15) fld_House_wide_limit (ev_var (i := 0) rfl))) ev_never) eva_nil))))⟩⟩
end
end Q01
set_option maxHeartbeats 4000000
namespace Q01
open PySem PySem.Spec PyProof.Rows L2 TP
section
variable {P : Program} {w : World} {K : PySem.W.Frag} {mg : Str → Option Value} {base : Heap}
theorem okxk_House_changed_OHouseNNN (T : Cn ft fn K mg) : OkXK P w K mg base 4 "changed" "House.changed" (defArgs s_House_changed) (defBody s_House_changed) (defScope s_House_changed) [("limits", V.non), ("channels", V.non), ("wide_limit", V.non)] (maA K "House" "changed") ["self", "limits", "channels", "wide_limit"] (spX K (aC (tyHouse K) (aC tyN (aC tyN (aC tyN aN)))) (tyHouse K) (pk4 m_House_changed_OHouseNNN)) := by
  refine okx_pureK (x := "changed") (qual := "House.changed") (params := defArgs s_House_changed) (body := defBody s_House_changed) (scope := defScope s_House_changed) (fa := maA K "House" "changed") (N := N_House_changed) (sl := _) (T.def_ 21 (d := d_House_changed)) sc_House_changed (asl_cons (asl_cons (asl_cons (asl_cons asl_nil)))) rfl (Nat.le_of_ble_eq_true rfl) fun cdv Ar outer s H E hr => ?_
  refine ⟨_, (pss_cons (ps_ret (pe_makeKXF (n := 1) (ks := ["channels", "wide_limit"]) (g := fun us _ ws => us ++ ws) (ms := []) (okix_House_init_OHouseDDD T) (T.mkr 17) (hr.mono (by decide)) (L2N.takes_of rfl rfl rfl rfl) rfl (T.glo 18) (by decide) (by simp) (fun h1 _ h3 => h1.append h3) (fun D doc pm an cdv ct us mv ws h1 h2 h3 => match us, mv, ws, h1, h2, h3 with | [a0, a1], [], [w0, w1], _, _, _ => kb_House_House_init_ww D doc pm an cdv ct a0 a1 w0 w1) (pa_cons (pe_ifExp (pt_cmpR op_isN (pv 1) pe_non (nomark _)) (pe_fld (pv 0) rfl) pe_never) pa_nil) (pk_cons (pe_ifExp (pt_cmpR op_isN (pv 2) pe_non (nomark _)) (pe_fld (pv 0) rfl) pe_never) (pk_cons (pe_ifExp (pt_cmpR op_isN (pv 3) pe_non (nomark _)) (pe_fld (pv 0) rfl) pe_never) pk_nil)))) pss_nil), fun p => ⟨b_House_changed_OHouseNNN p.1 p.2.1 p.2.2.1 p.2.2.2.1, ((pk4_app m_House_changed_OHouseNNN p).trans (e_House_changed_OHouseNNN _ _ _ _)), (sd_retCX (evx_makeK (g := fun vs zs => (fun us _ ws => us ++ ws) vs (List.map (·.2) ([] : List (PySem.Str × L2.V))) zs) (A1 := (aC (tyD K) aN)) (A2 := (aC (tyD K) (aC (tyD K) aN))) (A := (aC (tyD K) (aC (tyD K) (aC (tyD K) aN)))) (f := pk3 m_House_init_OHouseDDD) (j := fun x y => (x.1, y.1, y.2.1, ())) (wk_m [false, false, false, false] rfl) (fun G vs zs x y h k => by obtain ⟨v0, _, rfl, hv0, h0⟩ := h; cases h0; obtain ⟨u0, _, rfl, hu0, k0⟩ := k; obtain ⟨u1, _, rfl, hu1, k1⟩ := k0; cases k1; exact ⟨_, fun _ => rfl, ⟨_, _, rfl, hv0, ⟨_, _, rfl, hu0, ⟨_, _, rfl, hu1, rfl⟩⟩⟩⟩) rfl rfl (eva_cons (ev_if (evt_test (ev_op opv_isNt (ev_var (i := 1) rfl) ev_non)) (ev_dU (ev_fld (T.cls 10) (T.noat 11) fld_House_limits (ev_var (i := 0) rfl))) ev_never) eva_nil) (eva_cons (ev_if (evt_test (ev_op opv_isNt (ev_var (i := 2) rfl) ev_non)) (ev_dI (ev_fld (T.cls 10) (T.noat 16) fld_House_channels (ev_var (i := 0) rfl))) ev_never) (eva_cons (ev_if (evt_test (ev_op opv_isNt (ev_var (i := 3) rfl) ev_non)) (ev_dI (ev_fld (T.cls 10) (T.noat 15) fld_House_wide_limit (ev_var (i := 0) rfl))) ev_never) eva_nil))))⟩⟩
end
end Q01
set_option maxHeartbeats 4000000
namespace Q01
open PySem PySem.Spec PyProof.Rows L2 TP
section
variable {P : Program} {w : World} {K : PySem.W.Frag} {mg : Str → Option Value} {base : Heap}
theorem ok_law_changed (T : Cn ft fn K mg) : Ok P w K mg base 5 (He.ga K "_law_changed") ["house", "form", "bounds", "width", "most_wide"] (spOfN (aC (tyHouse K) (aC tyI (aC (tyD K) (aC (tyD K) (aC (tyD K) aN))))) (tyHouse K) (pk5 m_law_changed)) := by
  refine ok_new (x := "_law_changed") (qual := "_law_changed") (params := defArgs s_law_changed) (body := defBody s_law_changed) (scope := defScope s_law_changed) (fa := He.ga K "_law_changed") (N := N_law_changed) (sl := _) (T.def_ 22 (d := d_law_changed)) sc_law_changed (asl_cons (asl_cons (asl_cons (asl_cons (asl_cons asl_nil))))) rfl (Nat.le_of_ble_eq_true rfl) (fun _ _ _ _ _ _ us hl => match us, hl with | [_, _, _, _, _], _ => rfl) fun cdv Ar outer s H E hr => ?_
  refine ⟨_, (pss_cons (L2N.ps_try_as (i := 5) rfl rfl sc_law_changed.nd rfl rfl ⟨rfl, by decide, .inl (T.glo 14)⟩ takesN0 (fun V pn xe tkw hpw => (pss_cons (ps_if (pt_cmpR op_eq (pv 1) pe_int (nomark _)) (pss_cons (ps_ret (pe_lst (pa_cons (pe_methKXF (ks := ["limits", "channels", "wide_limit"]) (g := fun us _ ws => us ++ ws) (ms := []) (pv 0) (T.cls 10) (T.meth 43) (okxk_House_changed_OHouseDDD T) (hr.mono (by decide)) tkw (by decide) (by simp) (fun h1 _ h3 => h1.append h3) (fun D doc pm an cdv ct us mv ws h1 h2 h3 => match us, mv, ws, h1, h2, h3 with | [a0], [], [w0, w1, w2], _, _, _ => kb_House_House_changed_www D doc pm an cdv ct a0 w0 w1 w2) (pk_cons (pv 2) (pk_cons (pv 3) (pk_cons (pv 4) pk_nil)))) pa_nil))) pss_nil) pss_nil) (pss_cons (ps_if (pt_cmpR op_eq (pv 1) pe_int (nomark _)) (pss_cons (ps_ret (pe_lst (pa_cons (pe_methKXF (ks := ["channels", "wide_limit"]) (g := fun us mz ws => us ++ (mz ++ ws)) (ms := [("limits", .non)]) (pv 0) (T.cls 10) (T.meth 43) (okxk_House_changed_OHouseNDD T) (hr.mono (by decide)) tkw (by decide) (by simp) (fun h1 h2 h3 => h1.append (h2.append h3)) (fun D doc pm an cdv ct us mv ws h1 h2 h3 => match us, mv, ws, h1, h2, h3 with | [a0], [m0], [w0, w1], _, _, _ => kb_House_House_changed_mww D doc pm an cdv ct a0 m0 w0 w1) (pk_cons (pv 3) (pk_cons (pv 4) pk_nil))) pa_nil))) pss_nil) pss_nil) (pss_cons (ps_if (pt_cmpR op_eq (pv 1) pe_int (nomark _)) (pss_cons (ps_ret (pe_lst (pa_cons (pe_methKXF (ks := ["limits", "wide_limit"]) (g := fun us mz ws => us ++ ((ws.drop 0).take 1 ++ ((mz.drop 0).take 1 ++ ((ws.drop 1).take 1 ++ [])))) (ms := [("channels", .non)]) (pv 0) (T.cls 10) (T.meth 43) (okxk_House_changed_OHouseDND T) (hr.mono (by decide)) tkw (by decide) (by simp) (fun h1 h2 h3 => h1.append ((vals_seg 0 1 h3).append ((vals_seg 0 1 h2).append ((vals_seg 1 1 h3).append vals_nil)))) (fun D doc pm an cdv ct us mv ws h1 h2 h3 => match us, mv, ws, h1, h2, h3 with | [a0], [m0], [w0, w1], _, _, _ => kb_House_House_changed_wmw D doc pm an cdv ct a0 m0 w0 w1) (pk_cons (pv 2) (pk_cons (pv 4) pk_nil))) pa_nil))) pss_nil) pss_nil) (pss_cons (ps_if (pt_cmpR op_eq (pv 1) pe_int (nomark _)) (pss_cons (ps_ret (pe_lst (pa_cons (pe_methKXF (ks := ["wide_limit"]) (g := fun us mz ws => us ++ (mz ++ ws)) (ms := [("limits", .non), ("channels", .non)]) (pv 0) (T.cls 10) (T.meth 43) (okxk_House_changed_OHouseNND T) (hr.mono (by decide)) tkw (by decide) (by simp) (fun h1 h2 h3 => h1.append (h2.append h3)) (fun D doc pm an cdv ct us mv ws h1 h2 h3 => match us, mv, ws, h1, h2, h3 with | [a0], [m0, m1], [w0], _, _, _ => kb_House_House_changed_mmw D doc pm an cdv ct a0 m0 m1 w0) (pk_cons (pv 4) pk_nil)) pa_nil))) pss_nil) pss_nil) (pss_cons (ps_if (pt_cmpR op_eq (pv 1) pe_int (nomark _)) (pss_cons (ps_ret (pe_lst (pa_cons (pe_methKXF (ks := ["limits", "channels"]) (g := fun us mz ws => us ++ (ws ++ mz)) (ms := [("wide_limit", .non)]) (pv 0) (T.cls 10) (T.meth 43) (okxk_House_changed_OHouseDDN T) (hr.mono (by decide)) tkw (by decide) (by simp) (fun h1 h2 h3 => h1.append (h3.append h2)) (fun D doc pm an cdv ct us mv ws h1 h2 h3 => match us, mv, ws, h1, h2, h3 with | [a0], [m0], [w0, w1], _, _, _ => kb_House_House_changed_wwm D doc pm an cdv ct a0 m0 w0 w1) (pk_cons (pv 2) (pk_cons (pv 3) pk_nil))) pa_nil))) pss_nil) pss_nil) (pss_cons (ps_if (pt_cmpR op_eq (pv 1) pe_int (nomark _)) (pss_cons (ps_ret (pe_lst (pa_cons (pe_methKXF (ks := ["channels"]) (g := fun us mz ws => us ++ ((mz.drop 0).take 1 ++ ((ws.drop 0).take 1 ++ ((mz.drop 1).take 1 ++ [])))) (ms := [("limits", .non), ("wide_limit", .non)]) (pv 0) (T.cls 10) (T.meth 43) (okxk_House_changed_OHouseNDN T) (hr.mono (by decide)) tkw (by decide) (by simp) (fun h1 h2 h3 => h1.append ((vals_seg 0 1 h2).append ((vals_seg 0 1 h3).append ((vals_seg 1 1 h2).append vals_nil)))) (fun D doc pm an cdv ct us mv ws h1 h2 h3 => match us, mv, ws, h1, h2, h3 with | [a0], [m0, m1], [w0], _, _, _ => kb_House_House_changed_mwm D doc pm an cdv ct a0 m0 m1 w0) (pk_cons (pv 3) pk_nil)) pa_nil))) pss_nil) pss_nil) (pss_cons (ps_if (pt_cmpR op_eq (pv 1) pe_int (nomark _)) (pss_cons (ps_ret (pe_lst (pa_cons (pe_methKXF (ks := ["limits"]) (g := fun us mz ws => us ++ (ws ++ mz)) (ms := [("channels", .non), ("wide_limit", .non)]) (pv 0) (T.cls 10) (T.meth 43) (okxk_House_changed_OHouseDNN T) (hr.mono (by decide)) tkw (by decide) (by simp) (fun h1 h2 h3 => h1.append (h3.append h2)) (fun D doc pm an cdv ct us mv ws h1 h2 h3 => match us, mv, ws, h1, h2, h3 with | [a0], [m0, m1], [w0], _, _, _ => kb_House_House_changed_wmm D doc pm an cdv ct a0 m0 m1 w0) (pk_cons (pv 2) pk_nil)) pa_nil))) pss_nil) pss_nil) (pss_cons (ps_ret (pe_lst (pa_cons (pe_meth0DXF (pv 0) (T.cls 10) (T.meth 43) (okxk_House_changed_OHouseNNN T) (hr.mono (by decide)) tkw (by decide) rfl (fun D doc pm an cdv ct us ks h1 h2 => match us, ks, h1, h2 with | [a0], [m0, m1, m2], _, _ => kb_House_House_changed_mmm D doc pm an cdv ct a0 m0 m1 m2)) pa_nil))) pss_nil))))))))) (fun a oe cls d pn hz hf => (pss_cons (ps_if (PW.pt (pw_and (pt_val (pe_callB (call_isX hz.zc hf) rfl (T.free 22) bo_isinstance (pa_cons (pv 5) (pa_cons (pe_gref rfl (T.glo 21)) pa_nil)))) (pw_and (pt_val (pe_callB (call_isX hz.zc hf) rfl (T.free 22) bo_isinstance (pa_cons (pv 5) (pa_cons (pe_tyc rfl (T.free 24) bo_ValueError) pa_nil)))) (pw_and1 (pt_not (pt_val (pe_callB (call_isX hz.zc hf) rfl (T.free 22) bo_isinstance (pa_cons (pv 5) (pa_cons (pe_gref rfl (T.glo 26)) pa_nil))))))))) (pss_cons (ps_ret (pe_lst pa_nil)) pss_nil) pss_nil) pss_nil))) (pss_cons ps_never pss_nil)), fun p => ⟨b_law_changed p.1 p.2.1 p.2.2.1 p.2.2.2.1 p.2.2.2.2.1, ((pk5_app m_law_changed p).trans (e_law_changed _ _ _ _ _)), (sd_tryAs2 (i := 5) (c := .ref (He.ga K "InvalidHouse")) (Γx := [.no, .no, .no, .no, .no, .no]) (env1 := fun (b1 : Unit) => ([.no, .no, .no, .no, .no, .no] : TP.Env)) (envh := fun (b1 : Unit) => ([.no, .no, .no, .no, .no, .no] : TP.Env)) (mh := fun e9 => (thenF (mIf (mAnd ((aPair (some e9) (aPair (some ()) (some ()))).bind (isTab [("InvalidHouse", true)])) (mAnd ((aPair (some e9) (aPair (some ()) (some ()))).bind (isTab [("InvalidHouse", true)])) (mNot ((aPair (some e9) (aPair (some ()) (some ()))).bind (isTab [("InvalidHouse", false)]))))) (rtF (lmt (some []))) (some (.nx ()))) (fun (b10 : Unit) => (some (.nx ()))))) (fun V => (sd_if (env1 := fun (b2 : Unit) => ([.pu (tyHouse K) p.1, .pu tyI p.2.1, .pu (tyD K) p.2.2.1, .pu (tyD K) p.2.2.2.1, .pu (tyD K) p.2.2.2.2.1, .no] : TP.Env)) (evt_test (ev_op opv_eqI (ev_var (i := 1) rfl) ev_int)) (sd_retCXN (evxn_lst1 (evx_methK (g := fun vs zs => vs ++ zs) (A2 := (aC (tyD K) (aC (tyD K) (aC (tyD K) aN)))) (A := (aC (tyHouse K) (aC (tyD K) (aC (tyD K) (aC (tyD K) aN))))) (f := pk4 m_House_changed_OHouseDDD) (j := fun x y => (x, y.1, y.2.1, y.2.2.1, ())) (wk_m [false, false, false, false, false, false] rfl) nof_House_changed (fun G v zs x y h k => by obtain ⟨u0, _, rfl, hu0, k0⟩ := k; obtain ⟨u1, _, rfl, hu1, k1⟩ := k0; obtain ⟨u2, _, rfl, hu2, k2⟩ := k1; cases k2; exact ⟨_, _, rfl, h, ⟨_, _, rfl, hu0, ⟨_, _, rfl, hu1, ⟨_, _, rfl, hu2, rfl⟩⟩⟩⟩) rfl (ev_var (i := 0) rfl) (eva_cons (ev_var (i := 2) rfl) (eva_cons (ev_var (i := 3) rfl) (eva_cons (ev_var (i := 4) rfl) eva_nil)))))) (sd_nx (wk_m [true, true, true, true, true, false] rfl)) (fun b2 => (sd_if (env1 := fun (b3 : Unit) => ([.pu (tyHouse K) p.1, .pu tyI p.2.1, .pu (tyD K) p.2.2.1, .pu (tyD K) p.2.2.2.1, .pu (tyD K) p.2.2.2.2.1, .no] : TP.Env)) (evt_test (ev_op opv_eqI (ev_var (i := 1) rfl) ev_int)) (sd_retCXN (evxn_lst1 (evx_methK (g := fun vs zs => vs ++ ((List.map (fun x => x.2) ([("limits", .non)] : List (PySem.Str × L2.V))) ++ zs)) (A2 := (aC (tyD K) (aC (tyD K) aN))) (A := (aC (tyHouse K) (aC tyN (aC (tyD K) (aC (tyD K) aN))))) (f := pk4 m_House_changed_OHouseNDD) (j := fun x y => (x, (), y.1, y.2.1, ())) (wk_m [false, false, false, false, false, false] rfl) nof_House_changed (fun G v zs x y h k => by obtain ⟨u0, _, rfl, hu0, k0⟩ := k; obtain ⟨u1, _, rfl, hu1, k1⟩ := k0; cases k1; exact ⟨_, _, rfl, h, ⟨_, _, rfl, rfl, ⟨_, _, rfl, hu0, ⟨_, _, rfl, hu1, rfl⟩⟩⟩⟩) rfl (ev_var (i := 0) rfl) (eva_cons (ev_var (i := 3) rfl) (eva_cons (ev_var (i := 4) rfl) eva_nil))))) (sd_nx (wk_m [true, true, true, true, true, false] rfl)) (fun b3 => (sd_if (env1 := fun (b4 : Unit) => ([.pu (tyHouse K) p.1, .pu tyI p.2.1, .pu (tyD K) p.2.2.1, .pu (tyD K) p.2.2.2.1, .pu (tyD K) p.2.2.2.2.1, .no] : TP.Env)) (evt_test (ev_op opv_eqI (ev_var (i := 1) rfl) ev_int)) (sd_retCXN (evxn_lst1 (evx_methK (g := fun vs zs => vs ++ ((zs.drop 0).take 1 ++ (((List.map (fun x => x.2) ([("channels", .non)] : List (PySem.Str × L2.V))).drop 0).take 1 ++ ((zs.drop 1).take 1 ++ [])))) (A2 := (aC (tyD K) (aC (tyD K) aN))) (A := (aC (tyHouse K) (aC (tyD K) (aC tyN (aC (tyD K) aN))))) (f := pk4 m_House_changed_OHouseDND) (j := fun x y => (x, y.1, (), y.2.1, ())) (wk_m [false, false, false, false, false, false] rfl) nof_House_changed (fun G v zs x y h k => by obtain ⟨u0, _, rfl, hu0, k0⟩ := k; obtain ⟨u1, _, rfl, hu1, k1⟩ := k0; cases k1; exact ⟨_, _, rfl, h, ⟨_, _, rfl, hu0, ⟨_, _, rfl, rfl, ⟨_, _, rfl, hu1, rfl⟩⟩⟩⟩) rfl (ev_var (i := 0) rfl) (eva_cons (ev_var (i := 2) rfl) (eva_cons (ev_var (i := 4) rfl) eva_nil))))) (sd_nx (wk_m [true, true, true, true, true, false] rfl)) (fun b4 => (sd_if (env1 := fun (b5 : Unit) => ([.pu (tyHouse K) p.1, .pu tyI p.2.1, .pu (tyD K) p.2.2.1, .pu (tyD K) p.2.2.2.1, .no, .no] : TP.Env)) (evt_test (ev_op opv_eqI (ev_var (i := 1) rfl) ev_int)) (sd_retCXN (evxn_lst1 (evx_methK (g := fun vs zs => vs ++ ((List.map (fun x => x.2) ([("limits", .non), ("channels", .non)] : List (PySem.Str × L2.V))) ++ zs)) (A2 := (aC (tyD K) aN)) (A := (aC (tyHouse K) (aC tyN (aC tyN (aC (tyD K) aN))))) (f := pk4 m_House_changed_OHouseNND) (j := fun x y => (x, (), (), y.1, ())) (wk_m [false, false, false, false, false, false] rfl) nof_House_changed (fun G v zs x y h k => by obtain ⟨u0, _, rfl, hu0, k0⟩ := k; cases k0; exact ⟨_, _, rfl, h, ⟨_, _, rfl, rfl, ⟨_, _, rfl, rfl, ⟨_, _, rfl, hu0, rfl⟩⟩⟩⟩) rfl (ev_var (i := 0) rfl) (eva_cons (ev_var (i := 4) rfl) eva_nil)))) (sd_nx (wk_m [true, true, true, true, false, false] rfl)) (fun b5 => (sd_if (env1 := fun (b6 : Unit) => ([.pu (tyHouse K) p.1, .pu tyI p.2.1, .pu (tyD K) p.2.2.1, .pu (tyD K) p.2.2.2.1, .no, .no] : TP.Env)) (evt_test (ev_op opv_eqI (ev_var (i := 1) rfl) ev_int)) (sd_retCXN (evxn_lst1 (evx_methK (g := fun vs zs => vs ++ (zs ++ (List.map (fun x => x.2) ([("wide_limit", .non)] : List (PySem.Str × L2.V))))) (A2 := (aC (tyD K) (aC (tyD K) aN))) (A := (aC (tyHouse K) (aC (tyD K) (aC (tyD K) (aC tyN aN))))) (f := pk4 m_House_changed_OHouseDDN) (j := fun x y => (x, y.1, y.2.1, (), ())) (wk_m [false, false, false, false, false, false] rfl) nof_House_changed (fun G v zs x y h k => by obtain ⟨u0, _, rfl, hu0, k0⟩ := k; obtain ⟨u1, _, rfl, hu1, k1⟩ := k0; cases k1; exact ⟨_, _, rfl, h, ⟨_, _, rfl, hu0, ⟨_, _, rfl, hu1, ⟨_, _, rfl, rfl, rfl⟩⟩⟩⟩) rfl (ev_var (i := 0) rfl) (eva_cons (ev_var (i := 2) rfl) (eva_cons (ev_var (i := 3) rfl) eva_nil))))) (sd_nx (wk_m [true, true, true, true, false, false] rfl)) (fun b6 => (sd_if (env1 := fun (b7 : Unit) => ([.pu (tyHouse K) p.1, .pu tyI p.2.1, .pu (tyD K) p.2.2.1, .no, .no, .no] : TP.Env)) (evt_test (ev_op opv_eqI (ev_var (i := 1) rfl) ev_int)) (sd_retCXN (evxn_lst1 (evx_methK (g := fun vs zs => vs ++ (((List.map (fun x => x.2) ([("limits", .non), ("wide_limit", .non)] : List (PySem.Str × L2.V))).drop 0).take 1 ++ ((zs.drop 0).take 1 ++ (((List.map (fun x => x.2) ([("limits", .non), ("wide_limit", .non)] : List (PySem.Str × L2.V))).drop 1).take 1 ++ [])))) (A2 := (aC (tyD K) aN)) (A := (aC (tyHouse K) (aC tyN (aC (tyD K) (aC tyN aN))))) (f := pk4 m_House_changed_OHouseNDN) (j := fun x y => (x, (), y.1, (), ())) (wk_m [false, false, false, false, false, false] rfl) nof_House_changed (fun G v zs x y h k => by obtain ⟨u0, _, rfl, hu0, k0⟩ := k; cases k0; exact ⟨_, _, rfl, h, ⟨_, _, rfl, rfl, ⟨_, _, rfl, hu0, ⟨_, _, rfl, rfl, rfl⟩⟩⟩⟩) rfl (ev_var (i := 0) rfl) (eva_cons (ev_var (i := 3) rfl) eva_nil)))) (sd_nx (wk_m [true, true, true, false, false, false] rfl)) (fun b7 => (sd_if (env1 := fun (b8 : Unit) => ([.pu (tyHouse K) p.1, .no, .no, .no, .no, .no] : TP.Env)) (evt_test (ev_op opv_eqI (ev_var (i := 1) rfl) ev_int)) (sd_retCXN (evxn_lst1 (evx_methK (g := fun vs zs => vs ++ (zs ++ (List.map (fun x => x.2) ([("channels", .non), ("wide_limit", .non)] : List (PySem.Str × L2.V))))) (A2 := (aC (tyD K) aN)) (A := (aC (tyHouse K) (aC (tyD K) (aC tyN (aC tyN aN))))) (f := pk4 m_House_changed_OHouseDNN) (j := fun x y => (x, y.1, (), (), ())) (wk_m [false, false, false, false, false, false] rfl) nof_House_changed (fun G v zs x y h k => by obtain ⟨u0, _, rfl, hu0, k0⟩ := k; cases k0; exact ⟨_, _, rfl, h, ⟨_, _, rfl, hu0, ⟨_, _, rfl, rfl, ⟨_, _, rfl, rfl, rfl⟩⟩⟩⟩) rfl (ev_var (i := 0) rfl) (eva_cons (ev_var (i := 2) rfl) eva_nil)))) (sd_nx (wk_m [true, false, false, false, false, false] rfl)) (fun b8 => (sd_retCXN (evxn_lst1 (evx_meth0D (A := (aC (tyHouse K) (aC tyN (aC tyN (aC tyN aN))))) (f := pk4 m_House_changed_OHouseNNN) (j := fun x => (x, (), (), (), ())) (wk_m [false, false, false, false, false, false] rfl) nof_House_changed (fun G v x h => ⟨_, _, rfl, h, ⟨_, _, rfl, rfl, ⟨_, _, rfl, rfl, ⟨_, _, rfl, rfl, rfl⟩⟩⟩⟩) (ev_var (i := 0) rfl))))))))))))))))))) (isM_ok (t := [("InvalidHouse", true)]) ⟨T.exm 27, trivial⟩) (fun a cls d e9 _ => (sd_if (env1 := fun (b10 : Unit) => ([.no, .no, .no, .no, .no, .no] : TP.Env)) (evt_and (evt_B (ev_cb (cv_isX (t := [("InvalidHouse", true)]) ⟨⟨T.exk 19, T.kit 20⟩, trivial⟩) (eva_cons (ev_var (i := 5) rfl) (eva_cons ev_clsK eva_nil)))) (evt_and (evt_B (ev_cb (cv_isXB (t := [("InvalidHouse", true)]) ⟨⟨T.exk 19, T.kitB 23⟩, trivial⟩) (eva_cons (ev_var (i := 5) rfl) (eva_cons ev_ty eva_nil)))) (evt_not (evt_B (ev_cb (cv_isX (t := [("InvalidHouse", false)]) ⟨⟨T.exk 19, T.kit 25⟩, trivial⟩) (eva_cons (ev_var (i := 5) rfl) (eva_cons ev_clsK eva_nil))))))) (sd_retN (evn_lst evas_nil)) (sd_nx (wk_m [false, false, false, false, false, false] rfl)) (fun b10 => (sd_nx (wk_m [false, false, false, false, false, false] rfl))))) (fun _ => wk_m [] rfl) (fun b1 => sd_any) rfl)⟩⟩
end
end Q01
set_option maxHeartbeats 4000000
namespace Q01
open PySem PySem.Spec PyProof.Rows L2 TP
section
variable {P : Program} {w : World} {K : PySem.W.Frag} {mg : Str → Option Value} {base : Heap}
theorem ok_law_change (T : Cn ft fn K mg) : Ok P w K mg base 6 (He.ga K "_law_change") ["house", "near", "cell"] (spOf (aC (tyHouse K) (aC (tyL (tyD K)) (aC tyI aN))) tyB (pk3 m_law_change)) := by
  refine ok_pure (x := "_law_change") (qual := "_law_change") (params := defArgs s_law_change) (body := defBody s_law_change) (scope := defScope s_law_change) (fa := He.ga K "_law_change") (N := N_law_change) (sl := _) (T.def_ 23 (d := d_law_change)) sc_law_change (asl_cons (asl_cons (asl_cons asl_nil))) rfl (Nat.le_of_ble_eq_true rfl) (fun _ _ _ _ _ _ us hl => match us, hl with | [_, _, _], _ => rfl) fun cdv Ar outer s H E hr => ?_
  refine ⟨_, (pss_cons (ps_set (i := 3) sc_law_change.nd rfl (Or.inl rfl) (pe_callF (ok_law_numbers T) (hr.mono (by decide)) rfl (T.glo 44) (pa_cons (pv 2) pa_nil))) (pss_cons (ps_set (i := 4) sc_law_change.nd rfl (Or.inl rfl) (pe_callF (ok_law_draw T) (hr.mono (by decide)) rfl (T.glo 3) (pa_cons (pv 2) (pa_cons pe_int (pa_cons pe_int pa_nil))))) (pss_cons (ps_set (i := 5) sc_law_change.nd rfl (Or.inl rfl) (pe_callB (call_max2 rfl) rfl (T.free 29) bo_max (pa_cons pe_int (pa_cons (pe_op op_sub (pe_callF (ok_law_draw T) (hr.mono (by decide)) rfl (T.glo 3) (pa_cons (pv 2) (pa_cons pe_int (pa_cons pe_int pa_nil)))) pe_int) pa_nil)))) (pss_cons (ps_set (i := 6) sc_law_change.nd rfl (Or.inl rfl) (pe_callTy call_list_of rfl (T.free 31) bo_list (pa_cons (pv 1) pa_nil))) (pss_cons (ps_for PassesOwn.never rfl (pi_range1 rfl (T.free 2) (pa_cons pe_int pa_nil)) (pg_name (i := 7) sc_law_change.nd rfl (Or.inl rfl)) (pss_cons (ps_if (PW.pt (pw_or (pt_cmpR op_eq (pe_callF (ok_law_bit T) (hr.mono (by decide)) rfl (T.glo 45) (pa_cons (pv 4) (pa_cons (pv 7) pa_nil))) pe_int (nomark _)) (pw_or1 (pt_cmpR op_eq (pe_callF (ok_law_bit T) (hr.mono (by decide)) rfl (T.glo 45) (pa_cons (pv 5) (pa_cons (pv 7) pa_nil))) pe_int (nomark _))))) (pss_cons (ps_asg pe_non (pg_sub (pv 3) (pv 7) set_list)) pss_nil) (pss_cons (ps_asg (pe_ix ix_list (pv 3) (pv 7) (fun _ _ => rfl)) (pg_sub (pv 6) (pv 7) set_list)) pss_nil)) pss_nil)) (pss_cons (ps_set (i := 8) sc_law_change.nd rfl (Or.inl rfl) pe_non) (pss_cons (ps_if (pt_cmpR op_notN (pe_ix ix_list (pv 3) pe_int (fun _ _ => rfl)) pe_non (nomark _)) (pss_cons (ps_set (i := 8) sc_law_change.nd rfl (Or.inl rfl) (pe_callTy call_list_of rfl (T.free 31) bo_list (pa_cons (pe_ix ix_list (pv 3) pe_int (fun _ _ => rfl)) pa_nil))) pss_nil) pss_nil) (pss_cons (ps_set (i := 9) sc_law_change.nd rfl (Or.inl rfl) (pe_callF (ok_law_changed T) (hr.mono (by decide)) rfl (T.glo 46) (pa_cons (pv 0) (pa_cons (pv 4) (pa_cons (pv 8) (pa_cons (pe_ix ix_list (pv 3) pe_int (fun _ _ => rfl)) (pa_cons (pe_ix ix_list (pv 3) pe_int (fun _ _ => rfl)) pa_nil))))))) (pss_cons (ps_if (pt_cmpR op_notN (pv 8) pe_non (nomark _)) (pss_cons (ps_if (pt_not (pt_val (pe_callF (ok_law_ints_LILI T) (hr.mono (by decide)) rfl (T.glo 35) (pa_cons (pv 8) (pa_cons (pe_ix ix_list (pv 3) pe_int (fun _ _ => rfl)) pa_nil))))) (pss_cons (ps_ret pe_bl) pss_nil) pss_nil) (pss_cons (ps_expr (pe_bm PySem.F.plainAttrs_list PySem.F.slot_list_append PySem.F.type_list_append mt_append (pv 8) (pa_cons pe_int pa_nil))) pss_nil)) pss_nil) (pss_cons (ps_if (PW.pt (pw_or (pt_not (pt_val (pe_callF (ok_law_as_due T) (hr.mono (by decide)) rfl (T.glo 47) (pa_cons (pv 9) (pa_cons (pv 6) pa_nil))))) (pw_or1 (pt_not (pt_val (pe_callF (ok_law_is_house T) (hr.mono (by decide)) rfl (T.glo 42) (pa_cons (pv 0) (pa_cons (pv 1) pa_nil)))))))) (pss_cons (ps_ret pe_bl) pss_nil) pss_nil) (pss_cons (ps_if (pt_cmpR op_eq (pe_callB call_len_seq rfl (T.free 0) bo_len (pa_cons (pv 9) pa_nil)) pe_int (nomark _)) (pss_cons (ps_set (i := 6) sc_law_change.nd rfl (Or.inl rfl) (pe_callF (ok_law_near T) (hr.mono (by decide)) rfl (T.glo 48) (pa_cons (pv 6) pa_nil))) (pss_cons (ps_set (i := 9) sc_law_change.nd rfl (Or.inl rfl) (pe_callF (ok_law_changed T) (hr.mono (by decide)) rfl (T.glo 46) (pa_cons (pv 0) (pa_cons pe_int (pa_cons (pe_callTy call_tuple_of rfl (T.free 9) bo_tuple (pa_cons (pe_ix ix_list (pv 6) pe_int (fun _ _ => rfl)) pa_nil)) (pa_cons (pe_ix ix_list (pv 6) pe_int (fun _ _ => rfl)) (pa_cons (pe_ix ix_list (pv 6) pe_int (fun _ _ => rfl)) pa_nil))))))) (pss_cons (ps_if (pt_not (pt_val (pe_callF (ok_law_as_due T) (hr.mono (by decide)) rfl (T.glo 47) (pa_cons (pv 9) (pa_cons (pv 6) pa_nil))))) (pss_cons (ps_ret pe_bl) pss_nil) pss_nil) pss_nil))) pss_nil) (pss_cons (ps_set (i := 10) sc_law_change.nd rfl (Or.inl rfl) (pe_ix ix_list (pv 9) pe_int (fun _ _ => rfl))) (pss_cons (ps_if (pt_not (pt_val (pe_callF (ok_law_is_house T) (hr.mono (by decide)) rfl (T.glo 42) (pa_cons (pe_methKF (ks := ["channels"]) (g := fun us mz ws => us ++ ((mz.drop 0).take 1 ++ ((ws.drop 0).take 1 ++ ((mz.drop 1).take 1 ++ [])))) (ms := [("limits", .non), ("wide_limit", .non)]) (pv 10) (T.cls 10) (T.meth 43) (okk_calm (okxk_House_changed_OHouseNDN T)) (hr.mono (by decide)) (by decide) (by simp) (fun h1 h2 h3 => h1.append ((vals_seg 0 1 h2).append ((vals_seg 0 1 h3).append ((vals_seg 1 1 h2).append vals_nil)))) (fun D doc pm an cdv ct us mv ws h1 h2 h3 => match us, mv, ws, h1, h2, h3 with | [a0], [m0, m1], [w0], _, _, _ => kb_House_House_changed_mwm D doc pm an cdv ct a0 m0 m1 w0) (pk_cons (pe_ix ix_list (pv 1) pe_int (fun _ _ => rfl)) pk_nil)) (pa_cons (pe_lst (pa_cons (pe_ix ix_list (pv 6) pe_int (fun _ _ => rfl)) (pa_cons (pe_ix ix_list (pv 1) pe_int (fun _ _ => rfl)) (pa_cons (pe_ix ix_list (pv 6) pe_int (fun _ _ => rfl)) pa_nil)))) pa_nil))))) (pss_cons (ps_ret pe_bl) pss_nil) pss_nil) (pss_cons (ps_if (pt_not (pt_val (pe_callF (ok_law_is_house T) (hr.mono (by decide)) rfl (T.glo 42) (pa_cons (pe_methKF (ks := ["limits"]) (g := fun us mz ws => us ++ (ws ++ mz)) (ms := [("channels", .non), ("wide_limit", .non)]) (pv 10) (T.cls 10) (T.meth 43) (okk_calm (okxk_House_changed_OHouseDNN T)) (hr.mono (by decide)) (by decide) (by simp) (fun h1 h2 h3 => h1.append (h3.append h2)) (fun D doc pm an cdv ct us mv ws h1 h2 h3 => match us, mv, ws, h1, h2, h3 with | [a0], [m0, m1], [w0], _, _, _ => kb_House_House_changed_wmm D doc pm an cdv ct a0 m0 m1 w0) (pk_cons (pe_callTy call_tuple_of rfl (T.free 9) bo_tuple (pa_cons (pe_ix ix_list (pv 1) pe_int (fun _ _ => rfl)) pa_nil)) pk_nil)) (pa_cons (pe_lst (pa_cons (pe_ix ix_list (pv 1) pe_int (fun _ _ => rfl)) (pa_cons (pe_ix ix_list (pv 6) pe_int (fun _ _ => rfl)) (pa_cons (pe_ix ix_list (pv 6) pe_int (fun _ _ => rfl)) pa_nil)))) pa_nil))))) (pss_cons (ps_ret pe_bl) pss_nil) pss_nil) (pss_cons (ps_ret (pe_and (pe_callF (ok_law_is_house T) (hr.mono (by decide)) rfl (T.glo 42) (pa_cons (pv 10) (pa_cons (pv 6) pa_nil))) (pe_one (pe_callF (ok_law_is_house T) (hr.mono (by decide)) rfl (T.glo 42) (pa_cons (pv 0) (pa_cons (pv 1) pa_nil)))))) pss_nil))))))))))))))), fun p => ⟨b_law_change p.1 p.2.1 p.2.2.1, ((pk3_app m_law_change p).trans (e_law_change _ _ _)), (sd_asgN (i := 3) (evn_call (eva_cons (ev_var (i := 2) rfl) eva_nil)) (fun news1 => (sd_asg (i := 4) (ev_call (eva_cons (ev_var (i := 2) rfl) (eva_cons ev_int (eva_cons ev_int eva_nil)))) (fun form2 => (sd_asg (i := 5) (ev_cb cv_max2 (eva_cons ev_int (eva_cons (ev_op opv_sub (ev_call (eva_cons (ev_var (i := 2) rfl) (eva_cons ev_int (eva_cons ev_int eva_nil)))) ev_int) eva_nil))) (fun blank3 => (sd_asgN (i := 6) (evn_cb cn_listL (eva_cons (ev_var (i := 1) rfl) eva_nil)) (fun after4 => (sd_for (env1 := fun (b5 : (List Dyn) × (List Dyn)) => ([.pu (tyHouse K) p.1, .pu (tyL (tyD K)) p.2.1, .no, .ow (tyD K) b5.1, .pu tyI form2, .pu tyI blank3, .ow (tyD K) b5.2, .no, .no, .no, .no] : TP.Env)) (b0 := (news1, after4)) (evi_rng1 (eva_cons ev_int eva_nil)) (wk_m [true, true, false, true, true, true, true, false, false, false, false] rfl) (fun b5 => evg_name) (fun b5 x6 => (sd_if (env1 := fun (b8 : (List Dyn) × (List Dyn)) => ([.pu (tyHouse K) p.1, .pu (tyL (tyD K)) p.2.1, .no, .ow (tyD K) b8.1, .pu tyI form2, .pu tyI blank3, .ow (tyD K) b8.2, .no, .no, .no, .no] : TP.Env)) (evt_or (evt_test (ev_op opv_eqI (ev_call (eva_cons (ev_var (i := 4) rfl) (eva_cons (ev_var (i := 7) rfl) eva_nil))) ev_int)) (evt_test (ev_op opv_eqI (ev_call (eva_cons (ev_var (i := 5) rfl) (eva_cons (ev_var (i := 7) rfl) eva_nil))) ev_int))) (sd_setItem (i := 3) rfl (ev_dN ev_non) (ev_var (i := 7) rfl) (fun news9 => (sd_nx (wk_m [true, true, false, true, true, true, true, false, false, false, false] rfl)))) (sd_setItem (i := 6) rfl (ev_ixOw (i := 3) rfl (ev_var (i := 7) rfl)) (ev_var (i := 7) rfl) (fun after12 => (sd_nx (wk_m [true, true, false, true, true, true, true, false, false, false, false] rfl)))) (fun b8 => (sd_nx (wk_m [true, true, false, true, true, true, true, false, false, false, false] rfl))))) (fun b5 => (sd_asg (i := 8) ev_non (fun handed15 => (sd_freeze (i := 3) rfl (sd_if (env1 := fun (b16 : Option (List Int)) => ([.pu (tyHouse K) p.1, .pu (tyL (tyD K)) p.2.1, .no, .pu (tyL (tyD K)) b5.1, .pu tyI form2, .no, .ow (tyD K) b5.2, .no, slN tyI b16, .no, .no] : TP.Env)) (evt_test (ev_op opv_notD (ev_op opv_ixL (ev_var (i := 3) rfl) ev_int) ev_non)) (sd_asgN (i := 8) (evn_cb cn_listL (eva_cons (ev_pL (ev_op opv_ixL (ev_var (i := 3) rfl) ev_int)) eva_nil)) (fun handed17 => (sd_nx (wk_m [true, true, false, true, true, false, true, false, true, false, false] rfl)))) (sd_nx (wk_m [true, true, false, true, true, false, true, false, true, false, false] rfl)) (fun b16 => by
    rcases b16 with _ | ys
    · exact (sd_asg (i := 9) (EvN.ev (evn_call (eva_cons (ev_var (i := 0) rfl) (eva_cons (ev_var (i := 4) rfl) (eva_cons (ev_dN (ev_var (i := 8) rfl)) (eva_cons (ev_op opv_ixL (ev_var (i := 3) rfl) ev_int) (eva_cons (ev_op opv_ixL (ev_var (i := 3) rfl) ev_int) eva_nil))))))) (fun made18 => (sd_if (env1 := fun (b19 : Unit) => ([.pu (tyHouse K) p.1, .pu (tyL (tyD K)) p.2.1, .no, .no, .no, .no, .ow (tyD K) b5.2, .no, .no, .pu (tyL (tyHouse K)) made18, .no] : TP.Env)) (evt_test (ev_op (opv_notD (K := K)) (ev_dN (ev_var (i := 8) rfl)) ev_non)) sd_none (sd_nx (wk_m [true, true, false, false, false, false, true, false, false, true, false] rfl)) (fun b19 => (sd_freeze (i := 6) rfl (sd_if (env1 := fun (b21 : Unit) => ([.pu (tyHouse K) p.1, .pu (tyL (tyD K)) p.2.1, .no, .no, .no, .no, .pu (tyL (tyD K)) b5.2, .no, .no, .pu (tyL (tyHouse K)) made18, .no] : TP.Env)) (evt_or (evt_not (evt_B (ev_call (eva_cons (ev_var (i := 9) rfl) (eva_cons (ev_var (i := 6) rfl) eva_nil))))) (evt_not (evt_B (ev_call (eva_cons (ev_var (i := 0) rfl) (eva_cons (ev_var (i := 1) rfl) eva_nil)))))) (sd_ret ev_bl) (sd_nx (wk_m [true, true, false, false, false, false, true, false, false, true, false] rfl)) (fun b21 => (sd_if (env1 := fun (b22 : (List Dyn) × (List OHouse)) => ([.pu (tyHouse K) p.1, .pu (tyL (tyD K)) p.2.1, .no, .no, .no, .no, .pu (tyL (tyD K)) b22.1, .no, .no, .pu (tyL (tyHouse K)) b22.2, .no] : TP.Env)) (evt_test (ev_op opv_eqI (ev_cb cv_lenL (eva_cons (ev_var (i := 9) rfl) eva_nil)) ev_int)) (sd_asg (i := 6) (EvN.ev (evn_call (eva_cons (ev_var (i := 6) rfl) eva_nil))) (fun after23 => (sd_asg (i := 9) (EvN.ev (evn_call (eva_cons (ev_var (i := 0) rfl) (eva_cons ev_int (eva_cons (ev_dU (ev_cb cv_tupleL (eva_cons (ev_pL (ev_op opv_ixL (ev_var (i := 6) rfl) ev_int)) eva_nil))) (eva_cons (ev_op opv_ixL (ev_var (i := 6) rfl) ev_int) (eva_cons (ev_op opv_ixL (ev_var (i := 6) rfl) ev_int) eva_nil))))))) (fun made24 => (sd_if (env1 := fun (b25 : Unit) => ([.pu (tyHouse K) p.1, .pu (tyL (tyD K)) p.2.1, .no, .no, .no, .no, .pu (tyL (tyD K)) after23, .no, .no, .pu (tyL (tyHouse K)) made24, .no] : TP.Env)) (evt_not (evt_B (ev_call (eva_cons (ev_var (i := 9) rfl) (eva_cons (ev_var (i := 6) rfl) eva_nil))))) (sd_ret ev_bl) (sd_nx (wk_m [true, true, false, false, false, false, true, false, false, true, false] rfl)) (fun b25 => (sd_nx (wk_m [true, true, false, false, false, false, true, false, false, true, false] rfl)))))))) (sd_nx (wk_m [true, true, false, false, false, false, true, false, false, true, false] rfl)) (fun b22 => (sd_asg (i := 10) (ev_op opv_ixL (ev_var (i := 9) rfl) ev_int) (fun newer26 => (sd_if (env1 := fun (b27 : Unit) => ([.pu (tyHouse K) p.1, .pu (tyL (tyD K)) p.2.1, .no, .no, .no, .no, .pu (tyL (tyD K)) b22.1, .no, .no, .no, .pu (tyHouse K) newer26] : TP.Env)) (evt_not (evt_B (ev_call (eva_cons (ev_methK (A2 := (aC (tyD K) aN)) (A := (aC (tyHouse K) (aC tyN (aC (tyD K) (aC tyN aN))))) (f := (fun p => (pk4 m_House_changed_OHouseNDN p).bind Res.val)) (j := fun x y => (x, (), y.1, (), ())) nof_House_changed (fun G v zs x y h k => by obtain ⟨u0, _, rfl, hu0, k0⟩ := k; cases k0; exact ⟨_, _, rfl, h, ⟨_, _, rfl, rfl, ⟨_, _, rfl, hu0, ⟨_, _, rfl, rfl, rfl⟩⟩⟩⟩) rfl (ev_var (i := 10) rfl) (eva_cons (ev_op opv_ixL (ev_var (i := 1) rfl) ev_int) eva_nil)) (eva_cons (EvN.ev (evn_lst (evas_cons (ev_op opv_ixL (ev_var (i := 6) rfl) ev_int) (evas_cons (ev_op opv_ixL (ev_var (i := 1) rfl) ev_int) (evas_cons (ev_op opv_ixL (ev_var (i := 6) rfl) ev_int) evas_nil))))) eva_nil))))) (sd_ret ev_bl) (sd_nx (wk_m [true, true, false, false, false, false, true, false, false, false, true] rfl)) (fun b27 => (sd_if (env1 := fun (b28 : Unit) => ([.pu (tyHouse K) p.1, .pu (tyL (tyD K)) p.2.1, .no, .no, .no, .no, .pu (tyL (tyD K)) b22.1, .no, .no, .no, .pu (tyHouse K) newer26] : TP.Env)) (evt_not (evt_B (ev_call (eva_cons (ev_methK (A2 := (aC (tyD K) aN)) (A := (aC (tyHouse K) (aC (tyD K) (aC tyN (aC tyN aN))))) (f := (fun p => (pk4 m_House_changed_OHouseDNN p).bind Res.val)) (j := fun x y => (x, y.1, (), (), ())) nof_House_changed (fun G v zs x y h k => by obtain ⟨u0, _, rfl, hu0, k0⟩ := k; cases k0; exact ⟨_, _, rfl, h, ⟨_, _, rfl, hu0, ⟨_, _, rfl, rfl, ⟨_, _, rfl, rfl, rfl⟩⟩⟩⟩) rfl (ev_var (i := 10) rfl) (eva_cons (ev_dU (ev_cb cv_tupleL (eva_cons (ev_pL (ev_op opv_ixL (ev_var (i := 1) rfl) ev_int)) eva_nil))) eva_nil)) (eva_cons (EvN.ev (evn_lst (evas_cons (ev_op opv_ixL (ev_var (i := 1) rfl) ev_int) (evas_cons (ev_op opv_ixL (ev_var (i := 6) rfl) ev_int) (evas_cons (ev_op opv_ixL (ev_var (i := 6) rfl) ev_int) evas_nil))))) eva_nil))))) (sd_ret ev_bl) (sd_nx (wk_m [true, true, false, false, false, false, true, false, false, false, true] rfl)) (fun b28 => (sd_ret (ev_andV (ev_call (eva_cons (ev_var (i := 10) rfl) (eva_cons (ev_var (i := 6) rfl) eva_nil))) (ev_call (eva_cons (ev_var (i := 0) rfl) (eva_cons (ev_var (i := 1) rfl) eva_nil))))))))))))))))))))
    · exact (sd_asg (i := 9) (EvN.ev (evn_lend' (i := 8) rfl nol_House (evn_call (eva_cons (ev_var (i := 0) rfl) (eva_cons (ev_var (i := 4) rfl) (eva_cons (ev_dL (ev_var (i := 8) rfl)) (eva_cons (ev_op opv_ixL (ev_var (i := 3) rfl) ev_int) (eva_cons (ev_op opv_ixL (ev_var (i := 3) rfl) ev_int) eva_nil)))))))) (fun made18 => (sd_if (env1 := fun (b19 : Unit) => ([.pu (tyHouse K) p.1, .pu (tyL (tyD K)) p.2.1, .no, .no, .no, .no, .ow (tyD K) b5.2, .no, .no, .pu (tyL (tyHouse K)) made18, .no] : TP.Env)) (evt_lend (i := 8) rfl (evt_test (ev_op (opv_notD (K := K)) (ev_dL (ev_var (i := 8) rfl)) ev_non))) (sd_if (env1 := fun (b20 : Unit) => ([.pu (tyHouse K) p.1, .pu (tyL (tyD K)) p.2.1, .no, .no, .no, .no, .ow (tyD K) b5.2, .no, .ow tyI ys, .pu (tyL (tyHouse K)) made18, .no] : TP.Env)) (evt_lend (i := 8) rfl (evt_not (evt_B (ev_call (eva_cons (ev_var (i := 8) rfl) (eva_cons (ev_pL (ev_op opv_ixL (ev_var (i := 3) rfl) ev_int)) eva_nil)))))) (sd_ret ev_bl) (sd_nx (wk_m [true, true, false, false, false, false, true, false, true, true, false] rfl)) (fun b20 => (sd_append (i := 8) rfl ev_int (fun y30 => (sd_nx (wk_m [true, true, false, false, false, false, true, false, false, true, false] rfl)))))) (sd_nx (wk_m [true, true, false, false, false, false, true, false, false, true, false] rfl)) (fun b19 => (sd_freeze (i := 6) rfl (sd_if (env1 := fun (b21 : Unit) => ([.pu (tyHouse K) p.1, .pu (tyL (tyD K)) p.2.1, .no, .no, .no, .no, .pu (tyL (tyD K)) b5.2, .no, .no, .pu (tyL (tyHouse K)) made18, .no] : TP.Env)) (evt_or (evt_not (evt_B (ev_call (eva_cons (ev_var (i := 9) rfl) (eva_cons (ev_var (i := 6) rfl) eva_nil))))) (evt_not (evt_B (ev_call (eva_cons (ev_var (i := 0) rfl) (eva_cons (ev_var (i := 1) rfl) eva_nil)))))) (sd_ret ev_bl) (sd_nx (wk_m [true, true, false, false, false, false, true, false, false, true, false] rfl)) (fun b21 => (sd_if (env1 := fun (b22 : (List Dyn) × (List OHouse)) => ([.pu (tyHouse K) p.1, .pu (tyL (tyD K)) p.2.1, .no, .no, .no, .no, .pu (tyL (tyD K)) b22.1, .no, .no, .pu (tyL (tyHouse K)) b22.2, .no] : TP.Env)) (evt_test (ev_op opv_eqI (ev_cb cv_lenL (eva_cons (ev_var (i := 9) rfl) eva_nil)) ev_int)) (sd_asg (i := 6) (EvN.ev (evn_call (eva_cons (ev_var (i := 6) rfl) eva_nil))) (fun after23 => (sd_asg (i := 9) (EvN.ev (evn_call (eva_cons (ev_var (i := 0) rfl) (eva_cons ev_int (eva_cons (ev_dU (ev_cb cv_tupleL (eva_cons (ev_pL (ev_op opv_ixL (ev_var (i := 6) rfl) ev_int)) eva_nil))) (eva_cons (ev_op opv_ixL (ev_var (i := 6) rfl) ev_int) (eva_cons (ev_op opv_ixL (ev_var (i := 6) rfl) ev_int) eva_nil))))))) (fun made24 => (sd_if (env1 := fun (b25 : Unit) => ([.pu (tyHouse K) p.1, .pu (tyL (tyD K)) p.2.1, .no, .no, .no, .no, .pu (tyL (tyD K)) after23, .no, .no, .pu (tyL (tyHouse K)) made24, .no] : TP.Env)) (evt_not (evt_B (ev_call (eva_cons (ev_var (i := 9) rfl) (eva_cons (ev_var (i := 6) rfl) eva_nil))))) (sd_ret ev_bl) (sd_nx (wk_m [true, true, false, false, false, false, true, false, false, true, false] rfl)) (fun b25 => (sd_nx (wk_m [true, true, false, false, false, false, true, false, false, true, false] rfl)))))))) (sd_nx (wk_m [true, true, false, false, false, false, true, false, false, true, false] rfl)) (fun b22 => (sd_asg (i := 10) (ev_op opv_ixL (ev_var (i := 9) rfl) ev_int) (fun newer26 => (sd_if (env1 := fun (b27 : Unit) => ([.pu (tyHouse K) p.1, .pu (tyL (tyD K)) p.2.1, .no, .no, .no, .no, .pu (tyL (tyD K)) b22.1, .no, .no, .no, .pu (tyHouse K) newer26] : TP.Env)) (evt_not (evt_B (ev_call (eva_cons (ev_methK (A2 := (aC (tyD K) aN)) (A := (aC (tyHouse K) (aC tyN (aC (tyD K) (aC tyN aN))))) (f := (fun p => (pk4 m_House_changed_OHouseNDN p).bind Res.val)) (j := fun x y => (x, (), y.1, (), ())) nof_House_changed (fun G v zs x y h k => by obtain ⟨u0, _, rfl, hu0, k0⟩ := k; cases k0; exact ⟨_, _, rfl, h, ⟨_, _, rfl, rfl, ⟨_, _, rfl, hu0, ⟨_, _, rfl, rfl, rfl⟩⟩⟩⟩) rfl (ev_var (i := 10) rfl) (eva_cons (ev_op opv_ixL (ev_var (i := 1) rfl) ev_int) eva_nil)) (eva_cons (EvN.ev (evn_lst (evas_cons (ev_op opv_ixL (ev_var (i := 6) rfl) ev_int) (evas_cons (ev_op opv_ixL (ev_var (i := 1) rfl) ev_int) (evas_cons (ev_op opv_ixL (ev_var (i := 6) rfl) ev_int) evas_nil))))) eva_nil))))) (sd_ret ev_bl) (sd_nx (wk_m [true, true, false, false, false, false, true, false, false, false, true] rfl)) (fun b27 => (sd_if (env1 := fun (b28 : Unit) => ([.pu (tyHouse K) p.1, .pu (tyL (tyD K)) p.2.1, .no, .no, .no, .no, .pu (tyL (tyD K)) b22.1, .no, .no, .no, .pu (tyHouse K) newer26] : TP.Env)) (evt_not (evt_B (ev_call (eva_cons (ev_methK (A2 := (aC (tyD K) aN)) (A := (aC (tyHouse K) (aC (tyD K) (aC tyN (aC tyN aN))))) (f := (fun p => (pk4 m_House_changed_OHouseDNN p).bind Res.val)) (j := fun x y => (x, y.1, (), (), ())) nof_House_changed (fun G v zs x y h k => by obtain ⟨u0, _, rfl, hu0, k0⟩ := k; cases k0; exact ⟨_, _, rfl, h, ⟨_, _, rfl, hu0, ⟨_, _, rfl, rfl, ⟨_, _, rfl, rfl, rfl⟩⟩⟩⟩) rfl (ev_var (i := 10) rfl) (eva_cons (ev_dU (ev_cb cv_tupleL (eva_cons (ev_pL (ev_op opv_ixL (ev_var (i := 1) rfl) ev_int)) eva_nil))) eva_nil)) (eva_cons (EvN.ev (evn_lst (evas_cons (ev_op opv_ixL (ev_var (i := 1) rfl) ev_int) (evas_cons (ev_op opv_ixL (ev_var (i := 6) rfl) ev_int) (evas_cons (ev_op opv_ixL (ev_var (i := 6) rfl) ev_int) evas_nil))))) eva_nil))))) (sd_ret ev_bl) (sd_nx (wk_m [true, true, false, false, false, false, true, false, false, false, true] rfl)) (fun b28 => (sd_ret (ev_andV (ev_call (eva_cons (ev_var (i := 10) rfl) (eva_cons (ev_var (i := 6) rfl) eva_nil))) (ev_call (eva_cons (ev_var (i := 0) rfl) (eva_cons (ev_var (i := 1) rfl) eva_nil)))))))))))))))))))))))))))))))))))⟩⟩
end
end Q01
set_option maxHeartbeats 4000000
namespace Q01
open PySem PySem.Spec PyProof.Rows L2 TP
section
variable {P : Program} {w : World} {K : PySem.W.Frag} {mg : Str → Option Value} {base : Heap}
theorem ok_law (T : Cn ft fn K mg) : Ok P w K mg base 7 (He.ga K "law") ["script"] (spOf (aC (tyLs K tyI) aN) tyB (pk1 m_law)) := by
  refine ok_pure (x := "law") (qual := "law") (params := defArgs s_law) (body := defBody s_law) (scope := defScope s_law) (fa := He.ga K "law") (N := N_law) (sl := _) (T.def_ 24 (d := d_law)) sc_law (asl_cons asl_nil) rfl (Nat.le_of_ble_eq_true rfl) (fun _ _ _ _ _ _ us hl => match us, hl with | [_], _ => rfl) fun cdv Ar outer s H E hr => ?_
  refine ⟨_, (pss_cons (ps_set (i := 1) sc_law.nd rfl (Or.inl rfl) (pe_callF (ok_law_numbers T) (hr.mono (by decide)) rfl (T.glo 44) (pa_cons (pe_callF (ok_law_cell T) (hr.mono (by decide)) rfl (T.glo 49) (pa_cons (pv 0) (pa_cons pe_int pa_nil))) pa_nil))) (pss_cons (ps_if (pt_not (pt_val (pe_callF (ok_law_as_due T) (hr.mono (by decide)) rfl (T.glo 47) (pa_cons (pe_callF (ok_law_made_LIII T) (hr.mono (by decide)) rfl (T.glo 50) (pa_cons (pe_callTy call_list_of rfl (T.free 31) bo_list (pa_cons (pe_ix ix_list (pv 1) pe_int (fun _ _ => rfl)) pa_nil)) (pa_cons (pe_ix ix_list (pv 1) pe_int (fun _ _ => rfl)) (pa_cons (pe_ix ix_list (pv 1) pe_int (fun _ _ => rfl)) pa_nil)))) (pa_cons (pv 1) pa_nil))))) (pss_cons (ps_ret pe_bl) pss_nil) pss_nil) (pss_cons (ps_if (pt_not (pt_val (pe_callF (ok_law_as_due T) (hr.mono (by decide)) rfl (T.glo 47) (pa_cons (pe_callF (ok_law_made_UIII T) (hr.mono (by decide)) rfl (T.glo 50) (pa_cons (pe_callTy call_tuple_of rfl (T.free 9) bo_tuple (pa_cons (pe_ix ix_list (pv 1) pe_int (fun _ _ => rfl)) pa_nil)) (pa_cons (pe_ix ix_list (pv 1) pe_int (fun _ _ => rfl)) (pa_cons (pe_ix ix_list (pv 1) pe_int (fun _ _ => rfl)) pa_nil)))) (pa_cons (pv 1) pa_nil))))) (pss_cons (ps_ret pe_bl) pss_nil) pss_nil) (pss_cons (ps_set (i := 2) sc_law.nd rfl (Or.inl rfl) (pe_callF (ok_law_near T) (hr.mono (by decide)) rfl (T.glo 48) (pa_cons (pv 1) pa_nil))) (pss_cons (ps_set (i := 3) sc_law.nd rfl (Or.inl rfl) (pe_callTy call_list_of rfl (T.free 31) bo_list (pa_cons (pe_ix ix_list (pv 2) pe_int (fun _ _ => rfl)) pa_nil))) (pss_cons (ps_set (i := 4) sc_law.nd rfl (Or.inl rfl) (pe_callF (ok_law_made_LIII T) (hr.mono (by decide)) rfl (T.glo 50) (pa_cons (pv 3) (pa_cons (pe_ix ix_list (pv 2) pe_int (fun _ _ => rfl)) (pa_cons (pe_ix ix_list (pv 2) pe_int (fun _ _ => rfl)) pa_nil))))) (pss_cons (ps_if (PW.pt (pw_or (pt_not (pt_val (pe_callF (ok_law_as_due T) (hr.mono (by decide)) rfl (T.glo 47) (pa_cons (pv 4) (pa_cons (pv 2) pa_nil))))) (pw_or1 (pt_not (pt_val (pe_callF (ok_law_ints_LILI T) (hr.mono (by decide)) rfl (T.glo 35) (pa_cons (pv 3) (pa_cons (pe_ix ix_list (pv 2) pe_int (fun _ _ => rfl)) pa_nil)))))))) (pss_cons (ps_ret pe_bl) pss_nil) pss_nil) (pss_cons (ps_asg (pe_op op_sub pe_int (pe_ix ix_list (pv 3) pe_int (fun _ _ => rfl))) (pg_sub (pv 3) pe_int set_list)) (pss_cons (ps_expr (pe_bm PySem.F.plainAttrs_list PySem.F.slot_list_append PySem.F.type_list_append mt_append (pv 3) (pa_cons pe_int pa_nil))) (pss_cons (ps_if (PW.pt (pw_or (pt_not (pt_val (pe_callF (ok_law_is_house T) (hr.mono (by decide)) rfl (T.glo 42) (pa_cons (pe_ix ix_list (pv 4) pe_int (fun _ _ => rfl)) (pa_cons (pv 2) pa_nil))))) (pw_or1 (pt_not (pt_val (pe_callF (ok_law_defaults T) (hr.mono (by decide)) rfl (T.glo 51) (pa_cons (pe_ix ix_list (pv 2) pe_int (fun _ _ => rfl)) (pa_cons (pe_ix ix_list (pv 2) pe_int (fun _ _ => rfl)) (pa_cons (pe_ix ix_list (pv 2) pe_int (fun _ _ => rfl)) pa_nil))))))))) (pss_cons (ps_ret pe_bl) pss_nil) pss_nil) (pss_cons (ps_ret (pe_callF (ok_law_change T) (hr.mono (by decide)) rfl (T.glo 52) (pa_cons (pe_ix ix_list (pv 4) pe_int (fun _ _ => rfl)) (pa_cons (pv 2) (pa_cons (pe_callF (ok_law_cell T) (hr.mono (by decide)) rfl (T.glo 49) (pa_cons (pv 0) (pa_cons pe_int pa_nil))) pa_nil))))) pss_nil))))))))))), fun p => ⟨b_law p.1, ((pk1_app m_law p).trans (e_law _)), (sd_asg (i := 1) (EvN.ev (evn_call (eva_cons (ev_call (eva_cons (ev_var (i := 0) rfl) (eva_cons ev_int eva_nil))) eva_nil))) (fun numbers1 => (sd_if (env1 := fun (b2 : Unit) => ([.pu (tyLs K tyI) p.1, .pu (tyL (tyD K)) numbers1, .no, .no, .no] : TP.Env)) (evt_not (evt_B (ev_call (eva_cons (EvN.ev (evn_call (eva_cons (EvN.ev (evn_cb cn_listL (eva_cons (ev_pL (ev_op opv_ixL (ev_var (i := 1) rfl) ev_int)) eva_nil))) (eva_cons (ev_pI (ev_op opv_ixL (ev_var (i := 1) rfl) ev_int)) (eva_cons (ev_pI (ev_op opv_ixL (ev_var (i := 1) rfl) ev_int)) eva_nil))))) (eva_cons (ev_var (i := 1) rfl) eva_nil))))) (sd_ret ev_bl) (sd_nx (wk_m [true, true, false, false, false] rfl)) (fun b2 => (sd_if (env1 := fun (b3 : Unit) => ([.pu (tyLs K tyI) p.1, .pu (tyL (tyD K)) numbers1, .no, .no, .no] : TP.Env)) (evt_not (evt_B (ev_call (eva_cons (EvN.ev (evn_call (eva_cons (ev_cb cv_tupleL (eva_cons (ev_pL (ev_op opv_ixL (ev_var (i := 1) rfl) ev_int)) eva_nil)) (eva_cons (ev_pI (ev_op opv_ixL (ev_var (i := 1) rfl) ev_int)) (eva_cons (ev_pI (ev_op opv_ixL (ev_var (i := 1) rfl) ev_int)) eva_nil))))) (eva_cons (ev_var (i := 1) rfl) eva_nil))))) (sd_ret ev_bl) (sd_nx (wk_m [true, true, false, false, false] rfl)) (fun b3 => (sd_asg (i := 2) (EvN.ev (evn_call (eva_cons (ev_var (i := 1) rfl) eva_nil))) (fun near4 => (sd_asgN (i := 3) (evn_cb cn_listL (eva_cons (ev_pL (ev_op opv_ixL (ev_var (i := 2) rfl) ev_int)) eva_nil)) (fun handed5 => (sd_asg (i := 4) (EvN.ev (evn_lend' (i := 3) rfl nol_House (evn_call (eva_cons (ev_var (i := 3) rfl) (eva_cons (ev_pI (ev_op opv_ixL (ev_var (i := 2) rfl) ev_int)) (eva_cons (ev_pI (ev_op opv_ixL (ev_var (i := 2) rfl) ev_int)) eva_nil)))))) (fun made6 => (sd_if (env1 := fun (b7 : Unit) => ([.pu (tyLs K tyI) p.1, .no, .pu (tyL (tyD K)) near4, .ow tyI handed5, .pu (tyL (tyHouse K)) made6] : TP.Env)) (evt_lend (i := 3) rfl (evt_or (evt_not (evt_B (ev_call (eva_cons (ev_var (i := 4) rfl) (eva_cons (ev_var (i := 2) rfl) eva_nil))))) (evt_not (evt_B (ev_call (eva_cons (ev_var (i := 3) rfl) (eva_cons (ev_pL (ev_op opv_ixL (ev_var (i := 2) rfl) ev_int)) eva_nil))))))) (sd_ret ev_bl) (sd_nx (wk_m [true, false, true, true, true] rfl)) (fun b7 => (sd_setItem (i := 3) rfl (ev_lend' (i := 3) rfl nol_I (ev_op opv_sub ev_int (ev_op opv_ixL (ev_var (i := 3) rfl) ev_int))) ev_int (fun handed8 => (sd_append (i := 3) rfl ev_int (fun y11 => (sd_if (env1 := fun (b12 : Unit) => ([.pu (tyLs K tyI) p.1, .no, .pu (tyL (tyD K)) near4, .no, .pu (tyL (tyHouse K)) made6] : TP.Env)) (evt_or (evt_not (evt_B (ev_call (eva_cons (ev_op opv_ixL (ev_var (i := 4) rfl) ev_int) (eva_cons (ev_var (i := 2) rfl) eva_nil))))) (evt_not (evt_B (ev_call (eva_cons (ev_pL (ev_op opv_ixL (ev_var (i := 2) rfl) ev_int)) (eva_cons (ev_pI (ev_op opv_ixL (ev_var (i := 2) rfl) ev_int)) (eva_cons (ev_pI (ev_op opv_ixL (ev_var (i := 2) rfl) ev_int)) eva_nil))))))) (sd_ret ev_bl) (sd_nx (wk_m [true, false, true, false, true] rfl)) (fun b12 => (sd_ret (ev_call (eva_cons (ev_op opv_ixL (ev_var (i := 4) rfl) ev_int) (eva_cons (ev_var (i := 2) rfl) (eva_cons (ev_call (eva_cons (ev_var (i := 0) rfl) (eva_cons ev_int eva_nil))) eva_nil)))))))))))))))))))))))))⟩⟩
end
end Q01
set_option maxHeartbeats 1000000
namespace Q01
open PySem L2 TP
theorem cell_ (s : List Int) (k : Int) (hk : 0 ≤ k) : ∃ v, m_law_cell s k = some v := by
  rw [e_law_cell]
  simp only [b_law_cell, aPair_some, bind_some', c2_some, mLen_, mLt_, mIf_some, thenF_nx, rtF_some, thenF_ite, outF_ite, outF_ret]
  by_cases h : k < (s.length : Int)
  · obtain ⟨x, e, _⟩ := atI_ (xs := s) ⟨hk, h⟩
    simp [h, e]
  · simp [h]
theorem draw_ (c k z : Int) (hk : 0 ≤ k ∧ k < 2 ^ 31) (hz : 0 < z ∧ z < 2 ^ 30) : ∃ v, m_law_draw c k z = some v ∧ 0 ≤ v ∧ v < z := by
  have fin : ∀ x : Int, ∃ v, mMod x z = some v ∧ 0 ≤ v ∧ v < z := fun x => ⟨x % z, mMod_ hz.1, Int.emod_nonneg _ (by omega), Int.emod_lt_of_pos _ hz.1⟩
  rw [e_law_draw]
  have e18 : mPow 10 18 = some (10 ^ 18) := by decide +kernel
  have tail : ∃ v, outF ((mMod (c + 7919 * k + 13) 2147483647).bind fun mixed8 => (c2 mMod ((aPair (c2 mMul (some mixed8) (some (mixed8 + 48271))) (some ())).bind mId) (some (2147483629 : Int))).bind fun mixed9 => (c2 mMod ((aPair (c2 mAdd (c2 mMul (some mixed9) (some (mixed9 + 69621))) (some (31 * k))) (some ())).bind mId) (some (2147483647 : Int))).bind fun mixed10 => (rtF (c2 mMod ((aPair (c2 mDiv (some mixed10) (some (9 : Int))) (some ())).bind mId) (some z)) : Option (Fl Int Unit))) = some v ∧ 0 ≤ v ∧ v < z := by
    have b1 := Int.emod_nonneg (c + 7919 * k + 13) (b := 2147483647) (by decide)
    have b2 := Int.emod_lt_of_pos (c + 7919 * k + 13) (b := 2147483647) (by decide)
    rw [mMod_ (by decide)]
    generalize (c + 7919 * k + 13) % 2147483647 = x at b1 b2
    have c1 := Int.emod_nonneg (x * (x + 48271)) (b := 2147483629) (by decide)
    have c2' := Int.emod_lt_of_pos (x * (x + 48271)) (b := 2147483629) (by decide)
    simp only [bind_some', c2_some, mMul_l (x := x) (y := x + 48271) ⟨by omega, by omega⟩, aPair_some, mId_, mMod_ (x := x * (x + 48271)) (y := 2147483629) (by decide)]
    generalize x * (x + 48271) % 2147483629 = y at c1 c2'
    simp only [c2_some, mMul_l (x := y) (y := y + 69621) ⟨by omega, by omega⟩, mAdd_, aPair_some, bind_some', mId_, mMod_ (x := y * (y + 69621) + 31 * k) (y := 2147483647) (by decide), mDiv_ (y := 9) (by decide), outF_rtF]
    exact fin _
  simp only [b_law_draw, aPair_some, bind_some', c2_some, mGe_, e18, mIf_some, mId_, thenF_ite, thenF_nx, mRng1_ (n := k) ⟨by omega, by omega⟩, mAdd_, mMul_l (x := 7919) (y := k) (by decide), mMul_l (x := 31) (y := k) (by decide)]
  by_cases hc : (10 : Int) ^ 18 ≤ c
  · rw [if_pos (by simpa using hc)]
    rw [forF_fold (fun (b : Int) (_ : Int) => b / 64) (fun x _ b => by rw [mDiv_ (by decide)]; rfl)]
    simp only [thenF_nx, mGt_, mIf_some, thenF_ite, bind_some', rtF, mMod_ (y := 64) (show (0 : Int) < 64 by decide), c2_some]
    split
    · obtain ⟨v, e, hv⟩ := fin ((List.foldl (fun b _ => b / 64) c (rngL 0 k.toNat)) % 64)
      refine ⟨v, ?_, hv⟩
      rw [e]; rfl
    · exact tail
  · rw [if_neg (by simpa using hc)]
    exact tail
theorem int_ (x : Int) : m_law_int x = some true := rfl
theorem ints_ {xs : List Int} (h : xs.length ≤ lim) : m_law_ints_UIUI xs xs = some true := by
  rw [e_law_ints_UIUI]
  simp only [b_law_ints_UIUI, aPair_some, bind_some', mCon_, c2_some, mNe_, mOr_some, mIf_some, mLen_, mRng1_n h]
  simp only [decide_true, Bool.not_true, Bool.or_self, Bool.false_eq_true, if_false, thenF_nx]
  rw [forF_pass ?h]
  case h =>
    intro x hx
    have hx := rngL_mem.mp hx
    rw [atI_get (xs := xs) (by omega) (by omega)]
    simp only [aPair_some, bind_some', pk1_, int_, mNot_some, c2_some, mNe_, mOr_some, mIf_some, decide_true, Bool.not_true, Bool.or_self, Bool.false_eq_true, if_false, thenF_nx]
  simp only [thenF_nx, rtF_some, outF_ret]
theorem intsL_ {xs : List Int} (h : xs.length ≤ lim) : m_law_ints_LILI xs xs = some true := by
  rw [e_law_ints_LILI]
  simp only [b_law_ints_LILI, aPair_some, bind_some', mCon_, c2_some, mNe_, mOr_some, mIf_some, mLen_, mRng1_n h]
  simp only [decide_true, Bool.not_true, Bool.or_self, Bool.false_eq_true, if_false, thenF_nx]
  rw [forF_pass ?h]
  case h =>
    intro x hx
    have hx := rngL_mem.mp hx
    rw [atI_get (xs := xs) (by omega) (by omega)]
    simp only [aPair_some, bind_some', pk1_, int_, mNot_some, c2_some, mNe_, mOr_some, mIf_some, decide_true, Bool.not_true, Bool.or_self, Bool.false_eq_true, if_false, thenF_nx]
  simp only [thenF_nx, rtF_some, outF_ret]
theorem cut_take {α : Type} (xs : List α) {k : Int} (h : 0 ≤ k) : cut xs none (some k) = xs.take k.toNat := by
  unfold cut
  have e0 : HT.sIx xs.length 0 none = 0 := rfl
  rw [e0]
  have e1 : HT.sIx xs.length xs.length (some k) = min k.toNat xs.length := by
    unfold HT.sIx
    simp
    omega
  rw [e1, List.drop_zero, Nat.sub_zero]
  rw [List.take_eq_take_iff]
  omega
def goodB (bs : List Int) (w m : Int) : Bool := decide (1 ≤ bs.length ∧ bs.length ≤ 5) && (bs.all (fun x => decide (1 ≤ x ∧ x ≤ 20)) && decide (0 ≤ w ∧ w ≤ 24 ∧ 0 ≤ m ∧ m ≤ 20))
theorem good_iff {bs : List Int} {w m : Int} : goodB bs w m = true ↔ (1 ≤ bs.length ∧ bs.length ≤ 5) ∧ (∀ x ∈ bs, 1 ≤ x ∧ x ≤ 20) ∧ 0 ≤ w ∧ w ≤ 24 ∧ 0 ≤ m ∧ m ≤ 20 := by
  unfold goodB
  rw [Bool.and_eq_true, Bool.and_eq_true, decide_eq_true_iff, decide_eq_true_iff, List.all_eq_true]
  exact ⟨fun ⟨a, b, c⟩ => ⟨a, fun x hx => of_decide_eq_true (b x hx), c⟩, fun ⟨a, b, c⟩ => ⟨a, fun x hx => decide_eq_true (b x hx), c⟩⟩
theorem within_ (c k lo hi : Int) (hk : 0 ≤ k ∧ k < 2 ^ 31) (h : lo ≤ hi) : ∃ v, m_law_within c k lo hi = some v := by
  obtain ⟨d, ed, d0, d1⟩ := draw_ c k 64 hk ⟨by decide, by decide⟩
  rw [e_law_within]
  simp only [b_law_within, aPair_some, bind_some', pk3_, ed, c2_some, mLt_, mIf_some, mSub_, mAdd_, mId_, mMod_ (x := d) (y := hi - lo + 1) (by omega), rtF_some]
  by_cases q1 : d < 10
  · rw [if_pos (by simpa using q1)]; exact ⟨_, rfl⟩
  · rw [if_neg (by simpa using q1)]
    simp only [thenF_nx]
    by_cases q2 : d < 20
    · rw [if_pos (by simpa using q2)]; exact ⟨_, rfl⟩
    · rw [if_neg (by simpa using q2)]; exact ⟨_, rfl⟩
theorem beyond_ (c k lo hi : Int) (hk : 0 ≤ k ∧ k < 2 ^ 31) : ∃ v, m_law_beyond c k lo hi = some v := by
  obtain ⟨d, ed, d0, d1⟩ := draw_ c k 6 hk ⟨by decide, by decide⟩
  rw [e_law_beyond]
  have hl : lmt (some [lo - 1, hi + 1, lo - 1, hi + 1, lo - 2, hi + 2]) = some [lo - 1, hi + 1, lo - 1, hi + 1, lo - 2, hi + 2] := rfl
  simp only [b_law_beyond, aPair_some, bind_some', pk3_, ed, c2_some, mSub_, mAdd_, lCons_some, hl, atI_get (xs := [lo - 1, hi + 1, lo - 1, hi + 1, lo - 2, hi + 2]) d0 (show d < 6 by omega), rtF_some, outF_ret]
  exact ⟨_, rfl⟩
theorem numbers_ (c : Int) : ∃ bs w m, m_law_numbers c = some [.l bs, .i w, .i m] ∧ bs.length ≤ 6 := by
  obtain ⟨d0, e0, a0, b0⟩ := draw_ c 0 5 ⟨by decide, by decide⟩ ⟨by decide, by decide⟩
  obtain ⟨fl, efl, f0, f1⟩ := draw_ c 1 10 ⟨by decide, by decide⟩ ⟨by decide, by decide⟩
  obtain ⟨d2, e2, a2, b2⟩ := draw_ c 0 2 ⟨by decide, by decide⟩ ⟨by decide, by decide⟩
  obtain ⟨d60, e60, a60, b60⟩ := draw_ c 10 60 ⟨by decide, by decide⟩ ⟨by decide, by decide⟩
  obtain ⟨w, ew⟩ := within_ c 8 0 24 ⟨by decide, by decide⟩ (by decide)
  obtain ⟨m, em⟩ := within_ c 9 0 20 ⟨by decide, by decide⟩ (by decide)
  obtain ⟨y11, e11⟩ := beyond_ c 11 1 20 ⟨by decide, by decide⟩
  obtain ⟨y12, e12⟩ := beyond_ c 12 0 24 ⟨by decide, by decide⟩
  obtain ⟨y13, e13⟩ := beyond_ c 13 0 20 ⟨by decide, by decide⟩
  have hl3 : ∀ a b c : Dyn, lmt (some [a, b, c]) = some [a, b, c] := fun _ _ _ => rfl
  rw [e_law_numbers]
  simp only [b_law_numbers, aPair_some, bind_some', pk3_, pk4_, e0, efl, e2, e60, ew, em, e11, e12, e13, c2_some, mAdd_, mMul_l (x := 6) (y := d2) (by decide), mEq_, mIf_some, mId_]
  have main : ∀ many : Int, 0 ≤ many → many ≤ 6 → (fl ≠ 4 → 1 ≤ many) → ∃ bs w' m', outF (((aPair (some many) (some ())).bind mRng1).bind (lcM (fun x5 => (some true)) (fun x5 => (m_law_within c (2 + x5) 1 20))) |>.bind fun bounds6 => (thenF (if (decide (fl = 0) || decide (fl = 3)) = true then ((mMod d60 many).bind fun place10 => (mSet bounds6 place10 y11).bind fun bounds11 => (some (Fl.nx bounds11))) else (some (Fl.nx bounds6))) (fun (b9 : (List Int)) => (thenF (if (decide (fl = 1) || decide (fl = 3)) = true then (some (Fl.nx y12)) else (some (Fl.nx w))) (fun (b14 : Int) => (thenF (if (decide (fl = 2) || decide (fl = 3)) = true then (some (Fl.nx y13)) else (some (Fl.nx m))) (fun (b16 : Int) => (rtF (some [Dyn.l b9, Dyn.i b14, Dyn.i b16]) : Option (Fl (List Dyn) Unit))))))))) = some [.l bs, .i w', .i m'] ∧ bs.length ≤ 6 := fun many h0 h6 h1 => by
    have hex : ∃ f : Int → Int, ∀ x ∈ rngL 0 many.toNat, m_law_within c (2 + x) 1 20 = some (f x) := by
      refine ⟨fun x => (m_law_within c (2 + x) 1 20).getD 0, fun x hx => ?_⟩
      have hx := rngL_mem.mp hx
      obtain ⟨v, ev⟩ := within_ c (2 + x) 1 20 ⟨by omega, by omega⟩ (by decide)
      show _ = some ((m_law_within c (2 + x) 1 20).getD 0)
      rw [ev]; rfl
    obtain ⟨f, hf⟩ := hex
    simp only [aPair_some, bind_some', mRng1_s h0 (show many ≤ 1000000 by omega)]
    rw [lcM_map f (by rw [rngL_len]; unfold lim; omega) hf]
    simp only [bind_some']
    have hlen : ((rngL 0 many.toNat).map f).length = many.toNat := by rw [List.length_map, rngL_len]
    generalize (rngL 0 many.toNat).map f = bs at hlen
    have t1 : ∀ bs : List Int, bs.length ≤ 6 → ∃ bs' w' m', outF (thenF (if (decide (fl = 1) || decide (fl = 3)) = true then (some (Fl.nx y12)) else (some (Fl.nx w))) (fun (b14 : Int) => (thenF (if (decide (fl = 2) || decide (fl = 3)) = true then (some (Fl.nx y13)) else (some (Fl.nx m))) (fun (b16 : Int) => (rtF (some [Dyn.l bs, Dyn.i b14, Dyn.i b16]) : Option (Fl (List Dyn) Unit)))))) = some [.l bs', .i w', .i m'] ∧ bs'.length ≤ 6 := fun bs hb => by
      split <;> simp only [thenF_nx] <;> split <;> exact ⟨bs, _, _, rfl, hb⟩
    by_cases q : fl = 0 ∨ fl = 3
    · rw [if_pos (by simpa using q)]
      have hm := h1 (by omega)
      rw [mMod_ (by omega)]
      have p0 := Int.emod_nonneg d60 (b := many) (by omega)
      have p1 := Int.emod_lt_of_pos d60 (b := many) (by omega)
      simp only [bind_some']
      rw [mSet_ ⟨p0, by omega⟩]
      simp only [bind_some', thenF_nx]
      exact t1 _ (by rw [List.length_set]; omega)
    · rw [if_neg (by simpa using q)]
      simp only [thenF_nx]
      exact t1 _ (by omega)
  by_cases q : fl = 4
  · rw [if_pos (by simpa using q)]
    have := main (6 * d2) (by omega) (by omega) (fun h => absurd q h)
    simp only [thenF_nx, lCons_some, hl3, aPair_some, bind_some', mOr_some, mIf_some] at this ⊢
    exact this
  · rw [if_neg (by simpa using q)]
    have := main (1 + d0) (by omega) (by omega) (fun _ => by omega)
    simp only [thenF_nx, lCons_some, hl3, aPair_some, bind_some', mOr_some, mIf_some] at this ⊢
    exact this
theorem keeps_ (bs : List Int) (w m : Int) : m_keeps_bounds bs w m = some (goodB bs w m) := by
  rw [e_keeps_bounds]
  unfold goodB
  simp only [b_keeps_bounds, aPair_some, bind_some', mLen_, mLe_, mAnd_some, mNot_some, mIf_some]
  by_cases h : 1 ≤ bs.length ∧ bs.length ≤ 5
  · rw [if_neg (by simp; omega), decide_eq_true h, Bool.true_and]
    simp only [thenF_nx]
    rw [forF_find (r := false) (fun x => !decide (1 ≤ x ∧ x ≤ 20)) ?h]
    case h =>
      intro x hx
      by_cases q : 1 ≤ x ∧ x ≤ 20
      · rw [if_neg (by simp; omega), if_neg (by simp; omega)]; rfl
      · rw [if_pos (by simp; omega), if_pos (by simp; omega)]; rfl
    have e : (bs.any fun x => !decide (1 ≤ x ∧ x ≤ 20)) = !bs.all (fun x => decide (1 ≤ x ∧ x ≤ 20)) := by rw [List.not_all_eq_any_not]
    rw [e]
    cases bs.all (fun x => decide (1 ≤ x ∧ x ≤ 20)) with
    | false => rfl
    | true =>
      simp only [Bool.not_true, Bool.false_eq_true, if_false, thenF_nx, rtF_some, outF_ret]
      congr 1
      rw [Bool.eq_iff_iff]
      simp
      omega
  · rw [if_pos (by simp; omega), decide_eq_false h]; rfl
theorem ix0 (a b c : Dyn) : atI [a, b, c] 0 = some a := rfl
theorem ix1 (a b c : Dyn) : atI [a, b, c] 1 = some b := rfl
theorem ix2 (a b c : Dyn) : atI [a, b, c] 2 = some c := rfl
theorem toL_ (x : List Int) : Dyn.toL (.l x) = some x := rfl
theorem toI_ (x : Int) : Dyn.toI (.i x) = some x := rfl
theorem toSl_ (x : List Int) : Dyn.toS (.l x) = some x := rfl
theorem toSu_ (x : List Int) : Dyn.toS (.u x) = some x := rfl
theorem good_ (bs : List Int) (w m : Int) : m_law_good [.l bs, .i w, .i m] = some (goodB bs w m) := by
  rw [e_law_good]
  unfold goodB
  simp only [b_law_good, c2_some, ix0, ix1, ix2, bind_some', toL_, toI_, aPair_some, mLen_, mLt_, mGt_, mLe_, mAnd_some]
  by_cases h : 1 ≤ bs.length ∧ bs.length ≤ 5
  · have hb : bs ≠ [] := fun z => by rw [z] at h; simp at h
    have e1 : decide ((bs.length : Int) < 1) = false := decide_eq_false (by omega)
    have e2 : decide ((5 : Int) < bs.length) = false := decide_eq_false (by omega)
    simp only [mMinL_eq hb, mMaxL_eq hb, c2_some, mLt_, mGt_, e1, e2, mOr_some, mIf_some, Bool.false_or]
    rw [decide_eq_true h, Bool.true_and]
    by_cases q : ∀ x ∈ bs, 1 ≤ x ∧ x ≤ 20
    · have a := q _ (minZ_mem hb)
      have b := q _ (maxZ_mem hb)
      rw [if_neg (by simp; omega)]
      have e : bs.all (fun x => decide (1 ≤ x ∧ x ≤ 20)) = true := List.all_eq_true.mpr fun x hx => decide_eq_true (q x hx)
      rw [e]
      simp only [thenF_nx, rtF_some, outF_ret]
      congr 1
      rw [Bool.eq_iff_iff]
      simp
      omega
    · have e : bs.all (fun x => decide (1 ≤ x ∧ x ≤ 20)) = false := by
        rw [← Bool.not_eq_true, List.all_eq_true]
        exact fun z => q fun x hx => of_decide_eq_true (z x hx)
      rw [if_pos ?hh, e]
      case hh =>
        refine Classical.byContradiction fun z => q fun x hx => ?_
        have a := minZ_le hx
        have b := le_maxZ hx
        simp at z
        omega
      rfl
  · rw [decide_eq_false h]
    by_cases q : (bs.length : Int) < 1
    · rw [decide_eq_true q]; rfl
    · have q2 : (5 : Int) < bs.length := by omega
      rw [decide_eq_false q, decide_eq_true q2]; rfl
theorem isHouse_ {bs : List Int} {w m : Int} (h : goodB bs w m = true) : m_law_is_house (bs, w, m, ()) [.l bs, .i w, .i m] = some true := by
  obtain ⟨hl, _⟩ := good_iff.mp h
  have hb : bs ≠ [] := fun z => by rw [z] at hl; simp at hl
  have hll : bs.length ≤ lim := by unfold lim; omega
  have l7 : ∀ a b c d e f g : Int, lmt (some [a, b, c, d, e, f, g]) = some [a, b, c, d, e, f, g] := fun _ _ _ _ _ _ _ => rfl
  have h7 : ∀ a b c d e f g : Int, m_law_ints_LILI [a, b, c, d, e, f, g] [a, b, c, d, e, f, g] = some true := fun _ _ _ _ _ _ _ => intsL_ (show 7 ≤ lim by decide)
  have p1 : m_House_cells (bs, w, m, ()) = some (bs.length : Int) := by rw [e_House_cells]; simp only [b_House_cells, bind_some', aPair_some, mLen_, rtF_some, outF_ret]
  have p2 : m_House_greatest (bs, w, m, ()) = some (maxZ bs) := by rw [e_House_greatest]; simp only [b_House_greatest, bind_some', aPair_some, mMaxL_eq hb, rtF_some, outF_ret]
  have p3 : m_House_least (bs, w, m, ()) = some (minZ bs) := by rw [e_House_least]; simp only [b_House_least, bind_some', aPair_some, mMinL_eq hb, rtF_some, outF_ret]
  have p4 : m_House_total (bs, w, m, ()) = some bs.sum := by rw [e_House_total]; simp only [b_House_total, bind_some', aPair_some, mSum_, rtF_some, outF_ret]
  have p5 : m_House_wide_bound (bs, w, m, ()) = some (min m (minZ bs)) := by rw [e_House_wide_bound]; simp only [b_House_wide_bound, bind_some', aPair_some, mMinL_eq hb, mMin2_, rtF_some, outF_ret]
  rw [e_law_is_house]
  simp only [b_law_is_house, c2_some, ix0, ix1, ix2, bind_some', toL_, toI_, aPair_some, mCon_, mId_, pk1_, pk2_, ints_ hll, mNot_some, mOr_some, mIf_some, Bool.not_true, Bool.or_self, Bool.false_eq_true, if_false, thenF_nx, p1, p2, p3, p4, p5, lCons_some, l7, mLen_, mMaxL_eq hb, mMinL_eq hb, mSum_, mMin2_, h7, rtF_some, outF_ret]
def badE : Er := ⟨"InvalidHouse", []⟩
def hsR (bs : List Int) (w m : Int) : Res OHouse := if goodB bs w m = true then .ok (bs, w, m, ()) else .er badE
def hsL (bs : List Int) (w m : Int) : List OHouse := if goodB bs w m = true then [(bs, w, m, ())] else []
theorem initL_ (bs : List Int) (w m : Int) : m_House_init_OHouseLIII bs w m = some (hsR bs w m) := by
  rw [e_House_init_OHouseLIII]
  unfold hsR
  simp only [b_House_init_OHouseLIII, aPair_some, bind_some', mId_, pk3_, keeps_, mNot_some, mIf_some]
  cases goodB bs w m <;> rfl
theorem initU_ (bs : List Int) (w m : Int) : m_House_init_OHouseUIII bs w m = some (hsR bs w m) := initL_ bs w m
theorem initD_ {d : Dyn} {bs : List Int} (w m : Int) (h : d.toS = some bs) : m_House_init_OHouseDDD d (.i w) (.i m) = some (hsR bs w m) := by
  rw [e_House_init_OHouseDDD]
  unfold hsR
  simp only [b_House_init_OHouseDDD, aPair_some, bind_some', mTupD_, h, toI_, pk3_, keeps_, mNot_some, mIf_some]
  cases goodB bs w m <;> rfl
theorem isM1 : isM [("InvalidHouse", true)] badE = true := rfl
theorem isT1 : isTab [("InvalidHouse", true)] (badE, (), ()) = some true := rfl
theorem isT2 : isTab [("InvalidHouse", false)] (badE, (), ()) = some false := rfl
theorem made_ (bs : List Int) (w m : Int) : m_law_made_LIII bs w m = some (hsL bs w m) := by
  rw [e_law_made_LIII]
  simp only [b_law_made_LIII, aPair_some, bind_some', pk3_, initL_]
  unfold hsR hsL
  cases goodB bs w m with
  | true => rfl
  | false => rfl
theorem madeU_ (bs : List Int) (w m : Int) : m_law_made_UIII bs w m = some (hsL bs w m) := made_ bs w m
theorem asDue_ (bs : List Int) (w m : Int) : m_law_as_due (hsL bs w m) [.l bs, .i w, .i m] = some true := by
  rw [e_law_as_due]
  simp only [b_law_as_due, aPair_some, bind_some', pk1_, good_, mNot_some, mIf_some]
  unfold hsL
  cases hg : goodB bs w m with
  | false => rfl
  | true =>
    have e0 : atI [((bs, w, m, ()) : OHouse)] 0 = some (bs, w, m, ()) := rfl
    simp only [if_true, Bool.not_true, Bool.false_eq_true, if_false, thenF_nx, mLen_, c2_some, mEq_, e0, aPair_some, bind_some', pk2_, isHouse_ hg, mAnd_some, rtF_some, outF_ret]
    rfl
theorem near_ (bs : List Int) (w m : Int) (h : bs.length ≤ 1000) : ∃ bs' w' m', m_law_near [.l bs, .i w, .i m] = some [.l bs', .i w', .i m'] ∧ goodB bs' w' m' = true := by
  have hl3 : ∀ a b c : Dyn, lmt (some [a, b, c]) = some [a, b, c] := fun _ _ _ => rfl
  rw [e_law_near]
  simp only [b_law_near, c2_some, ix0, ix1, ix2, bind_some', toL_, toI_, mPart_some, mCut_some, cut_take bs (show (0 : Int) ≤ 5 by decide)]
  rw [lcM_map (fun x : Int => min 20 (max 1 x)) (by rw [List.length_take]; unfold lim; omega) (fun x _ => by simp only [aPair_some, bind_some', mMax2_, mMin2_])]
  have hb : ((bs.take (5 : Int).toNat).map fun x : Int => min 20 (max 1 x)).length ≤ 5 := by rw [List.length_map, List.length_take]; exact Nat.min_le_left _ _
  have hx : ∀ x ∈ (bs.take (5 : Int).toNat).map (fun x : Int => min 20 (max 1 x)), 1 ≤ x ∧ x ≤ 20 := fun x hx => by
    obtain ⟨y, _, rfl⟩ := List.mem_map.mp hx
    omega
  generalize (bs.take (5 : Int).toNat).map (fun x : Int => min 20 (max 1 x)) = cs at hb hx
  simp only [bind_some', aPair_some, mLen_, c2_some, mEq_, mIf_some, lCons_some, lmt1, mMax2_, mMin2_, hl3, rtF_some]
  by_cases q : (cs.length : Int) = 0
  · rw [if_pos (by simpa using q)]
    exact ⟨[7], _, _, rfl, good_iff.mpr ⟨by decide, fun x hx => by rw [List.mem_singleton.mp hx]; decide, by omega, by omega, by omega, by omega⟩⟩
  · rw [if_neg (by simpa using q)]
    exact ⟨cs, _, _, rfl, good_iff.mpr ⟨⟨by omega, hb⟩, hx, by omega, by omega, by omega, by omega⟩⟩
def restC (house_ : OHouse) (near_ : List Dyn) (b22 : (List Dyn) × (List OHouse)) : Option (Fl Bool Unit) := ((c2 (fun xs i => atI xs i) (some b22.2) (some (0 : Int))).bind fun newer26 => (thenF (mIf (mNot ((aPair ((some newer26).bind fun x => (aPair (c2 (fun xs i => atI xs i) (some near_) (some (1 : Int))) (some ())).bind fun y => (fun p => (pk4 m_House_changed_OHouseNDN p).bind Res.val) (x, (), y.1, (), ())) (aPair (lmt (lCons (c2 (fun xs i => atI xs i) (some b22.1) (some (0 : Int))) (lCons (c2 (fun xs i => atI xs i) (some near_) (some (1 : Int))) (lCons (c2 (fun xs i => atI xs i) (some b22.1) (some (2 : Int))) (some []))))) (some ()))).bind (pk2 m_law_is_house))) (rtF (some false)) (some (.nx ()))) (fun (b27 : Unit) => (thenF (mIf (mNot ((aPair ((some newer26).bind fun x => (aPair (((aPair ((c2 (fun xs i => atI xs i) (some near_) (some (0 : Int))).bind Dyn.toL) (some ())).bind mId).bind fun x => some (Dyn.u x)) (some ())).bind fun y => (fun p => (pk4 m_House_changed_OHouseDNN p).bind Res.val) (x, y.1, (), (), ())) (aPair (lmt (lCons (c2 (fun xs i => atI xs i) (some near_) (some (0 : Int))) (lCons (c2 (fun xs i => atI xs i) (some b22.1) (some (1 : Int))) (lCons (c2 (fun xs i => atI xs i) (some b22.1) (some (2 : Int))) (some []))))) (some ()))).bind (pk2 m_law_is_house))) (rtF (some false)) (some (.nx ()))) (fun (b28 : Unit) => (rtF (mAnd ((aPair (some newer26) (aPair (some b22.1) (some ()))).bind (pk2 m_law_is_house)) ((aPair (some house_) (aPair (some near_) (some ()))).bind (pk2 m_law_is_house)))))))))
def restB (house_ : OHouse) (near_ : List Dyn) (form2 : Int) (b5 : (List Dyn) × (List Dyn)) : Option (Fl Bool Unit) := ((some ()).bind fun (handed15 : Unit) => (thenF (mIf (c2 mNotD (c2 (fun xs i => atI xs i) (some b5.1) (some (0 : Int))) (some ())) ((((aPair ((c2 (fun xs i => atI xs i) (some b5.1) (some (0 : Int))).bind Dyn.toL) (some ())).bind mId)).bind fun handed17 => (some (.nx (some handed17)))) (some (.nx (none : Option (List Int))))) (fun (b16 : Option (List Int)) => (((aPair (some house_) (aPair (some form2) (aPair (some (b16.elim Dyn.n Dyn.l)) (aPair (c2 (fun xs i => atI xs i) (some b5.1) (some (1 : Int))) (aPair (c2 (fun xs i => atI xs i) (some b5.1) (some (2 : Int))) (some ())))))).bind (pk5 m_law_changed)).bind fun made18 => (thenF (mIf (c2 mNotD (some (b16.elim Dyn.n Dyn.l)) (some ())) (thenF (mIf (mNot ((aPair b16 (aPair ((c2 (fun xs i => atI xs i) (some b5.1) (some (0 : Int))).bind Dyn.toL) (some ()))).bind (pk2 m_law_ints_LILI))) (rtF (some false)) (some (.nx ()))) (fun (b20 : Unit) => ((some (20 : Int)).bind fun (y30 : Int) => b16.bind fun ys => if ys.length ≤ lim then (some (.nx ())) else none))) (some (.nx ()))) (fun (b19 : Unit) => (thenF (mIf (mOr (mNot ((aPair (some made18) (aPair (some b5.2) (some ()))).bind (pk2 m_law_as_due))) (mNot ((aPair (some house_) (aPair (some near_) (some ()))).bind (pk2 m_law_is_house)))) (rtF (some false)) (some (.nx ()))) (fun (b21 : Unit) => (thenF (mIf (c2 mEq ((aPair (some made18) (some ())).bind mLen) (some (0 : Int))) (((aPair (some b5.2) (some ())).bind (pk1 m_law_near)).bind fun after23 => (((aPair (some house_) (aPair (some (7 : Int)) (aPair (((aPair ((c2 (fun xs i => atI xs i) (some after23) (some (0 : Int))).bind Dyn.toL) (some ())).bind mId).bind fun x => some (Dyn.u x)) (aPair (c2 (fun xs i => atI xs i) (some after23) (some (1 : Int))) (aPair (c2 (fun xs i => atI xs i) (some after23) (some (2 : Int))) (some ())))))).bind (pk5 m_law_changed)).bind fun made24 => (thenF (mIf (mNot ((aPair (some made24) (aPair (some after23) (some ()))).bind (pk2 m_law_as_due))) (rtF (some false)) (some (.nx ()))) (fun (b25 : Unit) => (some (.nx (after23, made24))))))) (some (.nx (b5.2, made18)))) (fun (b22 : (List Dyn) × (List OHouse)) => restC house_ near_ b22))))))))))
theorem b_law_change_eq (house_ : OHouse) (near_ : List Dyn) (cell_ : Int) : b_law_change house_ near_ cell_ = (((aPair (some cell_) (some ())).bind (pk1 m_law_numbers)).bind fun news1 => (((aPair (some cell_) (aPair (some (14 : Int)) (aPair (some (8 : Int)) (some ())))).bind (pk3 m_law_draw)).bind fun form2 => (((aPair (some (0 : Int)) (aPair (c2 mSub ((aPair (some cell_) (aPair (some (15 : Int)) (aPair (some (16 : Int)) (some ())))).bind (pk3 m_law_draw)) (some (8 : Int))) (some ()))).bind mMax2).bind fun blank3 => (((aPair (some near_) (some ())).bind mId).bind fun after4 => (((aPair (some (3 : Int)) (some ())).bind mRng1).bind fun xs7 => thenF (forF (fun (b5 : (List Dyn) × (List Dyn)) x6 => (thenF (mIf (mOr (c2 mEq ((aPair (some form2) (aPair (some x6) (some ()))).bind (pk2 m_law_bit)) (some (0 : Int))) (c2 mEq ((aPair (some blank3) (aPair (some x6) (some ()))).bind (pk2 m_law_bit)) (some (1 : Int)))) (((some ()).bind fun _ => some Dyn.n).bind fun y10 => (some x6).bind fun k11 => (mSet b5.1 k11 y10).bind fun news9 => (some (.nx (news9, b5.2)))) (((some x6).bind fun k => atI b5.1 k).bind fun y13 => (some x6).bind fun k14 => (mSet b5.2 k14 y13).bind fun after12 => (some (.nx (b5.1, after12))))) (fun (b8 : (List Dyn) × (List Dyn)) => (some (.nx (b8.1, b8.2)))))) xs7 (news1, after4)) (fun (b5 : (List Dyn) × (List Dyn)) => restB house_ near_ form2 b5)))))) := rfl
def pS (B : Dyn) (b0 : List Int) : Option (List Int) := if B.isN = true then some b0 else B.toS
def pI (W : Dyn) (w0 : Int) : Option Int := if W.isN = true then some w0 else W.toI
theorem pkS {B : Dyn} {b0 bs : List Int} (h : pS B b0 = some bs) : ∃ B', (if B.isN = true then some (Dyn.u b0) else some B) = some B' ∧ B'.toS = some bs := by
  unfold pS at h
  by_cases q : B.isN = true
  · rw [if_pos q] at h ⊢; exact ⟨_, rfl, h⟩
  · rw [if_neg q] at h ⊢; exact ⟨_, rfl, h⟩
theorem pkI {W : Dyn} {w0 w : Int} (h : pI W w0 = some w) : (if W.isN = true then some (Dyn.i w0) else some W) = some (.i w) := by
  unfold pI at h
  by_cases q : W.isN = true
  · rw [if_pos q] at h ⊢; cases h; rfl
  · rw [if_neg q] at h ⊢
    cases W <;> cases h
    rfl
theorem outR {x : Res OHouse} : outF ((some x : Option (Res OHouse)).bind fun r => (some (Fl.ret r) : Option (Fl (Res OHouse) Unit))) = some x := rfl
theorem c7 {b0 bs : List Int} {w0 m0 w m : Int} {B W M : Dyn} (hB : pS B b0 = some bs) (hW : pI W w0 = some w) (hM : pI M m0 = some m) : m_House_changed_OHouseDDD (b0, w0, m0, ()) B W M = some (hsR bs w m) := by
  obtain ⟨B', eB, sB⟩ := pkS hB
  rw [e_House_changed_OHouseDDD]
  simp only [b_House_changed_OHouseDDD, c2_some, mIsD_, mIf_some, bind_some', eB, pkI hW, pkI hM, aPair_some, pk3_, initD_ w m sB, outF_ret]
theorem c6 {b0 : List Int} {w0 m0 w m : Int} {W M : Dyn} (hW : pI W w0 = some w) (hM : pI M m0 = some m) : m_House_changed_OHouseNDD (b0, w0, m0, ()) () W M = some (hsR b0 w m) := by
  rw [e_House_changed_OHouseNDD]
  simp only [b_House_changed_OHouseNDD, c2_some, mIsD_, mIf_some, bind_some', if_true, pkI hW, pkI hM, aPair_some, pk3_, initD_ w m (toSu_ b0), outF_ret]
theorem c5 {b0 bs : List Int} {w0 m0 m : Int} {B M : Dyn} (hB : pS B b0 = some bs) (hM : pI M m0 = some m) : m_House_changed_OHouseDND (b0, w0, m0, ()) B () M = some (hsR bs w0 m) := by
  obtain ⟨B', eB, sB⟩ := pkS hB
  rw [e_House_changed_OHouseDND]
  simp only [b_House_changed_OHouseDND, c2_some, mIsD_, mIf_some, bind_some', if_true, eB, pkI hM, aPair_some, pk3_, initD_ w0 m sB, outF_ret]
theorem c4 {b0 : List Int} {w0 m0 m : Int} {M : Dyn} (hM : pI M m0 = some m) : m_House_changed_OHouseNND (b0, w0, m0, ()) () () M = some (hsR b0 w0 m) := by
  rw [e_House_changed_OHouseNND]
  simp only [b_House_changed_OHouseNND, c2_some, mIsD_, mIf_some, bind_some', if_true, pkI hM, aPair_some, pk3_, initD_ w0 m (toSu_ b0), outF_ret]
theorem c3 {b0 bs : List Int} {w0 m0 w : Int} {B W : Dyn} (hB : pS B b0 = some bs) (hW : pI W w0 = some w) : m_House_changed_OHouseDDN (b0, w0, m0, ()) B W () = some (hsR bs w m0) := by
  obtain ⟨B', eB, sB⟩ := pkS hB
  rw [e_House_changed_OHouseDDN]
  simp only [b_House_changed_OHouseDDN, c2_some, mIsD_, mIf_some, bind_some', if_true, eB, pkI hW, aPair_some, pk3_, initD_ w m0 sB, outF_ret]
theorem c2' {b0 : List Int} {w0 m0 w : Int} {W : Dyn} (hW : pI W w0 = some w) : m_House_changed_OHouseNDN (b0, w0, m0, ()) () W () = some (hsR b0 w m0) := by
  rw [e_House_changed_OHouseNDN]
  simp only [b_House_changed_OHouseNDN, c2_some, mIsD_, mIf_some, bind_some', if_true, pkI hW, aPair_some, pk3_, initD_ w m0 (toSu_ b0), outF_ret]
theorem c1 {b0 bs : List Int} {w0 m0 : Int} {B : Dyn} (hB : pS B b0 = some bs) : m_House_changed_OHouseDNN (b0, w0, m0, ()) B () () = some (hsR bs w0 m0) := by
  obtain ⟨B', eB, sB⟩ := pkS hB
  rw [e_House_changed_OHouseDNN]
  simp only [b_House_changed_OHouseDNN, c2_some, mIsD_, mIf_some, bind_some', if_true, eB, aPair_some, pk3_, initD_ w0 m0 sB, outF_ret]
theorem c0 {b0 : List Int} {w0 m0 : Int} : m_House_changed_OHouseNNN (b0, w0, m0, ()) () () () = some (hsR b0 w0 m0) := by
  rw [e_House_changed_OHouseNNN]
  simp only [b_House_changed_OHouseNNN, c2_some, mIf_some, bind_some', if_true, aPair_some, pk3_, initD_ w0 m0 (toSu_ b0), outF_ret]
theorem changed_ {b0 bs : List Int} {w0 m0 w m f : Int} {B W M : Dyn} (h0 : 0 ≤ f) (h8 : f < 8) (hB : (if f % 2 = 1 then pS B b0 else some b0) = some bs) (hW : (if f / 2 % 2 = 1 then pI W w0 else some w0) = some w) (hM : (if f / 4 % 2 = 1 then pI M m0 else some m0) = some m) : m_law_changed (b0, w0, m0, ()) f B W M = some (hsL bs w m) := by
  rw [e_law_changed]
  have fin : ∀ (bs : List Int) (w m : Int), hsR bs w m = hsR bs w m → True := fun _ _ _ _ => trivial
  obtain rfl | rfl | rfl | rfl | rfl | rfl | rfl | rfl : f = 0 ∨ f = 1 ∨ f = 2 ∨ f = 3 ∨ f = 4 ∨ f = 5 ∨ f = 6 ∨ f = 7 := by omega
  · cases hB; cases hW; cases hM
    simp only [b_law_changed, c2_some, mEq_, Int.reduceEq, decide_true, decide_false, mIf_some, Bool.false_eq_true, if_false, if_true, thenF_nx, bind_some', aPair_some, pk4_, c0]
    unfold hsR hsL; cases goodB b0 w0 m0 <;> rfl
  · cases hW; cases hM
    have hB : pS B b0 = some bs := hB
    simp only [b_law_changed, c2_some, mEq_, Int.reduceEq, decide_true, decide_false, mIf_some, Bool.false_eq_true, if_false, if_true, thenF_nx, bind_some', aPair_some, pk4_, c1 hB]
    unfold hsR hsL; cases goodB bs w0 m0 <;> rfl
  · cases hB; cases hM
    have hW : pI W w0 = some w := hW
    simp only [b_law_changed, c2_some, mEq_, Int.reduceEq, decide_true, decide_false, mIf_some, Bool.false_eq_true, if_false, if_true, thenF_nx, bind_some', aPair_some, pk4_, c2' hW]
    unfold hsR hsL; cases goodB b0 w m0 <;> rfl
  · cases hM
    have hB : pS B b0 = some bs := hB
    have hW : pI W w0 = some w := hW
    simp only [b_law_changed, c2_some, mEq_, Int.reduceEq, decide_true, decide_false, mIf_some, Bool.false_eq_true, if_false, if_true, thenF_nx, bind_some', aPair_some, pk4_, c3 hB hW]
    unfold hsR hsL; cases goodB bs w m0 <;> rfl
  · cases hB; cases hW
    have hM : pI M m0 = some m := hM
    simp only [b_law_changed, c2_some, mEq_, Int.reduceEq, decide_true, decide_false, mIf_some, Bool.false_eq_true, if_false, if_true, thenF_nx, bind_some', aPair_some, pk4_, c4 hM]
    unfold hsR hsL; cases goodB b0 w0 m <;> rfl
  · cases hW
    have hB : pS B b0 = some bs := hB
    have hM : pI M m0 = some m := hM
    simp only [b_law_changed, c2_some, mEq_, Int.reduceEq, decide_true, decide_false, mIf_some, Bool.false_eq_true, if_false, if_true, thenF_nx, bind_some', aPair_some, pk4_, c5 hB hM]
    unfold hsR hsL; cases goodB bs w0 m <;> rfl
  · cases hB
    have hW : pI W w0 = some w := hW
    have hM : pI M m0 = some m := hM
    simp only [b_law_changed, c2_some, mEq_, Int.reduceEq, decide_true, decide_false, mIf_some, Bool.false_eq_true, if_false, if_true, thenF_nx, bind_some', aPair_some, pk4_, c6 hW hM]
    unfold hsR hsL; cases goodB b0 w m <;> rfl
  · have hB : pS B b0 = some bs := hB
    have hW : pI W w0 = some w := hW
    have hM : pI M m0 = some m := hM
    simp only [b_law_changed, c2_some, mEq_, Int.reduceEq, decide_true, decide_false, mIf_some, Bool.false_eq_true, if_false, if_true, thenF_nx, bind_some', aPair_some, pk4_, c7 hB hW hM]
    unfold hsR hsL; cases goodB bs w m <;> rfl
theorem bit0 (n : Int) : m_law_bit n 0 = some (n % 2) := by
  have hl : lmt (some [(1 : Int), 2, 4]) = some [1, 2, 4] := rfl
  have e : atI [(1 : Int), 2, 4] 0 = some 1 := rfl
  rw [e_law_bit]
  simp only [b_law_bit, lCons_some, hl, c2_some, e, mDiv_ (x := n) (y := 1) (by decide), aPair_some, bind_some', mId_, mMod_ (y := 2) (by decide), rtF_some, outF_ret, Int.ediv_one]
theorem bit1 (n : Int) : m_law_bit n 1 = some (n / 2 % 2) := by
  have hl : lmt (some [(1 : Int), 2, 4]) = some [1, 2, 4] := rfl
  have e : atI [(1 : Int), 2, 4] 1 = some 2 := rfl
  rw [e_law_bit]
  simp only [b_law_bit, lCons_some, hl, c2_some, e, mDiv_ (x := n) (y := 2) (by decide), aPair_some, bind_some', mId_, mMod_ (y := 2) (by decide), rtF_some, outF_ret]
theorem bit2 (n : Int) : m_law_bit n 2 = some (n / 4 % 2) := by
  have hl : lmt (some [(1 : Int), 2, 4]) = some [1, 2, 4] := rfl
  have e : atI [(1 : Int), 2, 4] 2 = some 4 := rfl
  rw [e_law_bit]
  simp only [b_law_bit, lCons_some, hl, c2_some, e, mDiv_ (x := n) (y := 4) (by decide), aPair_some, bind_some', mId_, mMod_ (y := 2) (by decide), rtF_some, outF_ret]
theorem val_ok {x : OHouse} : (Res.ok x).val = some x := rfl
theorem hsR_ok {bs : List Int} {w m : Int} (h : goodB bs w m = true) : hsR bs w m = .ok (bs, w, m, ()) := by unfold hsR; rw [if_pos h]
theorem hsL_ok {bs : List Int} {w m : Int} (h : goodB bs w m = true) : hsL bs w m = [(bs, w, m, ())] := by unfold hsL; rw [if_pos h]
theorem restC_ {b0 b : List Int} {w0 m0 w m : Int} (h0 : goodB b0 w0 m0 = true) (h : goodB b w m = true) : outF (restC (b0, w0, m0, ()) [.l b0, .i w0, .i m0] ([.l b, .i w, .i m], [(b, w, m, ())])) = some true := by
  have g0 := good_iff.mp h0
  have g := good_iff.mp h
  have h1 : goodB b w0 m = true := good_iff.mpr ⟨g.1, g.2.1, g0.2.2.1, g0.2.2.2.1, g.2.2.2.2⟩
  have h2 : goodB b0 w m = true := good_iff.mpr ⟨g0.1, g0.2.1, g.2.2⟩
  have e0 : atI [((b, w, m, ()) : OHouse)] 0 = some (b, w, m, ()) := rfl
  have hl3 : ∀ a b c : Dyn, lmt (some [a, b, c]) = some [a, b, c] := fun _ _ _ => rfl
  have q1 : m_House_changed_OHouseNDN (b, w, m, ()) () (.i w0) () = some (hsR b w0 m) := c2' (W := .i w0) rfl
  have q2 : m_House_changed_OHouseDNN (b, w, m, ()) (.u b0) () () = some (hsR b0 w m) := c1 (B := .u b0) rfl
  unfold restC
  simp only [c2_some, e0, ix0, ix1, ix2, bind_some', aPair_some, pk4_, q1, hsR_ok h1, val_ok, lCons_some, hl3, pk2_, isHouse_ h1, mNot_some, mIf_some, Bool.not_true, Bool.false_eq_true, if_false, thenF_nx, toL_, mId_, q2, hsR_ok h2, isHouse_ h2, isHouse_ h, isHouse_ h0, mAnd_some, Bool.and_self, rtF_some, outF_ret]
def nA (c : Bool) (x : Dyn) : Dyn := if c = true then .n else x
def aA (c : Bool) (x y : Dyn) : Dyn := if c = true then y else x
theorem restB_ {b0 bn : List Int} {w0 m0 wn mn f : Int} {k0 k1 k2 : Bool} (h0 : goodB b0 w0 m0 = true) (hb : bn.length ≤ 6) (f0 : 0 ≤ f) (f8 : f < 8) (p0 : k0 = false → f % 2 = 1) (p1 : k1 = false → f / 2 % 2 = 1) (p2 : k2 = false → f / 4 % 2 = 1) :
    outF (restB (b0, w0, m0, ()) [.l b0, .i w0, .i m0] f ([nA k0 (.l bn), nA k1 (.i wn), nA k2 (.i mn)], [aA k0 (.l bn) (.l b0), aA k1 (.i wn) (.i w0), aA k2 (.i mn) (.i m0)])) = some true := by
  have hbl : bn.length ≤ lim := by unfold lim; omega
  let b := if k0 = true then b0 else bn
  let w := if k1 = true then w0 else wn
  let m := if k2 = true then m0 else mn
  have ea : [aA k0 (.l bn) (.l b0), aA k1 (.i wn) (.i w0), aA k2 (.i mn) (.i m0)] = [Dyn.l b, .i w, .i m] := by
    cases k0 <;> cases k1 <;> cases k2 <;> rfl
  have hbb : b.length ≤ 1000 := by
    have := (good_iff.mp h0).1
    show (if k0 = true then b0 else bn).length ≤ 1000
    cases k0
    · show bn.length ≤ 1000; omega
    · show b0.length ≤ 1000; omega
  have hB : (if f % 2 = 1 then pS (nA k0 (.l bn)) b0 else some b0) = some b := by
    cases k0
    · rw [if_pos (p0 rfl)]; rfl
    · split <;> rfl
  have hW : (if f / 2 % 2 = 1 then pI (nA k1 (.i wn)) w0 else some w0) = some w := by
    cases k1
    · rw [if_pos (p1 rfl)]; rfl
    · split <;> rfl
  have hM : (if f / 4 % 2 = 1 then pI (nA k2 (.i mn)) m0 else some m0) = some m := by
    cases k2
    · rw [if_pos (p2 rfl)]; rfl
    · split <;> rfl
  have hc := changed_ (b0 := b0) (w0 := w0) (m0 := m0) f0 f8 hB hW hM
  rw [ea]
  clear_value b w m
  have tail : ∀ B : Dyn, m_law_changed (b0, w0, m0, ()) f B (nA k1 (.i wn)) (nA k2 (.i mn)) = some (hsL b w m) → True := fun _ _ => trivial
  obtain ⟨b', w', m', en, hg'⟩ := near_ b w m hbb
  have hc7 := changed_ (b0 := b0) (w0 := w0) (m0 := m0) (f := 7) (B := .u b') (W := .i w') (M := .i m') (bs := b') (w := w') (m := m') (by decide) (by decide) rfl rfl rfl
  have il := intsL_ hbl
  unfold restB
  cases k0 with
  | true =>
    have hc : m_law_changed (b0, w0, m0, ()) f .n (nA k1 (.i wn)) (nA k2 (.i mn)) = some (hsL b w m) := hc
    have i0 : atI [nA true (.l bn), nA k1 (.i wn), nA k2 (.i mn)] 0 = some .n := rfl
    have i1 : atI [nA true (.l bn), nA k1 (.i wn), nA k2 (.i mn)] 1 = some (nA k1 (.i wn)) := rfl
    have i2 : atI [nA true (.l bn), nA k1 (.i wn), nA k2 (.i mn)] 2 = some (nA k2 (.i mn)) := rfl
    simp only [bind_some', c2_some, i0, i1, i2, mNotD_, Dyn.isN, mIf_some, Bool.not_true, Bool.false_eq_true, if_false, thenF_nx, Option.elim_none, aPair_some, pk5_, hc, pk2_, asDue_, isHouse_ h0, mNot_some, mOr_some, Bool.or_self, mLen_, mEq_]
    cases hg : goodB b w m with
    | true =>
      rw [hsL_ok hg, if_neg (by simp)]
      exact restC_ h0 hg
    | false =>
      have hz : hsL b w m = [] := by unfold hsL; rw [hg]; rfl
      rw [hz, if_pos (by simp)]
      simp only [pk1_, en, bind_some', ix0, ix1, ix2, toL_, aPair_some, mId_, pk5_, hc7, pk2_, asDue_, mNot_some, mIf_some, Bool.not_true, Bool.false_eq_true, if_false, thenF_nx]
      rw [hsL_ok hg']
      exact restC_ h0 hg'
  | false =>
    have hc : m_law_changed (b0, w0, m0, ()) f (.l bn) (nA k1 (.i wn)) (nA k2 (.i mn)) = some (hsL b w m) := hc
    have i0 : atI [nA false (.l bn), nA k1 (.i wn), nA k2 (.i mn)] 0 = some (.l bn) := rfl
    have i1 : atI [nA false (.l bn), nA k1 (.i wn), nA k2 (.i mn)] 1 = some (nA k1 (.i wn)) := rfl
    have i2 : atI [nA false (.l bn), nA k1 (.i wn), nA k2 (.i mn)] 2 = some (nA k2 (.i mn)) := rfl
    simp only [bind_some', c2_some, i0, i1, i2, mNotD_, Dyn.isN, mIf_some, Bool.not_false, if_true, toL_, mId_, thenF_nx, Option.elim_some, aPair_some, pk5_, hc, pk2_, il, asDue_, isHouse_ h0, mNot_some, Bool.not_true, Bool.false_eq_true, if_false, if_pos hbl, mOr_some, Bool.or_self, mLen_, mEq_]
    cases hg : goodB b w m with
    | true =>
      rw [hsL_ok hg, if_neg (by simp)]
      exact restC_ h0 hg
    | false =>
      have hz : hsL b w m = [] := by unfold hsL; rw [hg]; rfl
      rw [hz, if_pos (by simp)]
      simp only [pk1_, en, bind_some', ix0, ix1, ix2, toL_, aPair_some, mId_, pk5_, hc7, pk2_, asDue_, mNot_some, mIf_some, Bool.not_true, Bool.false_eq_true, if_false, thenF_nx]
      rw [hsL_ok hg']
      exact restC_ h0 hg'
theorem forF3 {γ δ ι : Type} {step : δ → ι → Option (Fl γ δ)} {a b c : ι} {s0 s1 s2 s3 : δ} (h1 : step s0 a = some (.nx s1)) (h2 : step s1 b = some (.nx s2)) (h3 : step s2 c = some (.nx s3)) : forF step [a, b, c] s0 = some (.nx s3) := by
  unfold forF; rw [h1, thenF_nx]
  unfold forF; rw [h2, thenF_nx]
  unfold forF; rw [h3]; rfl
theorem change_ {b0 : List Int} {w0 m0 : Int} (h0 : goodB b0 w0 m0 = true) (c : Int) : m_law_change (b0, w0, m0, ()) [.l b0, .i w0, .i m0] c = some true := by
  obtain ⟨bn, wn, mn, enum, hb⟩ := numbers_ c
  obtain ⟨f, ef, f0, f1⟩ := draw_ c 14 8 ⟨by decide, by decide⟩ ⟨by decide, by decide⟩
  obtain ⟨d, ed, d0, d1⟩ := draw_ c 15 16 ⟨by decide, by decide⟩ ⟨by decide, by decide⟩
  rw [e_law_change, b_law_change_eq]
  simp only [aPair_some, bind_some', pk1_, pk3_, enum, ef, ed, c2_some, mSub_, mMax2_, mId_]
  simp only [show mRng1 ((3 : Int), ()) = some [0, 1, 2] from rfl, bind_some']
  generalize max 0 (d - 8) = bl
  have S0 : ∀ (k : Bool) (n0 n1 n2 a0 a1 a2 : Dyn), (if k = true then (mSet [n0, n1, n2] 0 Dyn.n).bind fun z => (some (Fl.nx (z, [a0, a1, a2])) : Option (Fl Bool (List Dyn × List Dyn))) else (mSet [a0, a1, a2] 0 n0).bind fun z => some (Fl.nx ([n0, n1, n2], z))) = some (.nx ([nA k n0, n1, n2], [aA k n0 a0, a1, a2])) := fun k _ _ _ _ _ _ => by cases k <;> rfl
  have S1 : ∀ (k : Bool) (n0 n1 n2 a0 a1 a2 : Dyn), (if k = true then (mSet [n0, n1, n2] 1 Dyn.n).bind fun z => (some (Fl.nx (z, [a0, a1, a2])) : Option (Fl Bool (List Dyn × List Dyn))) else (mSet [a0, a1, a2] 1 n1).bind fun z => some (Fl.nx ([n0, n1, n2], z))) = some (.nx ([n0, nA k n1, n2], [a0, aA k n1 a1, a2])) := fun k _ _ _ _ _ _ => by cases k <;> rfl
  have S2 : ∀ (k : Bool) (n0 n1 n2 a0 a1 a2 : Dyn), (if k = true then (mSet [n0, n1, n2] 2 Dyn.n).bind fun z => (some (Fl.nx (z, [a0, a1, a2])) : Option (Fl Bool (List Dyn × List Dyn))) else (mSet [a0, a1, a2] 2 n2).bind fun z => some (Fl.nx ([n0, n1, n2], z))) = some (.nx ([n0, n1, nA k n2], [a0, a1, aA k n2 a2])) := fun k _ _ _ _ _ _ => by cases k <;> rfl
  rw [forF3 (s1 := ([nA (decide (f % 2 = 0) || decide (bl % 2 = 1)) (.l bn), .i wn, .i mn], [aA (decide (f % 2 = 0) || decide (bl % 2 = 1)) (.l bn) (.l b0), .i w0, .i m0])) (s2 := ([nA (decide (f % 2 = 0) || decide (bl % 2 = 1)) (.l bn), nA (decide (f / 2 % 2 = 0) || decide (bl / 2 % 2 = 1)) (.i wn), .i mn], [aA (decide (f % 2 = 0) || decide (bl % 2 = 1)) (.l bn) (.l b0), aA (decide (f / 2 % 2 = 0) || decide (bl / 2 % 2 = 1)) (.i wn) (.i w0), .i m0])) (s3 := ([nA (decide (f % 2 = 0) || decide (bl % 2 = 1)) (.l bn), nA (decide (f / 2 % 2 = 0) || decide (bl / 2 % 2 = 1)) (.i wn), nA (decide (f / 4 % 2 = 0) || decide (bl / 4 % 2 = 1)) (.i mn)], [aA (decide (f % 2 = 0) || decide (bl % 2 = 1)) (.l bn) (.l b0), aA (decide (f / 2 % 2 = 0) || decide (bl / 2 % 2 = 1)) (.i wn) (.i w0), aA (decide (f / 4 % 2 = 0) || decide (bl / 4 % 2 = 1)) (.i mn) (.i m0)])) ?h1 ?h2 ?h3]
  case h1 =>
    simp only [pk2_, bit0, bind_some', c2_some, mEq_, mOr_some, mIf_some, ix0]
    rw [S0]; rfl
  case h2 =>
    simp only [pk2_, bit1, bind_some', c2_some, mEq_, mOr_some, mIf_some, ix1]
    rw [S1]; rfl
  case h3 =>
    simp only [pk2_, bit2, bind_some', c2_some, mEq_, mOr_some, mIf_some, ix2]
    rw [S2]; rfl
  simp only [thenF_nx]
  refine restB_ h0 hb f0 f1 (fun h => ?_) (fun h => ?_) (fun h => ?_)
  · simp at h; omega
  · simp at h; omega
  · simp at h; omega
theorem defaults_ {b : List Int} {w m : Int} (h : goodB b w m = true) : m_law_defaults b w m = some true := by
  have g := good_iff.mp h
  have h1 : goodB b 8 20 = true := good_iff.mpr ⟨g.1, g.2.1, by decide, by decide, by decide, by decide⟩
  have h2 : goodB b w 20 = true := good_iff.mpr ⟨g.1, g.2.1, g.2.2.1, g.2.2.2.1, by decide, by decide⟩
  have h3 : goodB b 8 m = true := good_iff.mpr ⟨g.1, g.2.1, by decide, by decide, g.2.2.2.2⟩
  have hl3 : ∀ a b c : Dyn, lmt (some [a, b, c]) = some [a, b, c] := fun _ _ _ => rfl
  rw [e_law_defaults]
  simp only [b_law_defaults, aPair_some, bind_some', mId_, pk3_, initU_, initL_, hsR_ok h1, hsR_ok h2, hsR_ok h3, val_ok, lCons_some, hl3, pk2_, isHouse_ h1, isHouse_ h2, isHouse_ h3, mNot_some, mIf_some, Bool.not_true, Bool.false_eq_true, if_false, thenF_nx, rtF_some, outF_ret]
theorem law_ (s : List Int) : m_law s = some true := by
  obtain ⟨t0, et0⟩ := cell_ s 0 (by decide)
  obtain ⟨t1, et1⟩ := cell_ s 1 (by decide)
  obtain ⟨bs, w, m, en, hb⟩ := numbers_ t0
  obtain ⟨b', w', m', ener, hg⟩ := near_ bs w m (by omega)
  have gl := (good_iff.mp hg).1
  have hbl : b'.length ≤ lim := by unfold lim; omega
  have il := intsL_ hbl
  have eat : atI b' 0 = some (b'[(0 : Int).toNat]'(by show 0 < _; omega)) := atI_get (by decide) (by omega)
  have e0 : atI [((b', w', m', ()) : OHouse)] 0 = some (b', w', m', ()) := rfl
  rw [e_law]
  simp only [b_law, aPair_some, bind_some', pk1_, pk2_, pk3_, et0, et1, en, c2_some, ix0, ix1, ix2, toL_, toI_, mId_, made_, madeU_, asDue_, mNot_some, mIf_some, Bool.not_true, Bool.false_eq_true, if_false, thenF_nx, ener, il, mOr_some, Bool.or_self, eat, mSub_]
  generalize b'[(0 : Int).toNat]'(by show 0 < _; omega) = x
  rw [mSet_ ⟨by decide, by omega⟩]
  simp only [bind_some', aPair_some, pk2_, pk3_, List.length_set, if_pos hbl, hsL_ok hg, e0, isHouse_ hg, defaults_ hg, mNot_some, mOr_some, mIf_some, Bool.not_true, Bool.or_self, Bool.false_eq_true, if_false, thenF_nx, change_ hg, rtF_some, outF_ret]
theorem math (ns : List Int) (h : ns.length ≤ 63) : TP.pk1 m_law (ns, ()) = some true := law_ ns
end Q01
open PySem PySem.W PySem.Calls PyProof.Rows
theorem PySem.Challenge.cw_unmovedways_k01_house_numbers_holds : PySem.Challenge.rw_unmovedways_k01_house_numbers.Holds := by
  w_on; o_law
  refine HandSHeadRun.head_any (r := OpenLaw.row PySem.Challenge.rw_unmovedways_k01_house_numbers) (q := view (OpenLaw.row PySem.Challenge.rw_unmovedways_k01_house_numbers).prog [27]) (H := Q01.hk) (ob := Q01.ob) (M := 6000) (loose := Q01.loose) (d := HandSHeadRun.topDef (OpenLaw.row PySem.Challenge.rw_unmovedways_k01_house_numbers).prog 27) (kwd := []) Q01.ob_eq
    (by kernel_rfl) (fun s => by kernel_rfl) Q01.run (by kernel_rfl) (by kernel_rfl) (by kernel_rfl) (by rfl) (by first | assumption | decide +kernel) (by decide +kernel) ⟨rfl, rfl, rfl, rfl, rfl, by decide +kernel⟩ ?hw ?hc
  case hw => w_witness2
  case hc =>
    exact TP.law_end (l := PySem.Challenge.rw_unmovedways_k01_house_numbers) (k := 7) (n := 63) (x := "script") (qual := "law") (ft := Q01.ft) (fn := Q01.fn) (f := TP.pk1 Q01.m_law) (params := L2.defArgs Q01.s_law) (body := L2.defBody Q01.s_law) (scope := L2.defScope Q01.s_law) rfl (by decide) (by kernel_rfl) ⟨rfl, by decide, by decide⟩ (by kernel_rfl) (fun w h Y => Y)
      (fun _ _ _ _ _ _ us hl => match us, hl with | [_], _ => rfl) (fun T => ⟨T.glo 53, T.def_ 24 (d := Q01.d_law)⟩) (fun w K mg base T => Q01.ok_law T) (fun ns h => Q01.math ns h)
