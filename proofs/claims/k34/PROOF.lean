import PyProof.Rows.All
import Wide.All
import OpenK.AllK
import Wide.FinOn
import HandS.ForMost
import HandS.IsInst
import HandS.Wide
import HandS.More
import HandS.WideBits
import KE.GoesEnum
import HandS.TupAny
import KE.DataMinMax
import HandS.SortKw
import HandS.FStr
import HandS.Zip
import HandS.CallLocal
import PyProof.Rows.StrJoinMade
import PyProof.StrLaws
import PyProof.ReprRoads
import HandS.Rev
import HandS.Style
import HandS.Conv
import HandS.Flow
import PySem.Challenge.RW_burnish_k34_refine_keeps_true_pairs
set_option Elab.async false
set_option linter.all false
set_option maxRecDepth 100000
set_option maxHeartbeats 4000000
/-! A layer of values over the hand layer: data are trees, the heap is hidden. -/
namespace VL
open PySem L2

/-! ### data in a heap -/
def keyD : Key → PyData
  | .inl i => .int i
  | .inr x => .str x
mutual
inductive Rp (K : PySem.W.Frag) (H : Hp) : V → PyData → Prop
  | non : Rp K H .non .none
  | bl (b : Bool) : Rp K H (.bl b) (.bool b)
  | int (i : Int) : Rp K H (.int i) (.int i)
  | str (x : Str) : Rp K H (.str x) (.str x)
  | lst {a : Addr} {xs : List V} {ds : List PyData} : H a = some (.lst xs) → RpA K H xs ds → Rp K H (.ref a) (.list ds)
  | tup {a : Addr} {xs : List V} {ds : List PyData} : SqT K H a xs → RpA K H xs ds → Rp K H (.ref a) (.tuple ds)
  | dic {a : Addr} {kvs : List (Key × V)} {es : List (PyData × PyData)} : H a = some (.dK kvs) → RpD K H kvs es → Rp K H (.ref a) (.dict es)
inductive RpA (K : PySem.W.Frag) (H : Hp) : List V → List PyData → Prop
  | nil : RpA K H [] []
  | cons {v : V} {vs : List V} {d : PyData} {ds : List PyData} : Rp K H v d → RpA K H vs ds → RpA K H (v :: vs) (d :: ds)
inductive RpD (K : PySem.W.Frag) (H : Hp) : List (Key × V) → List (PyData × PyData) → Prop
  | nil : RpD K H [] []
  | cons {k : Key} {v : V} {kvs : List (Key × V)} {d : PyData} {es : List (PyData × PyData)} : Rp K H v d → RpD K H kvs es → RpD K H ((k, v) :: kvs) ((keyD k, d) :: es)
end
section
variable {K : PySem.W.Frag} {H H' : Hp}
theorem same_t {a : Addr} {xs : List V} (e : Same H H') (h : SqT K H a xs) : SqT K H' a xs := by
  rcases h with (h | ⟨o, h⟩) | h
  · exact .inl (.inl (e _ _ h))
  · exact .inl (.inr ⟨o, e _ _ h⟩)
  · exact .inr h
mutual
theorem Rp.mono (e : Same H H') : ∀ {v : V} {d : PyData}, Rp K H v d → Rp K H' v d
  | _, _, .non => .non
  | _, _, .bl b => .bl b
  | _, _, .int i => .int i
  | _, _, .str x => .str x
  | _, _, .lst h r => .lst (e _ _ h) (RpA.mono e r)
  | _, _, .tup h r => .tup (same_t e h) (RpA.mono e r)
  | _, _, .dic h r => .dic (e _ _ h) (RpD.mono e r)
theorem RpA.mono (e : Same H H') : ∀ {vs : List V} {ds : List PyData}, RpA K H vs ds → RpA K H' vs ds
  | _, _, .nil => .nil
  | _, _, .cons h r => .cons (Rp.mono e h) (RpA.mono e r)
theorem RpD.mono (e : Same H H') : ∀ {vs : List (Key × V)} {ds : List (PyData × PyData)}, RpD K H vs ds → RpD K H' vs ds
  | _, _, .nil => .nil
  | _, _, .cons h r => .cons (Rp.mono e h) (RpD.mono e r)
end
mutual
theorem Rp.dp : ∀ {v : V} {d : PyData}, Rp K H v d → d.canLay0 = true → Dp K H v d
  | _, _, .non, _ => .non
  | _, _, .bl b, _ => .bl b
  | _, _, .int i, _ => .int i
  | _, _, .str x, _ => .str x
  | _, _, .lst h r, c => .lst (SqL.of h) (RpA.dp r (by simpa [PyData.canLay0] using c))
  | _, _, .tup h r, c => .tup h (RpA.dp r (by simpa [PyData.canLay0] using c))
  | _, _, .dic h r, c => by simp [PyData.canLay0] at c
theorem RpA.dp : ∀ {vs : List V} {ds : List PyData}, RpA K H vs ds → PyData.canLayAll0 ds = true → DpAll K H vs ds
  | _, _, .nil, _ => .nil
  | _, _, .cons h r, c => by
    simp only [PyData.canLayAll0, Bool.and_eq_true] at c
    exact .cons (Rp.dp h c.1) (RpA.dp r c.2)
end
theorem RpA.length : ∀ {vs : List V} {ds : List PyData}, RpA K H vs ds → vs.length = ds.length
  | _, _, .nil => rfl
  | _, _, .cons _ r => by rw [List.length_cons, List.length_cons, RpA.length r]
theorem RpA.get : ∀ {vs : List V} {ds : List PyData} {i : Nat} {d : PyData}, RpA K H vs ds → ds[i]? = some d → ∃ v, vs[i]? = some v ∧ Rp K H v d
  | _, _, _, _, .nil, e => by simp at e
  | _, _, 0, _, .cons h _, e => by simp at e; subst e; exact ⟨_, rfl, h⟩
  | _, _, i + 1, _, .cons _ r, e => by
    obtain ⟨v, h1, h2⟩ := RpA.get (i := i) r (by simpa using e)
    exact ⟨v, by simpa using h1, h2⟩
theorem RpA.get' : ∀ {vs : List V} {ds : List PyData} {i : Nat} {v : V}, RpA K H vs ds → vs[i]? = some v → ∃ d, ds[i]? = some d ∧ Rp K H v d
  | _, _, _, _, .nil, e => by simp at e
  | _, _, 0, _, .cons h _, e => by simp at e; subst e; exact ⟨_, rfl, h⟩
  | _, _, i + 1, _, .cons _ r, e => by
    obtain ⟨v, h1, h2⟩ := RpA.get' (i := i) r (by simpa using e)
    exact ⟨v, by simpa using h1, h2⟩
theorem RpA.append : ∀ {vs us : List V} {ds es : List PyData}, RpA K H vs ds → RpA K H us es → RpA K H (vs ++ us) (ds ++ es)
  | _, _, _, _, .nil, r => r
  | _, _, _, _, .cons h r, s => .cons h (RpA.append r s)
theorem RpA.snoc {vs : List V} {ds : List PyData} {v : V} {d : PyData} (r : RpA K H vs ds) (h : Rp K H v d) : RpA K H (vs ++ [v]) (ds ++ [d]) := r.append (.cons h .nil)
theorem RpA.set {v : V} {d : PyData} (h : Rp K H v d) : ∀ {vs : List V} {ds : List PyData} (i : Nat), RpA K H vs ds → RpA K H (vs.set i v) (ds.set i d)
  | _, _, _, .nil => .nil
  | _, _, 0, .cons _ r => .cons h r
  | _, _, i + 1, .cons g r => .cons g (RpA.set h i r)
theorem RpA.take : ∀ {vs : List V} {ds : List PyData} (n : Nat), RpA K H vs ds → RpA K H (vs.take n) (ds.take n)
  | _, _, 0, _ => .nil
  | _, _, _ + 1, .nil => .nil
  | _, _, n + 1, .cons h r => .cons h (RpA.take n r)
theorem RpA.drop : ∀ {vs : List V} {ds : List PyData} (n : Nat), RpA K H vs ds → RpA K H (vs.drop n) (ds.drop n)
  | _, _, 0, r => r
  | _, _, _ + 1, .nil => .nil
  | _, _, n + 1, .cons _ r => RpA.drop n r
theorem RpA.ints : ∀ {vs : List V} {ns : List Int}, RpA K H vs (ns.map PyData.int) → vs = ns.map V.int
  | _, [], .nil => rfl
  | _, _ :: _, .cons (.int _) r => by rw [List.map_cons, RpA.ints r]
end

/-! ### the row of numbers that a law draws from -/
def DrawAt (H0 H : Hp) (p : Addr) : Prop := ∃ (c : Addr) (i v s : Int) (cells : List Int), H p = some (.lst [.ref c, .int i, .int v, .int s]) ∧ H0 c = some (.lst (cells.map V.int)) ∧ H0 p = none ∧
  (∀ x ∈ cells, 0 ≤ x) ∧ -1 ≤ i ∧ 0 ≤ v ∧ 0 ≤ s ∧ s < 2147483647

/-! ### slots -/
inductive R where
  | d (x : PyData) | own (a : Addr) (xs : List PyData) | drw | raw (v : V) | scr (ns : List Int)
inductive RX where
  | d (x : PyData) | own (xs : List PyData)
abbrev Dl := List (Option R)
structure Ctx where
  K : PySem.W.Frag
  ex : Option Addr
  He : Hp
  Hf : Hp
structure Wf (C : Ctx) (H0 H : Hp) : Prop where
  sub : Same H0 H
  kp : ∀ b o, C.ex ≠ some b → C.He b = some o → H b = some o
  fz : Same C.Hf H0
  nw : ∀ b o, H0 b = some o → C.Hf b = some o ∨ C.He b = none
  dr : ∀ p, C.ex = some p → DrawAt H0 H p
def RR (C : Ctx) (H0 H : Hp) (v : V) : R → Prop
  | .d x => Rp C.K H0 v x
  | .own a xs => v = .ref a ∧ H0 a = none ∧ C.He a = none ∧ C.ex ≠ some a ∧ ∃ vs, H a = some (.lst vs) ∧ RpA C.K H0 vs xs
  | .drw => ∃ p, C.ex = some p ∧ v = .ref p
  | .raw u => v = u
  | .scr ns => ∃ a, v = .ref a ∧ SqL C.K H0 a (ns.map V.int)
structure St (C : Ctx) (H0 H : Hp) (σ : L2.St) (δ : Dl) : Prop extends Wf C H0 H where
  len : σ.length = δ.length
  sl : ∀ (i : Nat) (r : R), δ[i]? = some (some r) → ∃ v, σ[i]? = some (some v) ∧ RR C H0 H v r
  sep : ∀ (i j : Nat) (a b : Addr) (xs ys : List PyData), i ≠ j → δ[i]? = some (some (.own a xs)) → δ[j]? = some (some (.own b ys)) → a ≠ b
/-- an expression's way -/
structure Go (C : Ctx) (H0 H H0' H' : Hp) : Prop where
  wf : Wf C H0' H'
  fz : Same H0 H0'
  kp : ∀ b o, C.ex ≠ some b → H b = some o → H' b = some o
  nw : ∀ b o, H0' b = some o → H0 b = some o ∨ H b = none
section
variable {C : Ctx} {H0 H H0' H' H0'' H'' : Hp} {σ : L2.St} {δ : Dl} {v : V} {x : PyData}
theorem Go.refl (w : Wf C H0 H) : Go C H0 H H0 H := ⟨w, Same.refl _, fun _ _ _ e => e, fun _ _ e => .inl e⟩
theorem Go.trans (a : Go C H0 H H0' H') (b : Go C H0' H' H0'' H'') : Go C H0 H H0'' H'' := by
  refine ⟨b.wf, a.fz.trans b.fz, fun c o n e => b.kp c o n (a.kp c o n e), fun c o e => ?_⟩
  rcases b.nw c o e with h | h
  · exact a.nw c o h
  · cases q : H c with
    | none => exact .inr rfl
    | some u =>
      by_cases n : C.ex = some c
      · obtain ⟨_, _, _, _, _, _, _, z, _⟩ := b.wf.dr c n
        rw [e] at z; cases z
      · have := a.kp c u n q
        rw [h] at this; cases this
theorem RR.go {r : R} (h : RR C H0 H v r) (g : Go C H0 H H0' H') : RR C H0' H' v r := by
  cases r with
  | d x => exact Rp.mono g.fz h
  | own a xs =>
    obtain ⟨e, h1, h2, h3, vs, h4, h5⟩ := h
    refine ⟨e, ?_, h2, h3, vs, g.kp a _ h3 h4, h5.mono g.fz⟩
    cases q : H0' a with
    | none => rfl
    | some o =>
      rcases g.nw a o q with z | z
      · rw [h1] at z; cases z
      · rw [h4] at z; cases z
  | drw => exact h
  | raw u => exact h
  | scr ns => obtain ⟨a, e, q⟩ := h; exact ⟨a, e, g.fz.seq q⟩
theorem St.go (s : St C H0 H σ δ) (g : Go C H0 H H0' H') : St C H0' H' σ δ where
  toWf := g.wf
  len := s.len
  sl := fun i r e => let ⟨v, e1, h⟩ := s.sl i r e; ⟨v, e1, h.go g⟩
  sep := s.sep
theorem St.set_d (s : St C H0 H σ δ) (i : Nat) (h : Rp C.K H0 v x) : St C H0 H (σ.set i (some v)) (δ.set i (some (.d x))) where
  toWf := s.toWf
  len := by rw [List.length_set, List.length_set, s.len]
  sl := fun j r e => by
    by_cases q : i = j
    · subst q
      rw [List.getElem?_set_self'] at e
      cases hd : δ[i]? with
      | none => rw [hd] at e; simp at e
      | some z =>
        rw [hd] at e
        simp at e
        subst e
        have : i < σ.length := by rw [s.len]; exact (List.getElem?_eq_some_iff.mp hd).1
        exact ⟨v, by rw [List.getElem?_set_self this], h⟩
    · rw [List.getElem?_set_ne q] at e
      obtain ⟨u, e1, h1⟩ := s.sl j r e
      exact ⟨u, by rw [List.getElem?_set_ne q]; exact e1, h1⟩
  sep := fun j k a b xs ys n e1 e2 => by
    have f : ∀ {j : Nat} {a : Addr} {xs : List PyData}, (δ.set i (some (R.d x)))[j]? = some (some (R.own a xs)) → δ[j]? = some (some (R.own a xs)) := fun {j a xs} e => by
      by_cases q : i = j
      · subst q
        rw [List.getElem?_set_self'] at e
        cases hd : δ[i]? with
        | none => rw [hd] at e; simp at e
        | some z => rw [hd] at e; simp at e
      · rw [List.getElem?_set_ne q] at e; exact e
    exact s.sep j k a b xs ys n (f e1) (f e2)
theorem St.none (s : St C H0 H σ δ) (i : Nat) : St C H0 H (σ.set i none) (δ.set i none) where
  toWf := s.toWf
  len := by rw [List.length_set, List.length_set, s.len]
  sl := fun j r e => by
    by_cases q : i = j
    · subst q
      rw [List.getElem?_set_self'] at e
      cases hd : δ[i]? with
      | none => rw [hd] at e; simp at e
      | some z => rw [hd] at e; simp at e
    · rw [List.getElem?_set_ne q] at e
      obtain ⟨u, e1, h1⟩ := s.sl j r e
      exact ⟨u, by rw [List.getElem?_set_ne q]; exact e1, h1⟩
  sep := fun j k a b xs ys n e1 e2 => by
    have f : ∀ {j : Nat} {a : Addr} {xs : List PyData}, (δ.set i (Option.none))[j]? = some (some (R.own a xs)) → δ[j]? = some (some (R.own a xs)) := fun {j a xs} e => by
      by_cases q : i = j
      · subst q
        rw [List.getElem?_set_self'] at e
        cases hd : δ[i]? with
        | none => rw [hd] at e; simp at e
        | some z => rw [hd] at e; simp at e
      · rw [List.getElem?_set_ne q] at e; exact e
    exact s.sep j k a b xs ys n (f e1) (f e2)
/-- a new owned list is given to a slot -/
theorem St.set_own {a : Addr} {vs : List V} {xs : List PyData} (s : St C H0 H σ δ) (i : Nat) (hf : ∀ (j : Nat) (b : Addr) (ys : List PyData), δ[j]? = some (some (R.own b ys)) → b ≠ a) (h1 : H0 a = Option.none) (h2 : C.He a = Option.none) (h3 : C.ex ≠ some a) (h4 : H a = some (.lst vs)) (h5 : RpA C.K H0 vs xs) :
    St C H0 H (σ.set i (some (.ref a))) (δ.set i (some (.own a xs))) where
  toWf := s.toWf
  len := by rw [List.length_set, List.length_set, s.len]
  sl := fun j r e => by
    by_cases q : i = j
    · subst q
      rw [List.getElem?_set_self'] at e
      cases hd : δ[i]? with
      | none => rw [hd] at e; simp at e
      | some z =>
        rw [hd] at e
        simp at e
        subst e
        have : i < σ.length := by rw [s.len]; exact (List.getElem?_eq_some_iff.mp hd).1
        exact ⟨.ref a, by rw [List.getElem?_set_self this], rfl, h1, h2, h3, vs, h4, h5⟩
    · rw [List.getElem?_set_ne q] at e
      obtain ⟨u, e1, h1⟩ := s.sl j r e
      exact ⟨u, by rw [List.getElem?_set_ne q]; exact e1, h1⟩
  sep := fun j k b c ys zs n e1 e2 => by
    have f : ∀ {j : Nat} {b : Addr} {ys : List PyData}, (δ.set i (some (R.own a xs)))[j]? = some (some (R.own b ys)) → (i = j ∧ b = a) ∨ (i ≠ j ∧ δ[j]? = some (some (R.own b ys))) := fun {j b ys} e => by
      by_cases q : i = j
      · subst q
        rw [List.getElem?_set_self'] at e
        cases hd : δ[i]? with
        | none => rw [hd] at e; simp at e
        | some z => rw [hd] at e; simp at e; exact .inl ⟨rfl, e.1.symm⟩
      · rw [List.getElem?_set_ne q] at e; exact .inr ⟨q, e⟩
    rcases f e1 with ⟨q1, z1⟩ | ⟨q1, z1⟩ <;> rcases f e2 with ⟨q2, z2⟩ | ⟨q2, z2⟩
    · exact absurd (q1.symm.trans q2) n
    · rw [z1]; exact (hf k c zs z2).symm
    · rw [z2]; exact hf j b ys z1
    · exact s.sep j k b c ys zs n z1 z2
/-- the owned list in slot i is written -/
theorem St.write {a : Addr} {vs : List V} {xs ys : List PyData} (s : St C H0 H σ δ) (i : Nat) (e : δ[i]? = some (some (.own a ys))) (h5 : RpA C.K H0 vs xs) : St C H0 (upd H a (.lst vs)) σ (δ.set i (some (.own a xs))) := by
  obtain ⟨v, e1, rfl, h1, h2, h3, us, h4, h6⟩ := s.sl i _ e
  refine ⟨⟨fun b o q => ?_, fun b o n q => ?_, s.fz, s.nw, fun p q => ?_⟩, by rw [List.length_set, s.len], fun j r q => ?_, fun j k b c zs ws n q1 q2 => ?_⟩
  · rw [upd_ne (fun z => by rw [z, h1] at q; cases q)]; exact s.sub b o q
  · rw [upd_ne (fun z => by rw [z, h2] at q; cases q)]; exact s.kp b o n q
  · obtain ⟨c, i', v', s', cells, g1, g2, g3⟩ := s.dr p q
    exact ⟨c, i', v', s', cells, by rw [upd_ne (fun z => h3 (by rw [← z]; exact q))]; exact g1, g2, g3⟩
  · by_cases z : i = j
    · subst z
      rw [List.getElem?_set_self'] at q
      rw [e] at q
      simp at q
      subst q
      exact ⟨_, e1, rfl, h1, h2, h3, vs, upd_same, h5⟩
    · rw [List.getElem?_set_ne z] at q
      obtain ⟨u, f1, f2⟩ := s.sl j r q
      refine ⟨u, f1, ?_⟩
      cases r with
      | d x => exact f2
      | own b zs =>
        obtain ⟨k1, k2, k3, k4, ws, k5, k6⟩ := f2
        exact ⟨k1, k2, k3, k4, ws, by rw [upd_ne (s.sep j i b a zs ys (fun z' => z z'.symm) q e)]; exact k5, k6⟩
      | drw => exact f2
      | raw u => exact f2
      | scr ns => exact f2
  · have f : ∀ {j : Nat} {b : Addr} {zs : List PyData}, (δ.set i (some (R.own a xs)))[j]? = some (some (R.own b zs)) → ∃ zs', δ[j]? = some (some (R.own b zs')) := fun {j b zs} e' => by
      by_cases q : i = j
      · subst q
        rw [List.getElem?_set_self', e] at e'
        simp at e'
        exact ⟨ys, by rw [e, e'.1]⟩
      · rw [List.getElem?_set_ne q] at e'; exact ⟨zs, e'⟩
    obtain ⟨z1, w1⟩ := f q1
    obtain ⟨z2, w2⟩ := f q2
    exact s.sep j k b c z1 z2 n w1 w2
/-- an owned list stands still from here on -/
theorem St.freeze {a : Addr} {xs : List PyData} (s : St C H0 H σ δ) (i : Nat) (e : δ[i]? = some (some (.own a xs))) : ∃ H0', Same H0 H0' ∧ St C H0' H σ (δ.set i (some (.d (.list xs)))) := by
  obtain ⟨v, e1, rfl, h1, h2, h3, us, h4, h6⟩ := s.sl i _ e
  have gr : Same H0 (upd H0 a (.lst us)) := fun b o q => by rw [upd_ne (fun z => by rw [z, h1] at q; cases q)]; exact q
  have w' : Wf C (upd H0 a (.lst us)) H := by
    refine ⟨fun b o q => ?_, s.kp, s.fz.trans gr, fun b o q => ?_, fun p q => ?_⟩
    · by_cases z : b = a
      · subst z; rw [upd_same] at q; cases q; exact h4
      · rw [upd_ne z] at q; exact s.sub b o q
    · by_cases z : b = a
      · subst z; exact .inr h2
      · rw [upd_ne z] at q; exact s.nw b o q
    · obtain ⟨c, i', v', s', cells, g1, g2, g3, g4⟩ := s.dr p q
      exact ⟨c, i', v', s', cells, g1, gr _ _ g2, by rw [upd_ne (fun z => h3 (by rw [← z]; exact q))]; exact g3, g4⟩
  refine ⟨_, gr, w', by rw [List.length_set, s.len], fun j r q => ?_, fun j k b c zs ws n q1 q2 => ?_⟩
  · by_cases z : i = j
    · subst z
      rw [List.getElem?_set_self', e] at q
      simp at q
      subst q
      exact ⟨_, e1, .lst upd_same (h6.mono gr)⟩
    · rw [List.getElem?_set_ne z] at q
      obtain ⟨u, f1, f2⟩ := s.sl j r q
      refine ⟨u, f1, ?_⟩
      cases r with
      | d x => exact Rp.mono gr f2
      | own b zs =>
        obtain ⟨k1, k2, k3, k4, ws, k5, k6⟩ := f2
        exact ⟨k1, by rw [upd_ne (s.sep j i b a zs xs (fun z' => z z'.symm) q e)]; exact k2, k3, k4, ws, k5, k6.mono gr⟩
      | drw => exact f2
      | raw u => exact f2
      | scr ns => obtain ⟨a', e', q'⟩ := f2; exact ⟨a', e', gr.seq q'⟩
  · have f : ∀ {j : Nat} {b : Addr} {zs : List PyData}, (δ.set i (some (R.d (.list xs))))[j]? = some (some (R.own b zs)) → δ[j]? = some (some (R.own b zs)) := fun {j b zs} e' => by
      by_cases q : i = j
      · subst q
        rw [List.getElem?_set_self', e] at e'
        simp at e'
      · rw [List.getElem?_set_ne q] at e'; exact e'
    exact s.sep j k b c zs ws n (f q1) (f q2)
end

/-! ### what a reading of the hand layer asks, by data -/
abbrev DE := Dl → (PyData → Prop) → Prop
abbrev DT := Dl → (Bool → Prop) → Prop
abbrev DA := Dl → (List PyData → Prop) → Prop
abbrev DR := Dl → (List R → Prop) → Prop
abbrev DO := Dl → (List PyData → Prop) → Prop
def hid (C : Ctx) (H : Hp) : Hp := fun b => if C.ex = some b then none else H b
def loc (C : Ctx) (f : Bool) (H0 H : Hp) : Hp := match f with
  | true => H0
  | false => hid C H
section
variable {C : Ctx} {H0 H H0' H' H0'' H'' : Hp} {σ : L2.St} {δ : Dl} {v : V} {x : PyData} {f g : Bool}
theorem hid_sub (C : Ctx) (H : Hp) : Same (hid C H) H := fun b o e => by
  unfold hid at e
  split at e
  · cases e
  · exact e
theorem hid_of {a : Addr} {o : HO} (h : H a = some o) (n : C.ex ≠ some a) : hid C H a = some o := by
  unfold hid
  rw [if_neg n]
  exact h
theorem Wf.hid (w : Wf C H0 H) : Same H0 (hid C H) := fun b o e => by
  refine hid_of (w.sub b o e) fun z => ?_
  obtain ⟨_, _, _, _, _, _, _, q, _⟩ := w.dr b z
  rw [e] at q; cases q
theorem Wf.loc (w : Wf C H0 H) : Same (loc C f H0 H) H := by
  cases f with
  | true => exact w.sub
  | false => exact hid_sub C H
theorem Wf.to (w : Wf C H0 H) : Same H0 (VL.loc C f H0 H) := by
  cases f with
  | true => exact Same.refl _
  | false => exact w.hid
theorem Go.loc (q : Go C H0 H H0' H') : Same (loc C f H0 H) (loc C f H0' H') := by
  cases f with
  | true => exact q.fz
  | false =>
    intro b o e
    show VL.hid C H' b = some o
    have e : VL.hid C H b = some o := e
    unfold VL.hid at e
    split at e
    · cases e
    · rename_i n
      exact hid_of (q.kp b o n e) n
/-- a new frozen object -/
theorem Go.new {p : Addr} {o : HO} (w : Wf C H0 H) (hp : H p = none) : Go C H0 H (upd H0 p o) (upd H p o) := by
  have h0 : H0 p = none := by
    cases q : H0 p with
    | none => rfl
    | some u => rw [w.sub p u q] at hp; cases hp
  have gr : Same H0 (upd H0 p o) := fun b u q => by rw [upd_ne (fun z => by rw [z, h0] at q; cases q)]; exact q
  refine ⟨⟨fun b u q => ?_, fun b u n q => ?_, w.fz.trans gr, fun b u q => ?_, fun c q => ?_⟩, gr, fun b u n q => ?_, fun b u q => ?_⟩
  · by_cases z : b = p
    · subst z; rw [upd_same] at q ⊢; exact q
    · rw [upd_ne z] at q ⊢; exact w.sub b u q
  · have e := w.kp b u n q
    rw [upd_ne (fun z => by rw [z, hp] at e; cases e)]; exact e
  · by_cases z : b = p
    · subst z
      cases hq : C.He b with
      | none => exact .inr rfl
      | some y =>
        by_cases n : C.ex = some b
        · obtain ⟨_, _, _, _, _, g1, _⟩ := w.dr b n
          rw [hp] at g1; cases g1
        · rw [w.kp b y n hq] at hp; cases hp
    · rw [upd_ne z] at q; exact w.nw b u q
  · obtain ⟨k, i', v', s', cells, g1, g2, g3, g4⟩ := w.dr c q
    have nc : c ≠ p := fun z => by rw [z, hp] at g1; cases g1
    exact ⟨k, i', v', s', cells, by rw [upd_ne nc]; exact g1, gr _ _ g2, by rw [upd_ne nc]; exact g3, g4⟩
  · rw [upd_ne (fun z => by rw [z, hp] at q; cases q)]; exact q
  · by_cases z : b = p
    · subst z; exact .inr hp
    · rw [upd_ne z] at q; exact .inl q
/-- a new object that is not frozen -/
theorem Go.free {p : Addr} {o : HO} (w : Wf C H0 H) (hp : H p = none) : Go C H0 H H0 (upd H p o) := by
  have h0 : H0 p = none := by
    cases q : H0 p with
    | none => rfl
    | some u => rw [w.sub p u q] at hp; cases hp
  refine ⟨⟨fun b u q => ?_, fun b u n q => ?_, w.fz, w.nw, fun c q => ?_⟩, Same.refl _, fun b u n q => ?_, fun b u q => .inl q⟩
  · rw [upd_ne (fun z => by rw [z, h0] at q; cases q)]; exact w.sub b u q
  · have e := w.kp b u n q
    rw [upd_ne (fun z => by rw [z, hp] at e; cases e)]; exact e
  · obtain ⟨k, i', v', s', cells, g1, g2, g3, g4⟩ := w.dr c q
    have nc : c ≠ p := fun z => by rw [z, hp] at g1; cases g1
    exact ⟨k, i', v', s', cells, by rw [upd_ne nc]; exact g1, g2, g3, g4⟩
  · rw [upd_ne (fun z => by rw [z, hp] at q; cases q)]; exact q

def Sm (C : Ctx) (f : Bool) (te : TE) (de : DE) : Prop := ∀ (σ : L2.St) (δ : Dl) (H0 H : Hp) (Φ : PyData → Prop) (Q : VK), St C H0 H σ δ → de δ Φ →
  (∀ H0' H' v x, Go C H0 H H0' H' → Rp C.K (loc C f H0' H') v x → Φ x → Q v H') → te σ H Q
def SmT (C : Ctx) (tt : TT) (dt : DT) : Prop := ∀ (σ : L2.St) (δ : Dl) (H0 H : Hp) (Φ : Bool → Prop) (Q : Bool → Hp → Prop), St C H0 H σ δ → dt δ Φ →
  (∀ H0' H' b, Go C H0 H H0' H' → Φ b → Q b H') → tt σ H Q
def SmA (C : Ctx) (f : Bool) (ta : TA) (da : DA) : Prop := ∀ (σ : L2.St) (δ : Dl) (H0 H : Hp) (Φ : List PyData → Prop) (Q : List V → Hp → Prop), St C H0 H σ δ → da δ Φ →
  (∀ H0' H' vs xs, Go C H0 H H0' H' → RpA C.K (loc C f H0' H') vs xs → Φ xs → Q vs H') → ta σ H Q
inductive RRs (C : Ctx) (H0 H : Hp) : List V → List R → Prop
  | nil : RRs C H0 H [] []
  | cons {v : V} {r : R} {vs : List V} {rs : List R} : RR C H0 H v r → RRs C H0 H vs rs → RRs C H0 H (v :: vs) (r :: rs)
theorem RRs.go : ∀ {vs : List V} {rs : List R}, RRs C H0 H vs rs → Go C H0 H H0' H' → RRs C H0' H' vs rs
  | _, _, .nil, _ => .nil
  | _, _, .cons h r, g => .cons (h.go g) (RRs.go r g)
theorem RRs.length : ∀ {vs : List V} {rs : List R}, RRs C H0 H vs rs → vs.length = rs.length
  | _, _, .nil => rfl
  | _, _, .cons _ r => by rw [List.length_cons, List.length_cons, RRs.length r]
def SmR (C : Ctx) (ta : TA) (da : DR) : Prop := ∀ (σ : L2.St) (δ : Dl) (H0 H : Hp) (Φ : List R → Prop) (Q : List V → Hp → Prop), St C H0 H σ δ → da δ Φ →
  (∀ H0' H' vs rs, Go C H0 H H0' H' → RRs C H0' H' vs rs → Φ rs → Q vs H') → ta σ H Q
/-- a new list, not frozen yet -/
def SmO (C : Ctx) (te : TE) (de : DO) : Prop := ∀ (σ : L2.St) (δ : Dl) (H0 H : Hp) (Φ : List PyData → Prop) (Q : VK), St C H0 H σ δ → de δ Φ →
  (∀ H0' H' a vs xs, Go C H0 H H0' H' → H a = none → H0' a = none → H' a = some (.lst vs) → RpA C.K H0' vs xs → Φ xs → Q (.ref a) H') → te σ H Q
theorem Go.he {a : Addr} (w : Wf C H0 H) (hp : H a = none) : C.He a = none ∧ C.ex ≠ some a := by
  have n : C.ex ≠ some a := fun z => by
    obtain ⟨_, _, _, _, _, g1, _⟩ := w.dr a z
    rw [hp] at g1; cases g1
  refine ⟨?_, n⟩
  cases hq : C.He a with
  | none => rfl
  | some y => rw [w.kp a y n hq] at hp; cases hp
/-- .. is frozen -/
theorem Go.frz {a : Addr} {vs : List V} (w : Wf C H0 H) (q : Go C H0 H H0' H') (hp : H a = none) (h0 : H0' a = none) (h : H' a = some (.lst vs)) : Go C H0 H (upd H0' a (.lst vs)) H' := by
  have gr : Same H0' (upd H0' a (.lst vs)) := fun b u e => by rw [upd_ne (fun z => by rw [z, h0] at e; cases e)]; exact e
  obtain ⟨he, n⟩ := Go.he w hp
  refine ⟨⟨fun b u e => ?_, q.wf.kp, q.wf.fz.trans gr, fun b u e => ?_, fun c e => ?_⟩, q.fz.trans gr, q.kp, fun b u e => ?_⟩
  · by_cases z : b = a
    · subst z; rw [upd_same] at e; cases e; exact h
    · rw [upd_ne z] at e; exact q.wf.sub b u e
  · by_cases z : b = a
    · subst z; exact .inr he
    · rw [upd_ne z] at e; exact q.wf.nw b u e
  · obtain ⟨k, i', v', s', cells, g1, g2, g3, g4⟩ := q.wf.dr c e
    exact ⟨k, i', v', s', cells, g1, gr _ _ g2, by rw [upd_ne (fun z => n (by rw [← z]; exact e))]; exact g3, g4⟩
  · by_cases z : b = a
    · subst z; exact .inr hp
    · rw [upd_ne z] at e; exact q.nw b u e

/-! ### expressions -/
variable {te ta tb tc : TE} {de da db dc : DE} {tt tu : TT} {dt du : DT} {tas : TA} {das : DA} {f1 f2 : Bool}
theorem Sm.fz (h : Sm C true te de) : Sm C f te de := fun σ δ H0 H Φ Q s w q => h σ δ H0 H Φ Q s w fun H0' H' v x g r p => q H0' H' v x g (r.mono g.wf.to) p
theorem SmA.fz (h : SmA C true tas das) : SmA C f tas das := fun σ δ H0 H Φ Q s w q => h σ δ H0 H Φ Q s w fun H0' H' v x g r p => q H0' H' v x g (r.mono g.wf.to) p
@[simp] def dVar (i : Nat) : DE := fun δ Φ => ∃ x, δ[i]? = some (some (.d x)) ∧ Φ x
theorem sm_var (i : Nat) : Sm C f (tVar i) (dVar i) := fun σ δ H0 H Φ Q s ⟨x, e, p⟩ q => by
  obtain ⟨v, e1, h⟩ := s.sl i _ e
  exact ⟨v, e1, q H0 H v x (.refl s.toWf) (Rp.mono s.toWf.to h) p⟩
/-- an owned list, looked at -/
@[simp] def dVarO (i : Nat) : DE := fun δ Φ => ∃ a xs, δ[i]? = some (some (.own a xs)) ∧ Φ (.list xs)
theorem sm_varO (i : Nat) : Sm C false (tVar i) (dVarO i) := fun σ δ H0 H Φ Q s ⟨a, xs, e, p⟩ q => by
  obtain ⟨v, e1, rfl, h1, h2, h3, vs, h4, h5⟩ := s.sl i _ e
  exact ⟨_, e1, q H0 H _ _ (.refl s.toWf) (.lst (hid_of h4 h3) (h5.mono s.toWf.hid)) p⟩
@[simp] def dC (x : PyData) : DE := fun _ Φ => Φ x
theorem sm_int (i : Int) : Sm C f (tC (.int i)) (dC (.int i)) := fun σ δ H0 H Φ Q s p q => q H0 H _ _ (.refl s.toWf) (.int i) p
theorem sm_bl (i : Bool) : Sm C f (tC (.bl i)) (dC (.bool i)) := fun σ δ H0 H Φ Q s p q => q H0 H _ _ (.refl s.toWf) (.bl i) p
theorem sm_str (i : Str) : Sm C f (tC (.str i)) (dC (.str i)) := fun σ δ H0 H Φ Q s p q => q H0 H _ _ (.refl s.toWf) (.str i) p
theorem sm_non : Sm C f (tC .non) (dC .none) := fun σ δ H0 H Φ Q s p q => q H0 H _ _ (.refl s.toWf) .non p
/-- an operation on two values whose answer is scalar and that leaves the heap -/
def OpD (C : Ctx) (r : R2) (g : PyData → PyData → (PyData → Prop) → Prop) : Prop := ∀ (H : Hp) (v u : V) (x y : PyData) (Φ : PyData → Prop) (Q : VK), Rp C.K H v x → Rp C.K H u y → g x y Φ → (∀ w z, (∀ H, Rp C.K H w z) → Φ z → Q w H) → r v u H Q
@[simp] def dOp (g : PyData → PyData → (PyData → Prop) → Prop) (da db : DE) : DE := fun δ Φ => da δ fun x => db δ fun y => g x y Φ
theorem sm_op {r : R2} {g : PyData → PyData → (PyData → Prop) → Prop} (hr : OpD C r g) (ha : Sm C f1 ta da) (hb : Sm C f2 tb db) : Sm C f (tOp r ta tb) (dOp g da db) := fun σ δ H0 H Φ Q s w q =>
  ha σ δ H0 H _ _ s w fun H01 H1 v x g1 r1 w1 => hb σ δ H01 H1 _ _ (s.go g1) w1 fun H02 H2 u y g2 r2 w2 =>
    hr H2 v u x y Φ Q ((r1.mono g2.loc).mono g2.wf.loc) (r2.mono g2.wf.loc) w2 fun w' z hz p => q H02 H2 w' z (g1.trans g2) (hz _) p
def isScalV : V → Option PyData
  | .non => some .none
  | .bl b => some (.bool b)
  | .int i => some (.int i)
  | .str s => some (.str s)
  | _ => none
theorem isScal_rp {K : PySem.W.Frag} {v : V} {x : PyData} (h : isScalV v = some x) (H : Hp) : Rp K H v x := by
  cases v <;> simp [isScalV] at h <;> subst h <;> constructor
@[simp] def gI0 (g : Int → Int → PyData) : PyData → PyData → (PyData → Prop) → Prop := fun x y Φ => ∃ i j, x = .int i ∧ y = .int j ∧ Φ (g i j)
@[simp] def gI (c : Int → Int → Prop) (g : Int → Int → PyData) : PyData → PyData → (PyData → Prop) → Prop := fun x y Φ => ∃ i j, x = .int i ∧ y = .int j ∧ c i j ∧ Φ (g i j)
theorem opd_I0 {g : Int → Int → V} {g' : Int → Int → PyData} (h : ∀ i j, isScalV (g i j) = some (g' i j)) : OpD C (rI0 g) (gI0 g') := fun H v u x y Φ Q rv ru ⟨i, j, e1, e2, p⟩ q => by
  subst e1 e2
  cases rv
  cases ru
  exact ⟨i, j, rfl, rfl, q _ _ (isScal_rp (h i j)) p⟩
theorem opd_I {c : Int → Int → Prop} {g : Int → Int → V} {g' : Int → Int → PyData} (h : ∀ i j, isScalV (g i j) = some (g' i j)) : OpD C (rI c g) (gI c g') := fun H v u x y Φ Q rv ru ⟨i, j, e1, e2, e3, p⟩ q => by
  subst e1 e2
  cases rv
  cases ru
  exact ⟨i, j, rfl, rfl, e3, q _ _ (isScal_rp (h i j)) p⟩
@[simp] def toV : PyData → Option V
  | .none => some .non
  | .bool b => some (.bl b)
  | .int i => some (.int i)
  | .str s => some (.str s)
  | _ => none
theorem toV_rp {K : PySem.W.Frag} {H : Hp} {v w : V} {x : PyData} (h : Rp K H v x) (e : toV x = some w) : v = w := by
  cases h <;> simp [toV] at e <;> subst e <;> rfl
@[simp] def gEq (neg : Bool) : PyData → PyData → (PyData → Prop) → Prop := fun x y Φ => ∃ v u, toV x = some v ∧ toV y = some u ∧ scal v u = true ∧ Φ (.bool (if neg then !decide (v = u) else decide (v = u)))
theorem opd_eq : OpD C rEq (gEq false) := fun H v u x y Φ Q rv ru ⟨v', u', e1, e2, e3, p⟩ q => by
  have a := toV_rp rv e1
  have b := toV_rp ru e2
  subst a b
  exact ⟨e3, q _ _ (fun _ => .bl _) p⟩
theorem opd_ne : OpD C rNe (gEq true) := fun H v u x y Φ Q rv ru ⟨v', u', e1, e2, e3, p⟩ q => by
  have a := toV_rp rv e1
  have b := toV_rp ru e2
  subst a b
  exact ⟨e3, q _ _ (fun _ => .bl _) p⟩
@[simp] def gEqD (neg : Bool) : PyData → PyData → (PyData → Prop) → Prop := fun x y Φ => SeqAt.shaped x = true ∧ SeqAt.shaped y = true ∧ Φ (.bool (if neg then !PyData.eqv x y else PyData.eqv x y))
theorem opd_eqD : OpD C (rEqD C.K) (gEqD false) := fun H v u x y Φ Q rv ru ⟨e1, e2, p⟩ q =>
  ⟨x, y, rv.dp (SeqAt.canLay_of_shaped e1), ru.dp (SeqAt.canLay_of_shaped e2), e1, e2, q _ _ (fun _ => .bl _) p⟩
theorem opd_neD : OpD C (rNeD C.K) (gEqD true) := fun H v u x y Φ Q rv ru ⟨e1, e2, p⟩ q =>
  ⟨x, y, rv.dp (SeqAt.canLay_of_shaped e1), ru.dp (SeqAt.canLay_of_shaped e2), e1, e2, q _ _ (fun _ => .bl _) p⟩
@[simp] def isN : PyData → Bool
  | .none => true
  | _ => false
@[simp] def gIsN (neg : Bool) : PyData → PyData → (PyData → Prop) → Prop := fun x y Φ => y = .none ∧ Φ (.bool (if neg then !isN x else isN x))
theorem isN_rp {K : PySem.W.Frag} {H : Hp} {v : V} {x : PyData} (h : Rp K H v x) : decide (v = .non) = isN x := by
  cases h <;> simp [isN]
theorem opd_isN : OpD C (fun x y H Q => y = .non ∧ Q (.bl (decide (x = .non))) H) (gIsN false) := fun H v u x y Φ Q rv ru ⟨e1, p⟩ q => by
  subst e1
  cases ru
  rw [isN_rp rv]
  exact ⟨rfl, q _ _ (fun _ => .bl _) p⟩
theorem opd_notN : OpD C (fun x y H Q => y = .non ∧ Q (.bl (!decide (x = .non))) H) (gIsN true) := fun H v u x y Φ Q rv ru ⟨e1, p⟩ q => by
  subst e1
  cases ru
  rw [isN_rp rv]
  exact ⟨rfl, q _ _ (fun _ => .bl _) p⟩
@[simp] def flatD : PyData → Bool
  | .none => true
  | .bool _ => true
  | .int _ => true
  | .str _ => true
  | _ => false
theorem flat_rp {K : PySem.W.Frag} {H : Hp} {v : V} {x : PyData} (h : Rp K H v x) : flatV v = flatD x := by
  cases h <;> rfl
theorem flats_rp {K : PySem.W.Frag} {H : Hp} : ∀ {vs : List V} {xs : List PyData}, RpA K H vs xs → vs.all flatV = xs.all flatD
  | _, _, .nil => rfl
  | _, _, .cons h r => by rw [List.all_cons, List.all_cons, flat_rp h, flats_rp r]
theorem eqV_rp {K : PySem.W.Frag} {H : Hp} {v u : V} {x y : PyData} (h : Rp K H v x) (k : Rp K H u y) (fx : flatD x = true) (fy : flatD y = true) : eqV v u = PyData.eqv x y := by
  cases h <;> cases k <;> simp [flatD] at fx fy <;> simp [eqV, PyData.eqv]
def inD (x : PyData) (xs : List PyData) : Bool := xs.any fun y => PyData.eqv y x
theorem inV_rp {K : PySem.W.Frag} {H : Hp} {v : V} {x : PyData} (h : Rp K H v x) (fx : flatD x = true) : ∀ {vs : List V} {xs : List PyData}, RpA K H vs xs → xs.all flatD = true → inV v vs = inD x xs
  | _, _, .nil, _ => rfl
  | _, _, .cons k r, e => by
    rw [List.all_cons, Bool.and_eq_true] at e
    have ih := inV_rp h fx r e.2
    unfold inV inD at *
    rw [List.any_cons, List.any_cons, eqV_rp k h e.1 fx, ih]
@[simp] def seqOf : PyData → Option (List PyData)
  | .list xs => some xs
  | .tuple xs => some xs
  | _ => none
@[simp] def gIn (neg : Bool) : PyData → PyData → (PyData → Prop) → Prop := fun x y Φ => ∃ xs, seqOf y = some xs ∧ flatD x = true ∧ xs.all flatD = true ∧ Φ (.bool (if neg then !inD x xs else inD x xs))
theorem opd_in (neg : Bool) : OpD C (rIn C.K neg) (gIn neg) := fun H v u x y Φ Q rv ru ⟨xs, e1, e2, e3, p⟩ q => by
  cases ru with
  | lst h r =>
    simp [seqOf] at e1
    subst e1
    exact ⟨_, _, rfl, .inl (SqL.of h), by rw [flat_rp rv, e2], by rw [flats_rp r, e3], by rw [inV_rp rv e2 r e3]; exact q _ _ (fun _ => .bl _) p⟩
  | tup h r =>
    simp [seqOf] at e1
    subst e1
    exact ⟨_, _, rfl, .inr h, by rw [flat_rp rv, e2], by rw [flats_rp r, e3], by rw [inV_rp rv e2 r e3]; exact q _ _ (fun _ => .bl _) p⟩
  | _ => simp [seqOf] at e1
/-- a text added to a text -/
def gCatS : PyData → PyData → (PyData → Prop) → Prop := fun x y Φ => ∃ a b, x = .str a ∧ y = .str b ∧ a.length + b.length ≤ sizeLine ∧ Φ (.str (a ++ b))
/-- an item -/
theorem atI_rp {K : PySem.W.Frag} {H : Hp} {vs : List V} {xs : List PyData} {i : Int} {y : PyData} (r : RpA K H vs xs) (e : atI xs i = some y) : ∃ v, atI vs i = some v ∧ Rp K H v y := by
  unfold atI at e ⊢
  rw [r.length]
  cases h : ixN xs.length i with
  | none => rw [h] at e; simp at e
  | some j =>
    rw [h] at e
    exact r.get e
@[simp] def gIx : PyData → PyData → (PyData → Prop) → Prop := fun x y Φ => ∃ i, y = .int i ∧ match x with
  | .list xs => ∃ z, atI xs i = some z ∧ Φ z
  | .tuple xs => ∃ z, atI xs i = some z ∧ Φ z
  | .str s => s.length ≤ sizeLine ∧ ∃ c, atI s.cps.toList i = some c ∧ Φ (.str ⟨#[c]⟩)
  | _ => False
theorem sm_ix (ha : Sm C f ta da) (hb : Sm C f2 tb db) : Sm C f (tOp (rIx C.K) ta tb) (dOp gIx da db) := fun σ δ H0 H Φ Q s w q =>
  ha σ δ H0 H _ _ s w fun H01 H1 v x g1 r1 w1 => hb σ δ H01 H1 _ _ (s.go g1) w1 fun H02 H2 u y g2 r2 w2 => by
    obtain ⟨i, rfl, w2⟩ := w2
    cases r2
    have r3 := r1.mono g2.loc
    cases r3 with
    | lst h r =>
      obtain ⟨z, e, p⟩ := w2
      obtain ⟨v, e1, rv⟩ := atI_rp r e
      exact .inl ⟨_, _, i, v, rfl, rfl, SqL.of (g2.wf.loc _ _ h), e1, q H02 H2 v z (g1.trans g2) rv p⟩
    | tup h r =>
      obtain ⟨z, e, p⟩ := w2
      obtain ⟨v, e1, rv⟩ := atI_rp r e
      exact .inr (.inl ⟨_, _, i, v, rfl, rfl, same_t g2.wf.loc h, e1, q H02 H2 v z (g1.trans g2) rv p⟩)
    | str t =>
      obtain ⟨e0, c, e, p⟩ := w2
      exact .inr (.inr ⟨t, i, c, rfl, rfl, e0, e, q H02 H2 _ _ (g1.trans g2) (.str _) p⟩)
    | _ => exact w2.elim
@[simp] def dUn (g : Int → PyData) (da : DE) : DE := fun δ Φ => da δ fun x => ∃ i, x = .int i ∧ Φ (g i)
theorem sm_un {g : Int → V} {g' : Int → PyData} (h : ∀ i, isScalV (g i) = some (g' i)) (ha : Sm C f1 ta da) : Sm C f (tUn (rU g) ta) (dUn g' da) := fun σ δ H0 H Φ Q s w q =>
  ha σ δ H0 H _ _ s w fun H01 H1 v x g1 r1 ⟨i, e, p⟩ => by
    subst e
    cases r1
    exact ⟨i, rfl, q H01 H1 _ _ g1 (isScal_rp (h i) _) p⟩

/-! ### argument lists, displays, calls -/
@[simp] def dNil : DA := fun _ Φ => Φ []
@[simp] def dCons (da : DE) (ds : DA) : DA := fun δ Φ => da δ fun x => ds δ fun xs => Φ (x :: xs)
theorem sma_nil : SmA C f tNil dNil := fun σ δ H0 H Φ Q s w q => q H0 H _ _ (.refl s.toWf) .nil w
theorem sma_cons (ha : Sm C f ta da) (hb : SmA C f tas das) : SmA C f (tCons ta tas) (dCons da das) := fun σ δ H0 H Φ Q s w q =>
  ha σ δ H0 H _ _ s w fun H01 H1 v x g1 r1 w1 => hb σ δ H01 H1 _ _ (s.go g1) w1 fun H02 H2 us ys g2 r2 w2 =>
    q H02 H2 _ _ (g1.trans g2) (.cons (r1.mono g2.loc) r2) w2
@[simp] def dTup (ds : DA) : DE := fun δ Φ => ds δ fun xs => xs.length ≤ sizeLine ∧ Φ (.tuple xs)
theorem Go.same_new {p : Addr} {o : HO} (h0 : H0 p = none) : Same H0 (upd H0 p o) := fun b u q => by rw [upd_ne (fun z => by rw [z, h0] at q; cases q)]; exact q
theorem Wf.none (w : Wf C H0 H) {p : Addr} (hp : H p = Option.none) : H0 p = Option.none := by
  cases q : H0 p with
  | none => rfl
  | some u => rw [w.sub p u q] at hp; cases hp
theorem sm_tup (ha : SmA C true tas das) : Sm C f (tTup tas) (dTup das) := fun σ δ H0 H Φ Q s w q =>
  ha σ δ H0 H _ _ s w fun H01 H1 vs xs g1 r1 ⟨e, p⟩ => ⟨by rw [r1.length]; exact e, fun l hl => by
    have g2 := Go.new (o := .tup vs) g1.wf hl
    refine q _ _ _ _ (g1.trans g2) ?_ p
    exact Rp.mono g2.wf.to (.tup (SqT.of upd_same) (r1.mono (Go.same_new (g1.wf.none hl))))⟩
@[simp] def oLst (ds : DA) : DO := fun δ Φ => ds δ fun xs => xs.length ≤ sizeLine ∧ Φ xs
theorem smo_lst (ha : SmA C true tas das) : SmO C (tLst tas) (oLst das) := fun σ δ H0 H Φ Q s w q =>
  ha σ δ H0 H _ _ s w fun H01 H1 vs xs g1 r1 ⟨e, p⟩ => ⟨by rw [r1.length]; exact e, fun l hl => by
    have g2 := Go.free (o := .lst vs) g1.wf hl
    refine q _ _ l vs xs (g1.trans g2) ?_ (g1.wf.none hl) upd_same r1 p
    cases z : H l with
    | none => rfl
    | some u =>
      by_cases n : C.ex = some l
      · obtain ⟨_, _, _, _, _, k1, _⟩ := g1.wf.dr l n
        rw [hl] at k1; cases k1
      · rw [g1.kp l u n z] at hl; cases hl⟩
/-- a new list as data -/
@[simp] def dO (o : DO) : DE := fun δ Φ => o δ fun xs => Φ (.list xs)
theorem SmO.sm {o : DO} (h : SmO C te o) : Sm C f te (dO o) := fun σ δ H0 H Φ Q s w q =>
  h σ δ H0 H _ _ s w fun H01 H1 a vs xs g1 e1 e2 e3 r p => by
    have g2 := Go.frz s.toWf g1 e1 e2 e3
    refine q _ _ _ _ g2 (Rp.mono g2.wf.to ?_) p
    exact .lst upd_same (r.mono (Go.same_new e2))
/-- a new list, its elements from others -/
@[simp] def oCat (da db : DE) : DO := fun δ Φ => da δ fun x => db δ fun y => ∃ xs ys, x = .list xs ∧ y = .list ys ∧ xs.length + ys.length ≤ sizeLine ∧ Φ (xs ++ ys)
theorem Go.fresh {p : Addr} (g : Go C H0 H H0' H') (hp : H' p = none) : H p = none := by
  cases z : H p with
  | none => rfl
  | some u =>
    by_cases n : C.ex = some p
    · obtain ⟨_, _, _, _, _, k1, _⟩ := g.wf.dr p n
      rw [hp] at k1; cases k1
    · rw [g.kp p u n z] at hp; cases hp
theorem smo_cat (ha : Sm C true ta da) (hb : Sm C true tb db) : SmO C (tOp rCat ta tb) (oCat da db) := fun σ δ H0 H Φ Q s w q =>
  ha σ δ H0 H _ _ s w fun H01 H1 v x g1 r1 w1 => hb σ δ H01 H1 _ _ (s.go g1) w1 fun H02 H2 u y g2 r2 ⟨xs, ys, e1, e2, e3, p⟩ => by
    subst e1 e2
    have r3 := r1.mono g2.fz
    cases r3 with
    | @lst a1 us1 _ h r =>
      cases r2 with
      | @lst a2 us2 _ h' r' =>
        refine ⟨_, _, _, _, rfl, rfl, g2.wf.sub _ _ h, g2.wf.sub _ _ h', by rw [r.length, r'.length]; exact e3, fun l hl => ?_⟩
        have g3 := Go.free (o := .lst (us1 ++ us2)) g2.wf hl
        exact q _ _ l _ _ ((g1.trans g2).trans g3) ((g1.trans g2).fresh hl) (g2.wf.none hl) upd_same (r.append r') p
@[simp] def oList (da : DE) : DO := fun δ Φ => da δ fun x => ∃ xs, seqOf x = some xs ∧ Φ xs
theorem smo_list (ha : Sm C true ta da) : SmO C (tCB (fun xs H Q => ∃ p ys, xs = [.ref p] ∧ (SqL C.K H p ys ∨ SqT C.K H p ys) ∧ ∀ l, H l = none → Q (.ref l) (upd H l (.lst ys))) (tCons ta tNil)) (oList da) := fun σ δ H0 H Φ Q s w q =>
  ha σ δ H0 H _ _ s w fun H01 H1 v x g1 r1 ⟨xs, e, p⟩ => by
    cases r1 with
    | lst h r =>
      simp [seqOf] at e
      subst e
      exact ⟨_, _, rfl, .inl (SqL.of (g1.wf.sub _ _ h)), fun l hl => q _ _ l _ _ (g1.trans (Go.free (o := .lst _) g1.wf hl)) (g1.fresh hl) (g1.wf.none hl) upd_same r p⟩
    | tup h r =>
      simp [seqOf] at e
      subst e
      exact ⟨_, _, rfl, .inr (same_t g1.wf.sub h), fun l hl => q _ _ l _ _ (g1.trans (Go.free (o := .lst _) g1.wf hl)) (g1.fresh hl) (g1.wf.none hl) upd_same r p⟩
    | _ => simp [seqOf] at e
/-- tuple(x) -/
@[simp] def dTuple (da : DE) : DE := fun δ Φ => da δ fun x => ∃ xs, seqOf x = some xs ∧ Φ (.tuple xs)
/-- the elements of a list that is looked at, kept in the frozen part -/
theorem sm_tuple (ha : Sm C true ta da) : Sm C f (tCB (fun xs H Q => ∃ p ys, xs = [.ref p] ∧ ((SqL C.K H p ys ∧ ∀ l, H l = none → Q (.ref l) (upd H l (.tup ys))) ∨ (SqT C.K H p ys ∧ Q (.ref p) H))) (tCons ta tNil)) (dTuple da) := fun σ δ H0 H Φ Q s w q =>
  ha σ δ H0 H _ _ s w fun H01 H1 v x g1 r1 ⟨xs, e, p⟩ => by
    cases r1 with
    | @lst a1 us1 _ h r =>
      simp [seqOf] at e
      subst e
      refine ⟨_, _, rfl, .inl ⟨SqL.of (g1.wf.sub _ _ h), fun l hl => ?_⟩⟩
      have g2 := Go.new (o := .tup us1) g1.wf hl
      exact q _ _ _ _ (g1.trans g2) (Rp.mono g2.wf.to (.tup (SqT.of upd_same) (r.mono (Go.same_new (g1.wf.none hl))))) p
    | tup h r =>
      simp [seqOf] at e
      subst e
      exact ⟨_, _, rfl, .inr ⟨same_t g1.wf.sub h, q _ _ _ _ g1 (Rp.mono g1.wf.to (.tup h r)) p⟩⟩
    | _ => simp [seqOf] at e
/-- a built-in on data, its answer scalar -/
def CbD (C : Ctx) (r : List V → Hp → VK → Prop) (g : List PyData → (PyData → Prop) → Prop) : Prop := ∀ (H : Hp) (vs : List V) (xs : List PyData) (Φ : PyData → Prop) (Q : VK), RpA C.K H vs xs → g xs Φ → (∀ w z, (∀ H, Rp C.K H w z) → Φ z → Q w H) → r vs H Q
@[simp] def dCB (g : List PyData → (PyData → Prop) → Prop) (ds : DA) : DE := fun δ Φ => ds δ fun xs => g xs Φ
theorem sm_cb {r : List V → Hp → VK → Prop} {g : List PyData → (PyData → Prop) → Prop} (hr : CbD C r g) (ha : SmA C f1 tas das) : Sm C f (tCB r tas) (dCB g das) := fun σ δ H0 H Φ Q s w q =>
  ha σ δ H0 H _ _ s w fun H01 H1 vs xs g1 r1 w1 => hr H1 vs xs Φ Q (r1.mono g1.wf.loc) w1 fun w' z hz p => q _ _ w' z g1 (hz _) p
@[simp] def gLen : List PyData → (PyData → Prop) → Prop := fun xs Φ => ∃ x, xs = [x] ∧ match x with
  | .list ys => Φ (.int ys.length)
  | .tuple ys => Φ (.int ys.length)
  | .str s => s.length ≤ sizeLine ∧ Φ (.int s.length)
  | _ => False
theorem cbd_len : CbD C (fun xs H Q => ∃ x n, xs = [x] ∧ LenV C.K x H n ∧ Q (.int n) H) gLen := fun H vs xs Φ Q r ⟨x, e, p⟩ q => by
  subst e
  cases r with
  | cons h n =>
    cases n
    cases h with
    | lst h r => exact ⟨_, _, rfl, .inl ⟨_, SqL.of h, rfl⟩, by rw [r.length]; exact q _ _ (fun _ => .int _) p⟩
    | tup h r => exact ⟨_, _, rfl, .inr ⟨_, h, rfl⟩, by rw [r.length]; exact q _ _ (fun _ => .int _) p⟩
    | str t => exact ⟨_, _, rfl, ⟨p.1, rfl⟩, q _ _ (fun _ => .int _) p.2⟩
    | _ => exact p.elim
@[simp] def gAbs : List PyData → (PyData → Prop) → Prop := fun xs Φ => ∃ i, xs = [.int i] ∧ Φ (.int (if i < 0 then -i else i))
theorem cbd_abs : CbD C (fun xs H Q => ∃ i, xs = [.int i] ∧ Q (.int (if i < 0 then -i else i)) H) gAbs := fun H vs xs Φ Q r ⟨i, e, p⟩ q => by
  subst e
  cases r with
  | cons h n => cases n; cases h; exact ⟨i, rfl, q _ _ (fun _ => .int _) p⟩
@[simp] def gMax : List PyData → (PyData → Prop) → Prop := fun xs Φ => ∃ i j, xs = [.int i, .int j] ∧ Φ (.int (if j > i then j else i))
theorem cbd_max : CbD C (fun xs H Q => ∃ i j, xs = [.int i, .int j] ∧ Q (.int (if j > i then j else i)) H) gMax := fun H vs xs Φ Q r ⟨i, j, e, p⟩ q => by
  subst e
  cases r with
  | cons h n => cases h; cases n with | cons h n => cases n; cases h; exact ⟨i, j, rfl, q _ _ (fun _ => .int _) p⟩
@[simp] def gMin : List PyData → (PyData → Prop) → Prop := fun xs Φ => ∃ i j, xs = [.int i, .int j] ∧ Φ (.int (if j < i then j else i))
theorem cbd_min : CbD C (fun xs H Q => ∃ i j, xs = [.int i, .int j] ∧ Q (.int (if j < i then j else i)) H) gMin := fun H vs xs Φ Q r ⟨i, j, e, p⟩ q => by
  subst e
  cases r with
  | cons h n => cases h; cases n with | cons h n => cases n; cases h; exact ⟨i, j, rfl, q _ _ (fun _ => .int _) p⟩
@[simp] def gInt : List PyData → (PyData → Prop) → Prop := fun xs Φ => ∃ x, xs = [x] ∧ match x with
  | .int i => Φ (.int i)
  | .bool k => Φ (.int (if k then 1 else 0))
  | _ => False
theorem cbd_int : CbD C (fun xs H Q => (∃ i, xs = [.int i] ∧ Q (.int i) H) ∨ ∃ k, xs = [.bl k] ∧ Q (.int (if k then 1 else 0)) H) gInt := fun H vs xs Φ Q r ⟨x, e, p⟩ q => by
  subst e
  cases r with
  | cons h n =>
    cases n
    cases h with
    | int i => exact .inl ⟨i, rfl, q _ _ (fun _ => .int _) p⟩
    | bl k => exact .inr ⟨k, rfl, q _ _ (fun _ => .int _) p⟩
    | _ => exact p.elim
@[simp] def gStr : List PyData → (PyData → Prop) → Prop := fun xs Φ => ∃ i, xs = [.int i] ∧ i.natAbs.log2 < 1920 ∧ Φ (.str (toString i))
theorem cbd_str : CbD C (fun xs H Q => ∃ i, xs = [.int i] ∧ i.natAbs.log2 < 1920 ∧ Q (.str (toString i)) H) gStr := fun H vs xs Φ Q r ⟨i, e, e2, p⟩ q => by
  subst e
  cases r with
  | cons h n => cases n; cases h; exact ⟨i, rfl, e2, q _ _ (fun _ => .str _) p⟩
/-- isinstance of data -/
def tyD : PyData → String
  | .none => "NoneType"
  | .bool _ => "bool"
  | .int _ => "int"
  | .str _ => "str"
  | .list _ => "list"
  | .tuple _ => "tuple"
  | .dict _ => "dict"
@[simp] def dIsi (n : String) (da : DE) : DE := fun δ Φ => da δ fun x => ∃ b, kitB (tyD x) n = some b ∧ Φ (.bool b)
theorem tyD_rp {K : PySem.W.Frag} {v : V} {x : PyData} (h : Rp K H v x) : TyX K H v (.type (tyD x)) := by
  cases h with
  | non => exact .base .non
  | bl b => exact .base (.bl b)
  | int b => exact .base (.int b)
  | str b => exact .base (.str b)
  | lst h _ => exact .base (.lst h)
  | dic h _ => exact .base (.dK h)
  | tup h _ =>
    rcases h with (h | ⟨o, h⟩) | ⟨o, its, n, h, c, _⟩
    · exact .base (.tup h)
    · exact .fTuple h
    · exact .kTuple h c
theorem sm_isi (n : String) (ha : Sm C f1 ta da) : Sm C f (tCB (rIsi C.K) (tCons ta (tCons (tC (.ty n)) tNil))) (dIsi n da) := fun σ δ H0 H Φ Q s w q =>
  ha σ δ H0 H _ _ s w fun H01 H1 v x g1 r1 ⟨b, e, p⟩ =>
    ⟨v, .ty n, _, _, b, rfl, .ty n, tyD_rp (r1.mono g1.wf.loc), kit_ty e, q _ _ _ _ g1 (.bl b) p⟩

/-! ### values by tests -/
@[simp] def dIf (dt : DT) (da db : DE) : DE := fun δ Φ => dt δ fun b => if b = true then da δ Φ else db δ Φ
theorem sm_if (ht : SmT C tt dt) (ha : Sm C f ta da) (hb : Sm C f tb db) : Sm C f (tIf tt ta tb) (dIf dt da db) := fun σ δ H0 H Φ Q s w q =>
  ht σ δ H0 H _ _ s w fun H01 H1 b g1 w1 => by
    cases b with
    | true => exact iteT (ha σ δ H01 H1 Φ Q (s.go g1) (by simpa using w1) fun H02 H2 v x g2 r p => q _ _ _ _ (g1.trans g2) r p)
    | false => exact iteF (hb σ δ H01 H1 Φ Q (s.go g1) (by simpa using w1) fun H02 H2 v x g2 r p => q _ _ _ _ (g1.trans g2) r p)
@[simp] def dAndV (da db : DE) : DE := fun δ Φ => da δ fun x => ∃ c, x = .bool c ∧ if c = true then db δ Φ else Φ (.bool false)
theorem sm_and (ha : Sm C f1 ta da) (hb : Sm C f tb db) : Sm C f (tAndV ta tb) (dAndV da db) := fun σ δ H0 H Φ Q s w q =>
  ha σ δ H0 H _ _ s w fun H01 H1 v x g1 r1 ⟨c, e, w1⟩ => by
    subst e
    cases r1
    refine ⟨c, rfl, ?_⟩
    cases c with
    | true => exact iteT (hb σ δ H01 H1 Φ Q (s.go g1) (by simpa using w1) fun H02 H2 v x g2 r p => q _ _ _ _ (g1.trans g2) r p)
    | false => exact iteF (q _ _ _ _ g1 (.bl false) (by simpa using w1))
@[simp] def dOrV (da db : DE) : DE := fun δ Φ => da δ fun x => ∃ c, x = .bool c ∧ if c = true then Φ (.bool true) else db δ Φ
theorem sm_or (ha : Sm C f1 ta da) (hb : Sm C f tb db) : Sm C f (tOrV ta tb) (dOrV da db) := fun σ δ H0 H Φ Q s w q =>
  ha σ δ H0 H _ _ s w fun H01 H1 v x g1 r1 ⟨c, e, w1⟩ => by
    subst e
    cases r1
    refine ⟨c, rfl, ?_⟩
    cases c with
    | false => exact iteF (hb σ δ H01 H1 Φ Q (s.go g1) (by simpa using w1) fun H02 H2 v x g2 r p => q _ _ _ _ (g1.trans g2) r p)
    | true => exact iteT (q _ _ _ _ g1 (.bl true) (by simpa using w1))
@[simp] def dNotV (da : DE) : DE := fun δ Φ => da δ fun x => ∃ c, x = .bool c ∧ Φ (.bool (!c))
theorem sm_not (ha : Sm C f1 ta da) : Sm C f (tNotV ta) (dNotV da) := fun σ δ H0 H Φ Q s w q =>
  ha σ δ H0 H _ _ s w fun H01 H1 v x g1 r1 ⟨c, e, w1⟩ => by
    subst e
    cases r1
    exact ⟨c, rfl, q _ _ _ _ g1 (.bl _) w1⟩

/-! ### tests -/
@[simp] def dB (da : DE) : DT := fun δ Φ => da δ fun x => ∃ c, x = .bool c ∧ Φ c
theorem smt_b (ha : Sm C f1 ta da) : SmT C (tB ta) (dB da) := fun σ δ H0 H Φ Q s w q =>
  ha σ δ H0 H _ _ s w fun H01 H1 v x g1 r1 ⟨c, e, w1⟩ => by
    subst e
    cases r1
    exact ⟨c, rfl, q _ _ _ g1 w1⟩
theorem smt_t (ha : Sm C f1 ta da) : SmT C (tTest ta) (dB da) := fun σ δ H0 H Φ Q s w q =>
  ha σ δ H0 H _ _ s w fun H01 H1 v x g1 r1 ⟨c, e, w1⟩ => by
    subst e
    cases r1
    exact ⟨c, rfl, q _ _ _ g1 w1⟩
@[simp] def dAnd (dt du : DT) : DT := fun δ Φ => dt δ fun c => if c = true then du δ Φ else Φ false
theorem smt_and (ht : SmT C tt dt) (hu : SmT C tu du) : SmT C (tAnd tt tu) (dAnd dt du) := fun σ δ H0 H Φ Q s w q =>
  ht σ δ H0 H _ _ s w fun H01 H1 b g1 w1 => by
    cases b with
    | true => exact iteT (hu σ δ H01 H1 Φ Q (s.go g1) (by simpa using w1) fun H02 H2 c g2 p => q _ _ _ (g1.trans g2) p)
    | false => exact iteF (q _ _ _ g1 (by simpa using w1))
@[simp] def dOr (dt du : DT) : DT := fun δ Φ => dt δ fun c => if c = true then Φ true else du δ Φ
theorem smt_or (ht : SmT C tt dt) (hu : SmT C tu du) : SmT C (tOr tt tu) (dOr dt du) := fun σ δ H0 H Φ Q s w q =>
  ht σ δ H0 H _ _ s w fun H01 H1 b g1 w1 => by
    cases b with
    | false => exact iteF (hu σ δ H01 H1 Φ Q (s.go g1) (by simpa using w1) fun H02 H2 c g2 p => q _ _ _ (g1.trans g2) p)
    | true => exact iteT (q _ _ _ g1 (by simpa using w1))
@[simp] def dNot (dt : DT) : DT := fun δ Φ => dt δ fun c => Φ (!c)
theorem smt_not (ht : SmT C tt dt) : SmT C (tNot tt) (dNot dt) := fun σ δ H0 H Φ Q s w q =>
  ht σ δ H0 H _ _ s w fun H01 H1 b g1 w1 => q _ _ _ g1 w1
end
end VL

namespace VL
open PySem L2
section
variable {C : Ctx} {H0 H H0' H' H0'' H'' : Hp} {σ : L2.St} {δ : Dl} {v : V} {x : PyData} {f : Bool}
variable {te ta tb tc : TE} {de da db dc : DE} {tt tu : TT} {dt du : DT} {tas : TA} {das : DA} {f1 f2 : Bool}
/-! ### calls -/
def RRa (K : PySem.W.Frag) (ex : Option Addr) (H0 : Hp) (v : V) : R → Prop
  | .d x => Rp K H0 v x
  | .own _ _ => False
  | .drw => ∃ p, ex = some p ∧ v = .ref p
  | .raw u => v = u
  | .scr ns => ∃ a, v = .ref a ∧ SqL K H0 a (ns.map V.int)
theorem RRa.mono {K : PySem.W.Frag} {ex : Option Addr} {r : R} (h : RRa K ex H0 v r) (e : Same H0 H0') : RRa K ex H0' v r := by
  cases r with
  | d x => exact Rp.mono e h
  | own a xs => exact h
  | drw => exact h
  | raw u => exact h
  | scr ns => obtain ⟨a, e', q⟩ := h; exact ⟨a, e', e.seq q⟩
inductive RRas (K : PySem.W.Frag) (ex : Option Addr) (H0 : Hp) : List V → List R → Prop
  | nil : RRas K ex H0 [] []
  | cons {v : V} {r : R} {vs : List V} {rs : List R} : RRa K ex H0 v r → RRas K ex H0 vs rs → RRas K ex H0 (v :: vs) (r :: rs)
theorem RRas.length {K : PySem.W.Frag} {ex : Option Addr} : ∀ {vs : List V} {rs : List R}, RRas K ex H0 vs rs → vs.length = rs.length
  | _, _, .nil => rfl
  | _, _, .cons _ r => by rw [List.length_cons, List.length_cons, RRas.length r]
theorem RRas.get {K : PySem.W.Frag} {ex : Option Addr} : ∀ {vs : List V} {rs : List R} {i : Nat} {r : R}, RRas K ex H0 vs rs → rs[i]? = some r → ∃ v, vs[i]? = some v ∧ RRa K ex H0 v r
  | _, _, _, _, .nil, e => by simp at e
  | _, _, 0, _, .cons h _, e => by simp at e; subst e; exact ⟨_, rfl, h⟩
  | _, _, i + 1, _, .cons _ r, e => by
    obtain ⟨v, h1, h2⟩ := RRas.get (i := i) r (by simpa using e)
    exact ⟨v, by simpa using h1, h2⟩
def SmQ (C : Ctx) (ta : TA) (da : DR) : Prop := ∀ (σ : L2.St) (δ : Dl) (H0 H : Hp) (Φ : List R → Prop) (Q : List V → Hp → Prop), St C H0 H σ δ → da δ Φ →
  (∀ H0' H' vs rs, Go C H0 H H0' H' → RRas C.K C.ex H0' vs rs → Φ rs → Q vs H') → ta σ H Q
@[simp] def qNil : DR := fun _ Φ => Φ []
@[simp] def qCons (da : DE) (ds : DR) : DR := fun δ Φ => da δ fun x => ds δ fun xs => Φ (.d x :: xs)
@[simp] def qDrw (i : Nat) (ds : DR) : DR := fun δ Φ => δ[i]? = some (some .drw) ∧ ds δ fun xs => Φ (.drw :: xs)
variable {dqs : DR}
theorem smq_nil : SmQ C tNil qNil := fun σ δ H0 H Φ Q s w q => q H0 H _ _ (.refl s.toWf) .nil w
theorem smq_cons (ha : Sm C true ta da) (hb : SmQ C tas dqs) : SmQ C (tCons ta tas) (qCons da dqs) := fun σ δ H0 H Φ Q s w q =>
  ha σ δ H0 H _ _ s w fun H01 H1 v x g1 r1 w1 => hb σ δ H01 H1 _ _ (s.go g1) w1 fun H02 H2 us ys g2 r2 w2 =>
    q H02 H2 _ _ (g1.trans g2) (RRas.cons (r := R.d x) (Rp.mono g2.fz r1) r2) w2
theorem smq_drw (i : Nat) (hb : SmQ C tas dqs) : SmQ C (tCons (tVar i) tas) (qDrw i dqs) := fun σ δ H0 H Φ Q s ⟨e, w⟩ q => by
  obtain ⟨v, e1, p, h1, h2⟩ := s.sl i _ e
  exact ⟨v, e1, hb σ δ H0 H _ _ s w fun H02 H2 us ys g2 r2 w2 => q H02 H2 _ _ g2 (RRas.cons (r := R.drw) ⟨p, h1, h2⟩ r2) w2⟩

@[simp] def qScr (i : Nat) (ds : DR) : DR := fun δ Φ => ∃ ns, δ[i]? = some (some (.scr ns)) ∧ ds δ fun xs => Φ (.scr ns :: xs)
theorem smq_scr (i : Nat) (hb : SmQ C tas dqs) : SmQ C (tCons (tVar i) tas) (qScr i dqs) := fun σ δ H0 H Φ Q s ⟨ns, e, w⟩ q => by
  obtain ⟨v, e1, a, h1, h2⟩ := s.sl i _ e
  exact ⟨v, e1, hb σ δ H0 H _ _ s w fun H02 H2 us ys g2 r2 w2 => q H02 H2 _ _ g2 (RRas.cons (r := R.scr ns) ⟨a, h1, g2.fz.seq h2⟩ r2) w2⟩

/-- what a def answers, by data -/
abbrev VSp := List R → (RX → Prop) → Prop
def RXR (C : Ctx) (H0 H : Hp) (v : V) : RX → Prop
  | .d x => Rp C.K H0 v x
  | .own xs => ∃ a vs, v = .ref a ∧ H0 a = none ∧ C.He a = none ∧ C.ex ≠ some a ∧ H a = some (.lst vs) ∧ RpA C.K H0 vs xs
def RX.data : RX → PyData
  | .d x => x
  | .own xs => .list xs
@[simp] theorem data_d (x : PyData) : (RX.d x).data = x := rfl
@[simp] theorem data_own (xs : List PyData) : (RX.own xs).data = .list xs := rfl
def toSp (K : PySem.W.Frag) (n : Nat) (p : VSp) : Sp := fun vs H Q _ => vs.length = n ∧ ∃ (ex : Option Addr) (H0 : Hp) (rs : List R) (Φ : RX → Prop), Wf ⟨K, ex, H, H0⟩ H0 H ∧ RRas K ex H0 vs rs ∧ p rs Φ ∧
  ∀ H0' H' v r, Wf ⟨K, ex, H, H0⟩ H0' H' → RXR ⟨K, ex, H, H0⟩ H0' H' v r → Φ r → Q v H'
theorem Wf.inner (w : Wf C H0 H) : Wf ⟨C.K, C.ex, H, H0⟩ H0 H := ⟨w.sub, fun _ _ _ e => e, Same.refl _, fun _ _ e => .inl e, w.dr⟩
theorem Go.outer (w : Wf C H0 H) (g : Wf ⟨C.K, C.ex, H, H0⟩ H0' H') : Go C H0 H H0' H' := by
  refine ⟨⟨g.sub, fun b o n e => g.kp b o n (w.kp b o n e), w.fz.trans g.fz, fun b o e => ?_, g.dr⟩, g.fz, g.kp, fun b o e => ?_⟩
  · rcases g.nw b o e with z | z
    · exact w.nw b o z
    · cases q : C.He b with
      | none => exact .inr rfl
      | some y =>
        by_cases n : C.ex = some b
        · obtain ⟨_, _, _, _, _, _, _, k, _⟩ := g.dr b n
          rw [e] at k; cases k
        · have := w.kp b y n q
          have z : H b = none := z
          rw [this] at z; cases z
  · exact g.nw b o e
@[simp] def dCall (p : VSp) (ds : DR) : DE := fun δ Φ => ds δ fun rs => p rs fun r => Φ r.data
theorem sm_call {n : Nat} {p : VSp} {E : XK} (hp : ∀ rs Φ, p rs Φ → rs.length = n) (ha : SmQ C tas dqs) : Sm C f (tCall (toSp C.K n p) [] E tas) (dCall p dqs) := fun σ δ H0 H Φ Q s w q =>
  ha σ δ H0 H _ _ s w fun H01 H1 vs rs g1 r1 w1 => by
    show toSp C.K n p (vs ++ []) H1 Q E
    rw [List.append_nil]
    refine ⟨by rw [r1.length]; exact hp _ _ w1, C.ex, H01, rs, _, g1.wf.inner, r1, w1, fun H02 H2 v r g2 h2 p2 => ?_⟩
    have g3 := Go.outer g1.wf g2
    cases r with
    | d x => exact q _ _ _ _ (g1.trans g3) (Rp.mono g3.wf.to h2) p2
    | own xs =>
      obtain ⟨a, us, rfl, k1, k2, k3, k4, k5⟩ := h2
      have g4 := Go.frz s.toWf (g1.trans g3) (g1.fresh k2) k1 k4
      exact q _ _ _ _ g4 (Rp.mono g4.wf.to (.lst upd_same (k5.mono (Go.same_new k1)))) p2
@[simp] def oCall (p : VSp) (ds : DR) : DO := fun δ Φ => ds δ fun rs => p rs fun r => ∃ xs, r = .own xs ∧ Φ xs
theorem smo_call {n : Nat} {p : VSp} {E : XK} (hp : ∀ rs Φ, p rs Φ → rs.length = n) (ha : SmQ C tas dqs) : SmO C (tCall (toSp C.K n p) [] E tas) (oCall p dqs) := fun σ δ H0 H Φ Q s w q =>
  ha σ δ H0 H _ _ s w fun H01 H1 vs rs g1 r1 w1 => by
    show toSp C.K n p (vs ++ []) H1 Q E
    rw [List.append_nil]
    refine ⟨by rw [r1.length]; exact hp _ _ w1, C.ex, H01, rs, _, g1.wf.inner, r1, w1, fun H02 H2 v r g2 h2 p2 => ?_⟩
    have g3 := Go.outer g1.wf g2
    obtain ⟨xs, rfl, p2⟩ := p2
    obtain ⟨a, us, rfl, k1, k2, k3, k4, k5⟩ := h2
    exact q _ _ _ _ _ (g1.trans g3) (g1.fresh k2) k1 k4 k5 p2

/-! ### what is walked -/
structure Wk (C : Ctx) (J : It) (H0 : Hp) (xs : List PyData) : Prop where
  stop : ∀ (H0' H' : Hp) (i : Nat), Same H0 H0' → Wf C H0' H' → xs.length = i → J.stop i H'
  go : ∀ (H0' H' : Hp) (i : Nat), Same H0 H0' → Wf C H0' H' → i < xs.length → J.go i H'
  yld : ∀ (H0' H' : Hp) (i : Nat) (v : V) (H'' : Hp), Same H0 H0' → Wf C H0' H' → i < xs.length → J.yld i H' v H'' → ∃ H0'' y, Go C H0' H' H0'' H'' ∧ xs[i]? = some y ∧ Rp C.K H0'' v y
abbrev DI := Dl → (List PyData → Prop) → Prop
def SmI (C : Ctx) (ti : TI) (di : DI) : Prop := ∀ (σ : L2.St) (δ : Dl) (H0 H : Hp) (Φ : List PyData → Prop) (R : It → Hp → Prop), St C H0 H σ δ → di δ Φ →
  (∀ H0' H' J xs, Go C H0 H H0' H' → Wk C J H0' xs → Φ xs → R J H') → ti σ H R
theorem SqL.len_inj {K : PySem.W.Frag} {H : Hp} {a : Addr} {xs ys : List V} (h : H a = some (.lst xs)) (k : H a = some (.lst ys)) : xs = ys := by
  rw [h] at k; cases k; rfl
@[simp] def iL (da : DE) : DI := fun δ Φ => da δ fun x => ∃ xs, x = .list xs ∧ Φ xs
theorem get_lt {α : Type} {xs : List α} {i : Nat} (h : i < xs.length) : ∃ y, xs[i]? = some y := ⟨xs[i], List.getElem?_eq_getElem h⟩
theorem wk_list {a : Addr} {us : List V} {xs : List PyData} (h : H0 a = some (.lst us)) (r : RpA C.K H0 us xs) : Wk C (Itl C.K a) H0 xs := by
  refine ⟨fun H0' H' i e w hi0 => have hi := Nat.le_of_eq hi0; ⟨us, SqL.of (w.sub _ _ (e _ _ h)), by rw [r.length]; exact hi⟩, fun H0' H' i e w hi => ?_, fun H0' H' i v H'' e w hi y => ?_⟩
  · obtain ⟨y, hy⟩ := get_lt hi
    obtain ⟨v, h1, h2⟩ := r.get hy
    exact ⟨us, v, SqL.of (w.sub _ _ (e _ _ h)), h1⟩
  · obtain ⟨rfl, y⟩ := y
    obtain ⟨z, hz⟩ := get_lt hi
    obtain ⟨u, h1, h2⟩ := r.get hz
    have := y us (SqL.of (w.sub _ _ (e _ _ h)))
    rw [h1] at this
    cases this
    exact ⟨H0', z, .refl w, hz, h2.mono e⟩
theorem smi_list (ha : Sm C true ta da) : SmI C (iList C.K ta) (iL da) := fun σ δ H0 H Φ R s w q =>
  ha σ δ H0 H _ _ s w fun H01 H1 v x g1 r1 ⟨xs, e, p⟩ => by
    subst e
    cases r1 with
    | @lst a us _ h r => exact ⟨a, rfl, ⟨us, SqL.of (g1.wf.sub _ _ h)⟩, q _ _ _ _ g1 (wk_list h r) p⟩
/-- the script is walked -/
@[simp] def iScr (i : Nat) : DI := fun δ Φ => ∃ ns : List Int, δ[i]? = some (some (.scr ns)) ∧ Φ (ns.map .int)
theorem smi_scr (i : Nat) : SmI C (iList C.K (tVar i)) (iScr i) := fun σ δ H0 H Φ R s ⟨ns, e, w⟩ q => by
  obtain ⟨v, e1, a, rfl, hq⟩ := s.sl i _ e
  refine ⟨_, e1, a, rfl, ⟨_, s.toWf.sub.seq hq⟩, q H0 H _ _ (.refl s.toWf) ⟨fun H0' H' k e w hk => ?_, fun H0' H' k e w hk => ?_, fun H0' H' k v H'' e w hk y => ?_⟩ w⟩
  · exact ⟨_, w.sub.seq (e.seq hq), by simpa using Nat.le_of_eq hk⟩
  · rw [List.length_map] at hk
    exact ⟨_, .int ns[k], w.sub.seq (e.seq hq), by rw [List.getElem?_map, List.getElem?_eq_getElem hk]; rfl⟩
  · rw [List.length_map] at hk
    obtain ⟨rfl, y⟩ := y
    have := y _ (w.sub.seq (e.seq hq))
    rw [List.getElem?_map, List.getElem?_eq_getElem hk] at this
    cases this
    exact ⟨H0', .int ns[k], .refl w, by rw [List.getElem?_map, List.getElem?_eq_getElem hk]; rfl, .int _⟩
@[simp] def iT (da : DE) : DI := fun δ Φ => da δ fun x => ∃ xs, x = .tuple xs ∧ Φ xs
theorem wk_tup {a : Addr} {us : List V} {xs : List PyData} (h : SqT C.K H0 a us) (r : RpA C.K H0 us xs) : Wk C (Itt C.K a) H0 xs := by
  refine ⟨fun H0' H' i e w hi0 => have hi := Nat.le_of_eq hi0; ⟨us, same_t w.sub (same_t e h), by rw [r.length]; exact hi⟩, fun H0' H' i e w hi => ?_, fun H0' H' i v H'' e w hi y => ?_⟩
  · obtain ⟨y, hy⟩ := get_lt hi
    obtain ⟨v, h1, h2⟩ := r.get hy
    exact ⟨us, v, same_t w.sub (same_t e h), h1⟩
  · obtain ⟨rfl, y⟩ := y
    obtain ⟨z, hz⟩ := get_lt hi
    obtain ⟨u, h1, h2⟩ := r.get hz
    have := y us (same_t w.sub (same_t e h))
    rw [h1] at this
    cases this
    exact ⟨H0', z, .refl w, hz, h2.mono e⟩
theorem smi_tup (ha : Sm C true ta da) : SmI C (iTup C.K ta) (iT da) := fun σ δ H0 H Φ R s w q =>
  ha σ δ H0 H _ _ s w fun H01 H1 v x g1 r1 ⟨xs, e, p⟩ => by
    subst e
    cases r1 with
    | @tup a us _ h r => exact ⟨a, rfl, ⟨us, same_t g1.wf.sub h⟩, q _ _ _ _ g1 (wk_tup h r) p⟩
def rng (lo : Int) (n : Nat) : List PyData := (List.range n).map fun (k : Nat) => PyData.int (lo + (k : Int))
theorem rng_len (lo : Int) (n : Nat) : (rng lo n).length = n := by simp [rng]
theorem rng_get {lo : Int} {n i : Nat} {y : PyData} (h : (rng lo n)[i]? = some y) : i < n ∧ y = .int (lo + (i : Int)) := by
  unfold rng at h
  rw [List.getElem?_map] at h
  cases q : (List.range n)[i]? with
  | none => rw [q] at h; simp at h
  | some k =>
    rw [q] at h
    obtain ⟨a, b⟩ := List.getElem?_eq_some_iff.mp q
    simp at a b h
    subst b
    exact ⟨a, h.symm⟩
theorem rng_at {lo : Int} {n i : Nat} (h : i < n) : (rng lo n)[i]? = some (.int (lo + (i : Int))) := by
  unfold rng
  rw [List.getElem?_map, List.getElem?_range h]
  rfl
theorem wk_rng (lo : Int) (n : Nat) : Wk C (Itr lo n) H0 (rng lo n) := by
  refine ⟨fun H0' H' i e w hi0 => have hi := Nat.le_of_eq hi0; by rw [rng_len] at hi; exact hi, fun H0' H' i e w hi => by rw [rng_len] at hi; exact hi, fun H0' H' i v H'' e w hi y => ?_⟩
  rw [rng_len] at hi
  obtain ⟨rfl, rfl⟩ := y
  exact ⟨H0', _, .refl w, rng_at hi, .int _⟩
@[simp] def iR1 (da : DE) : DI := fun δ Φ => da δ fun x => ∃ j, x = .int j ∧ -(2 ^ 62) ≤ j ∧ j < 2 ^ 62 ∧ Φ (rng 0 j.toNat)
theorem smi_rng1 (ha : Sm C f1 ta da) : SmI C (iRng1 (tCons ta tNil)) (iR1 da) := fun σ δ H0 H Φ R s w q =>
  ha σ δ H0 H _ _ s w fun H01 H1 v x g1 r1 ⟨j, e, h1, h2, p⟩ => by
    subst e
    cases r1
    exact ⟨j, rfl, h1, h2, q _ _ _ _ g1 (wk_rng _ _) p⟩
@[simp] def iR2 (da db : DE) : DI := fun δ Φ => da δ fun x => db δ fun y => ∃ i j, x = .int i ∧ y = .int j ∧ (-(2 ^ 62) ≤ i ∧ i < 2 ^ 62 ∧ -(2 ^ 62) ≤ j ∧ j < 2 ^ 62) ∧ Φ (rng i (j - i).toNat)
theorem smi_rng2 (ha : Sm C f1 ta da) (hb : Sm C f2 tb db) : SmI C (iRng2 (tCons ta (tCons tb tNil))) (iR2 da db) := fun σ δ H0 H Φ R s w q =>
  ha σ δ H0 H _ _ s w fun H01 H1 v x g1 r1 w1 => hb σ δ H01 H1 _ _ (s.go g1) w1 fun H02 H2 u y g2 r2 ⟨i, j, e1, e2, h, p⟩ => by
    subst e1 e2
    cases r1
    cases r2
    exact ⟨i, j, rfl, h, q _ _ _ _ (g1.trans g2) (wk_rng _ _) p⟩
@[simp] def iRv (da : DE) : DI := fun δ Φ => da δ fun x => ∃ xs, x = .list xs ∧ Φ xs.reverse
theorem smi_rev (ha : Sm C true ta da) : SmI C (iRev C.K (tCons ta tNil)) (iRv da) := fun σ δ H0 H Φ R s w q =>
  ha σ δ H0 H _ _ s w fun H01 H1 v x g1 r1 ⟨xs, e, p⟩ => by
    subst e
    cases r1 with
    | @lst a us _ h r =>
      refine ⟨a, us, rfl, SqL.of (g1.wf.sub _ _ h), q _ _ _ _ g1 ⟨fun H0' H' i e w hi0 => have hi := Nat.le_of_eq hi0; ?_, fun H0' H' i e w hi => ?_, fun H0' H' i v H'' e w hi y => ?_⟩ p⟩
      · rw [List.length_reverse] at hi
        show us.length ≤ i
        rw [r.length]; exact hi
      · rw [List.length_reverse] at hi
        obtain ⟨y, hy⟩ := get_lt (show us.length - 1 - i < us.length by rw [r.length]; omega)
        exact ⟨by rw [r.length]; exact hi, us, y, SqL.of (w.sub _ _ (e _ _ h)), hy⟩
      · rw [List.length_reverse] at hi
        obtain ⟨rfl, y⟩ := y
        have y := y us (SqL.of (w.sub _ _ (e _ _ h)))
        obtain ⟨z, hz, rz⟩ := r.get' y
        refine ⟨H0', z, .refl w, ?_, rz.mono e⟩
        rw [List.getElem?_reverse hi, ← r.length]
        exact hz
/-- pairs (number, item) -/
def enumD (xs : List PyData) : List PyData := (List.range xs.length).zipWith (fun (i : Nat) (x : PyData) => PyData.tuple [.int (i : Int), x]) xs
theorem enumD_len (xs : List PyData) : (enumD xs).length = xs.length := by simp [enumD]
theorem enumD_get {xs : List PyData} {i : Nat} {x : PyData} (h : xs[i]? = some x) : (enumD xs)[i]? = some (.tuple [.int (i : Int), x]) := by
  have hi := (List.getElem?_eq_some_iff.mp h).1
  unfold enumD
  rw [List.getElem?_zipWith, List.getElem?_range hi, h]
@[simp] def iEn (da : DE) : DI := fun δ Φ => da δ fun x => ∃ xs, x = .list xs ∧ Φ (enumD xs)
theorem tup_new {p : Addr} {us : List V} {ys : List PyData} (w : Wf C H0 H) (hp : H p = none) (r : RpA C.K H0 us ys) : ∃ H0', Go C H0 H H0' (upd H p (.tup us)) ∧ Rp C.K H0' (.ref p) (.tuple ys) :=
  ⟨_, Go.new w hp, .tup (SqT.of upd_same) (r.mono (Go.same_new (w.none hp)))⟩
theorem smi_enum (ha : Sm C true ta da) : SmI C (iEnum C.K (tCons ta tNil)) (iEn da) := fun σ δ H0 H Φ R s w q =>
  ha σ δ H0 H _ _ s w fun H01 H1 v x g1 r1 ⟨xs, e, p⟩ => by
    subst e
    cases r1 with
    | @lst a us _ h r =>
      refine ⟨a, us, rfl, SqL.of (g1.wf.sub _ _ h), q _ _ _ _ g1 ⟨fun H0' H' i e w hi0 => have hi := Nat.le_of_eq hi0; ?_, fun H0' H' i e w hi => ?_, fun H0' H' i v H'' e w hi y => ?_⟩ p⟩
      · rw [enumD_len] at hi
        exact ⟨us, SqL.of (w.sub _ _ (e _ _ h)), by rw [r.length]; exact hi⟩
      · rw [enumD_len] at hi
        obtain ⟨y, hy⟩ := get_lt hi
        obtain ⟨v, h1, h2⟩ := r.get hy
        exact ⟨us, v, SqL.of (w.sub _ _ (e _ _ h)), h1⟩
      · rw [enumD_len] at hi
        obtain ⟨T, z, rfl, hT, rfl, y⟩ := y
        have y := y us (SqL.of (w.sub _ _ (e _ _ h)))
        obtain ⟨d, hd, rd⟩ := r.get' y
        obtain ⟨H0'', g, r2⟩ := tup_new w hT (.cons (.int (i : Int)) (.cons (rd.mono e) .nil))
        exact ⟨H0'', _, g, enumD_get hd, r2⟩
def zipD (xs ys : List PyData) : List PyData := xs.zipWith (fun x y => .tuple [x, y]) ys
@[simp] def iZp (da db : DE) : DI := fun δ Φ => da δ fun x => db δ fun y => ∃ xs ys, x = .list xs ∧ y = .list ys ∧ Φ (zipD xs ys)
theorem smi_zip (ha : Sm C true ta da) (hb : Sm C true tb db) : SmI C (iZip C.K (tCons ta (tCons tb tNil))) (iZp da db) := fun σ δ H0 H Φ R s w q =>
  ha σ δ H0 H _ _ s w fun H01 H1 v x g1 r1 w1 => hb σ δ H01 H1 _ _ (s.go g1) w1 fun H02 H2 u y g2 r2 ⟨xs, ys, e1, e2, p⟩ => by
    subst e1 e2
    have r3 := r1.mono g2.fz
    cases r3 with
    | @lst a us _ h r =>
      cases r2 with
      | @lst b ws _ h' r' =>
        refine ⟨a, b, us, ws, rfl, SqL.of (g2.wf.sub _ _ h), SqL.of (g2.wf.sub _ _ h'), q _ _ _ _ (g1.trans g2) ⟨fun H0' H' i e w hi0 => have hi := Nat.le_of_eq hi0; ?_, fun H0' H' i e w hi => ?_, fun H0' H' i v H'' e w hi y => ?_⟩ p⟩
        · unfold zipD at hi
          rw [List.length_zipWith] at hi
          refine ⟨us, ws, SqL.of (w.sub _ _ (e _ _ h)), SqL.of (w.sub _ _ (e _ _ h')), ?_⟩
          rw [r.length, r'.length]
          omega
        · unfold zipD at hi
          rw [List.length_zipWith] at hi
          obtain ⟨y1, hy1⟩ := get_lt (show i < xs.length by omega)
          obtain ⟨v1, h1, _⟩ := r.get hy1
          obtain ⟨y2, hy2⟩ := get_lt (show i < ys.length by omega)
          obtain ⟨v2, h2, _⟩ := r'.get hy2
          exact ⟨us, ws, v1, v2, SqL.of (w.sub _ _ (e _ _ h)), SqL.of (w.sub _ _ (e _ _ h')), h1, h2⟩
        · obtain ⟨T, x1, x2, rfl, hT, rfl, y1, y2⟩ := y
          have y1 := y1 us (SqL.of (w.sub _ _ (e _ _ h)))
          have y2 := y2 ws (SqL.of (w.sub _ _ (e _ _ h')))
          obtain ⟨d1, hd1, rd1⟩ := r.get' y1
          obtain ⟨d2, hd2, rd2⟩ := r'.get' y2
          obtain ⟨H0'', g, r2⟩ := tup_new w hT (.cons (rd1.mono e) (.cons (Rp.mono e rd2) .nil))
          refine ⟨H0'', _, g, ?_, r2⟩
          unfold zipD
          rw [List.getElem?_zipWith, hd1, hd2]
/-- the signs of a text -/
def signsD (s : Str) : List PyData := s.cps.toList.map fun c => .str ⟨#[c]⟩
@[simp] def iS (da : DE) : DI := fun δ Φ => da δ fun x => ∃ s, x = .str s ∧ Φ (signsD s)
theorem smi_str (ha : Sm C f1 ta da) : SmI C (iStr ta) (iS da) := fun σ δ H0 H Φ R s w q =>
  ha σ δ H0 H _ _ s w fun H01 H1 v x g1 r1 ⟨z, e, p⟩ => by
    subst e
    cases r1
    refine ⟨z, rfl, q _ _ _ _ g1 ⟨fun H0' H' i e w hi0 => have hi := Nat.le_of_eq hi0; ?_, fun H0' H' i e w hi => ?_, fun H0' H' i v H'' e w hi y => ?_⟩ p⟩
    · show z.cps.size ≤ i
      simpa [signsD] using hi
    · show i < z.cps.size
      simpa [signsD] using hi
    · obtain ⟨rfl, c, hc, rfl⟩ := y
      refine ⟨H0', _, .refl w, ?_, .str _⟩
      unfold signsD
      rw [List.getElem?_map, Array.getElem?_toList, hc]
      rfl
end

/-! ### statements -/
structure DEnds where
  nx : Dl → Prop
  rt : RX → Prop
  bk : Dl → Prop := fun _ => False
  ct : Dl → Prop := fun _ => False
abbrev DS := DEnds → Dl → Prop
structure EndS (C : Ctx) (H0 : Hp) (E : DEnds) (D : Ends) : Prop where
  nx : ∀ (H0' H' : Hp) (σ : L2.St) (δ : Dl), Same H0 H0' → St C H0' H' σ δ → E.nx δ → D.nx σ H'
  rt : ∀ (H0' H' : Hp) (v : V) (r : RX), Same H0 H0' → Wf C H0' H' → RXR C H0' H' v r → E.rt r → D.rt v H'
  bk : ∀ (H0' H' : Hp) (σ : L2.St) (δ : Dl), Same H0 H0' → St C H0' H' σ δ → E.bk δ → D.bk σ H'
  ct : ∀ (H0' H' : Hp) (σ : L2.St) (δ : Dl), Same H0 H0' → St C H0' H' σ δ → E.ct δ → D.ct σ H'
def SmS (C : Ctx) (ts : TS) (ds : DS) : Prop := ∀ (σ : L2.St) (δ : Dl) (H0 H : Hp) (E : DEnds) (D : Ends), St C H0 H σ δ → ds E δ → EndS C H0 E D → ts D σ H
abbrev DG := PyData → Dl → (Dl → Prop) → Prop
abbrev DGs := List PyData → Dl → (Dl → Prop) → Prop
def SmG (C : Ctx) (tg : TG) (dg : DG) : Prop := ∀ (v : V) (x : PyData) (σ : L2.St) (δ : Dl) (H0 H : Hp) (Ψ : Dl → Prop) (Q : L2.St → Hp → Prop), St C H0 H σ δ → Rp C.K H0 v x → dg x δ Ψ →
  (∀ σ' δ', St C H0 H σ' δ' → Ψ δ' → Q σ' H) → tg v σ H Q
def SmGs (C : Ctx) (tg : TGs) (dg : DGs) : Prop := ∀ (vs : List V) (xs : List PyData) (σ : L2.St) (δ : Dl) (H0 H : Hp) (Ψ : Dl → Prop) (Q : L2.St → Hp → Prop), St C H0 H σ δ → RpA C.K H0 vs xs → dg xs δ Ψ →
  (∀ σ' δ', St C H0 H σ' δ' → Ψ δ' → Q σ' H) → tg vs σ H Q
section
variable {C : Ctx} {H0 H H0' H' H0'' H'' : Hp} {σ : L2.St} {δ : Dl} {v : V} {x : PyData} {f : Bool}
variable {te ta tb tc : TE} {de da db dc : DE} {tt tu : TT} {dt du : DT} {tas : TA} {das : DA} {f1 f2 : Bool} {ts tv : TS} {ds dv : DS} {E : DEnds} {D : Ends} {o : DO} {g : TG} {dg : DG} {gs : TGs} {dgs : DGs} {ti : TI} {di : DI}
theorem EndS.mono (h : EndS C H0 E D) (e : Same H0 H0') : EndS C H0' E D :=
  ⟨fun a b c d q => h.nx a b c d (e.trans q), fun a b c d q => h.rt a b c d (e.trans q), fun a b c d q => h.bk a b c d (e.trans q), fun a b c d q => h.ct a b c d (e.trans q)⟩
@[simp] def dgName (i : Nat) : DG := fun x δ Ψ => Ψ (δ.set i (some (.d x)))
theorem smg_name (i : Nat) : SmG C (gName i) (dgName i) := fun v x σ δ H0 H Ψ Q s r w q => q _ _ (s.set_d i r) w
@[simp] def dgNil : DGs := fun xs δ Ψ => xs = [] ∧ Ψ δ
@[simp] def dgCons (dg : DG) (dgs : DGs) : DGs := fun xs δ Ψ => ∃ y ys, xs = y :: ys ∧ dg y δ fun δ' => dgs ys δ' Ψ
theorem smg_nil : SmGs C gNil dgNil := fun vs xs σ δ H0 H Ψ Q s r ⟨e, w⟩ q => by
  subst e
  cases r
  exact ⟨rfl, q _ _ s w⟩
theorem smg_cons (h1 : SmG C g dg) (h2 : SmGs C gs dgs) : SmGs C (gCons g gs) (dgCons dg dgs) := fun vs xs σ δ H0 H Ψ Q s r ⟨y, ys, e, w⟩ q => by
  subst e
  cases r with
  | cons ra rb => exact ⟨_, _, rfl, h1 _ _ σ δ H0 H _ _ s ra w fun σ' δ' s' w' => h2 _ _ σ' δ' H0 H _ _ s' rb w' q⟩
@[simp] def dgTup (n : Nat) (dgs : DGs) : DG := fun x δ Ψ => ∃ xs, x = .tuple xs ∧ xs.length = n ∧ dgs xs δ Ψ
theorem smg_tup {n : Nat} (h : SmGs C gs dgs) : SmG C (gTup C.K n gs) (dgTup n dgs) := fun v x σ δ H0 H Ψ Q s r ⟨xs, e, hn, w⟩ q => by
  subst e
  cases r with
  | @tup a us _ hs r => exact ⟨a, us, rfl, same_t s.toWf.sub hs, by rw [r.length]; exact hn, h _ _ σ δ H0 H _ _ s r w q⟩
@[simp] def dSeq (d1 d2 : DS) : DS := fun E δ => d1 { E with nx := d2 E } δ
theorem sms_seq (h1 : SmS C ts ds) (h2 : SmS C tv dv) : SmS C (tSeq ts tv) (dSeq ds dv) := fun σ δ H0 H E D s w e =>
  h1 σ δ H0 H _ _ s w ⟨fun H0' H' σ' δ' q s' w' => h2 σ' δ' H0' H' E D s' w' (e.mono q), e.rt, e.bk, e.ct⟩
@[simp] def dNext : DS := fun E δ => E.nx δ
theorem sms_next : SmS C tNext dNext := fun σ δ H0 H E D s w e => e.nx H0 H σ δ (Same.refl _) s w
@[simp] def dRet (de : DE) : DS := fun E δ => de δ fun x => E.rt (.d x)
theorem sms_ret (h : Sm C true te de) : SmS C (tRet te) (dRet de) := fun σ δ H0 H E D s w e =>
  h σ δ H0 H _ _ s w fun H0' H' v x g r p => e.rt H0' H' v (.d x) g.fz g.wf r p
@[simp] def dRetO (i : Nat) : DS := fun E δ => ∃ a xs, δ[i]? = some (some (.own a xs)) ∧ E.rt (.own xs)
theorem sms_retO (i : Nat) : SmS C (tRet (tVar i)) (dRetO i) := fun σ δ H0 H E D s ⟨a, xs, h, w⟩ e => by
  obtain ⟨v, e1, rfl, h1, h2, h3, vs, h4, h5⟩ := s.sl i _ h
  exact ⟨_, e1, e.rt H0 H _ (.own xs) (Same.refl _) s.toWf ⟨a, vs, rfl, h1, h2, h3, h4, h5⟩ w⟩
@[simp] def dRetNew (o : DO) : DS := fun E δ => o δ fun xs => E.rt (.own xs)
theorem sms_retNew (h : SmO C te o) : SmS C (tRet te) (dRetNew o) := fun σ δ H0 H E D s w e =>
  h σ δ H0 H _ _ s w fun H0' H' a vs xs g h1 h2 h3 r p => e.rt H0' H' _ (.own xs) g.fz g.wf ⟨a, vs, rfl, h2, (Go.he s.toWf h1).1, (Go.he s.toWf h1).2, h3, r⟩ p
@[simp] def dRetN : DS := fun E δ => E.rt (.d .none)
theorem sms_retN : SmS C tRetN dRetN := fun σ δ H0 H E D s w e => e.rt H0 H _ (.d .none) (Same.refl _) s.toWf .non w
@[simp] def dAsg (de : DE) (dg : DG) : DS := fun E δ => de δ fun x => dg x δ E.nx
theorem sms_asg (h : Sm C true te de) (hg : SmG C g dg) : SmS C (tAsg te g) (dAsg de dg) := fun σ δ H0 H E D s w e =>
  h σ δ H0 H _ _ s w fun H0' H' v x g1 r p => hg v x σ δ H0' H' _ _ (s.go g1) r p fun σ' δ' s' w' => e.nx H0' H' σ' δ' g1.fz s' w'
@[simp] def dSetO (i : Nat) (o : DO) : DS := fun E δ => o δ fun xs => ∀ a, E.nx (δ.set i (some (.own a xs)))
theorem sms_setO (i : Nat) (h : SmO C te o) : SmS C (tAsg te (gName i)) (dSetO i o) := fun σ δ H0 H E D s w e =>
  h σ δ H0 H _ _ s w fun H0' H' a vs xs g1 h1 h2 h3 r p => by
    refine e.nx H0' H' _ _ g1.fz ((s.go g1).set_own i (fun j b ys hj z => ?_) h2 (Go.he s.toWf h1).1 (Go.he s.toWf h1).2 h3 r) (p a)
    subst z
    obtain ⟨v, _, _, _, _, _, vs, k, _⟩ := s.sl j _ hj
    rw [h1] at k; cases k
@[simp] def dIfS (dt : DT) (d1 d2 : DS) : DS := fun E δ => dt δ fun b => if b = true then d1 E δ else d2 E δ
theorem sms_if (ht : SmT C tt dt) (h1 : SmS C ts ds) (h2 : SmS C tv dv) : SmS C (tIfS tt ts tv) (dIfS dt ds dv) := fun σ δ H0 H E D s w e =>
  ht σ δ H0 H _ _ s w fun H01 H1 b g1 w1 => by
    cases b with
    | true => exact iteT (h1 σ δ H01 H1 E D (s.go g1) (by simpa using w1) (e.mono g1.fz))
    | false => exact iteF (h2 σ δ H01 H1 E D (s.go g1) (by simpa using w1) (e.mono g1.fz))
@[simp] def dDrop (de : DE) : DS := fun E δ => de δ fun _ => E.nx δ
theorem sms_drop (h : Sm C f1 te de) : SmS C (tDrop te) (dDrop de) := fun σ δ H0 H E D s w e =>
  h σ δ H0 H _ _ s w fun H0' H' v x g1 r p => e.nx H0' H' σ δ g1.fz (s.go g1) p
/-- xs.append(e), xs an owned list -/
@[simp] def dApp (i : Nat) (de : DE) : DS := fun E δ => ∃ a xs, δ[i]? = some (some (.own a xs)) ∧ de δ fun x => xs.length < sizeLine ∧ E.nx (δ.set i (some (.own a (xs ++ [x]))))
theorem sms_app (i : Nat) (h : Sm C true te de) : SmS C (tDrop (tBM C.K "list" rAppend (tVar i) (tCons te tNil))) (dApp i de) := fun σ δ H0 H E D s ⟨a0, xs0, e0, w⟩ e => by
  obtain ⟨v, e1, rfl, h1, h2, h3, vs, h4, h5⟩ := s.sl i _ e0
  refine ⟨_, e1, .inl ⟨rfl, vs, SqL.of h4⟩, h σ δ H0 H _ _ s w fun H0' H' y x g1 r ⟨hl, p⟩ => ?_⟩
  have s1 := s.go g1
  obtain ⟨v', f1, f2, f3, f4, f5, us, f6, f7⟩ := s1.sl i _ e0
  refine ⟨a0, us, y, rfl, rfl, f6, by rw [f7.length]; exact hl, e.nx H0' _ σ _ g1.fz (s1.write i e0 (f7.snoc r)) p⟩
@[simp] def dAug (i : Nat) (de : DE) (f : Int → Int → Int) : DS := fun E δ => ∃ a, δ[i]? = some (some (.d (.int a))) ∧ de δ fun y => ∃ b, y = .int b ∧ E.nx (δ.set i (some (.d (.int (f a b)))))
theorem sms_aug (i : Nat) {fn : Int → Int → Int} (h : Sm C f1 te de) : SmS C (tAug i te (ipI fn)) (dAug i de fn) := fun σ δ H0 H E D s ⟨a0, e0, w⟩ e => by
  obtain ⟨v, e1, r0⟩ := s.sl i _ e0
  cases r0
  refine ⟨_, e1, h σ δ H0 H _ _ s w fun H0' H' y x g1 r ⟨b, e3, p⟩ => ?_⟩
  subst e3
  cases r
  exact ⟨a0, b, rfl, rfl, e.nx _ _ _ _ g1.fz ((s.go g1).set_d i (.int _)) p⟩
/-- xs[k] = e, xs an owned list -/
@[simp] def dSetI (i : Nat) (de dk : DE) : DS := fun E δ => de δ fun x => ∃ a xs, δ[i]? = some (some (.own a xs)) ∧ dk δ fun y => ∃ k j, y = .int k ∧ ixN xs.length k = some j ∧ E.nx (δ.set i (some (.own a (xs.set j x))))
theorem sms_setI (i : Nat) (h : Sm C true te de) (hk : Sm C f2 tb db) : SmS C (tAsg te (gSub (tVar i) tb rSetL)) (dSetI i de db) := fun σ δ H0 H E D s w e =>
  h σ δ H0 H _ _ s w fun H01 H1 v x g1 r ⟨a, xs, e0, w1⟩ => by
    have s1 := s.go g1
    obtain ⟨v', e1, f2, f3, f4, f5, us, f6, f7⟩ := s1.sl i _ e0
    refine ⟨v', e1, hk σ δ H01 H1 _ _ s1 w1 fun H02 H2 u y g2 r2 ⟨k, j, e3, e4, p⟩ => ?_⟩
    subst e3 f2
    cases r2
    have s2 := s1.go g2
    obtain ⟨v', e1, f2, f3, f4, f5, us, f6, f7⟩ := s2.sl i _ e0
    exact ⟨a, us, k, j, rfl, rfl, f6, by rw [f7.length]; exact e4, e.nx H02 _ σ _ (g1.fz.trans g2.fz) (s2.write i e0 (f7.set (Rp.mono g2.fz r) j)) p⟩
/-- the slot's list stands still from here on -/
@[simp] def dFrz (i : Nat) (d : DS) : DS := fun E δ => ∃ a xs, δ[i]? = some (some (.own a xs)) ∧ d E (δ.set i (some (.d (.list xs))))
theorem sms_frz (i : Nat) (h : SmS C ts ds) : SmS C ts (dFrz i ds) := fun σ δ H0 H E D s ⟨a, xs, h1, w⟩ e => by
  obtain ⟨H0', g, s'⟩ := s.freeze i h1
  exact h σ _ H0' H E D s' w (e.mono g)
@[simp] def dBreak : DS := fun E δ => E.bk δ
theorem sms_break : SmS C tBreak dBreak := fun σ δ H0 H E D s w e => e.bk H0 H σ δ (Same.refl _) s w
@[simp] def dCont : DS := fun E δ => E.ct δ
theorem sms_cont : SmS C tCont dCont := fun σ δ H0 H E D s w e => e.ct H0 H σ δ (Same.refl _) s w
/-- for .. in ..: -/
def dFor (di : DI) (dg : DG) (db : DS) : DS := fun E δ => di δ fun xs => ∃ I : Nat → Dl → Prop, I 0 δ ∧
  (∀ i y δ', xs[i]? = some y → I i δ' → dg y δ' fun δ'' => db { E with nx := I (i + 1), ct := I (i + 1), bk := E.nx } δ'') ∧ ∀ δ', I xs.length δ' → E.nx δ'
theorem sms_for (hi : SmI C ti di) (hg : SmG C g dg) (hb : SmS C ts ds) : SmS C (tFor ti g ts) (dFor di dg ds) := fun σ δ H0 H E D s w e =>
  hi σ δ H0 H _ _ s w fun H01 H1 J xs g1 wk ⟨I, i0, it, ie⟩ => by
    refine ⟨fun i m σ H => m = xs.length - i ∧ i ≤ xs.length ∧ ∃ H0' δ', Same H01 H0' ∧ St C H0' H σ δ' ∧ I i δ', ⟨_, rfl, Nat.zero_le _, H01, δ, Same.refl _, s.go g1, i0⟩, ?_⟩
    rintro i m σ' H' ⟨rfl, hi, H0', δ', gr, s', p⟩
    by_cases hl : i < xs.length
    · refine .inr ⟨wk.go H0' H' i gr s'.toWf hl, fun σ2 H2 => ∃ H0'' δ'', Same H01 H0'' ∧ St C H0'' H2 σ2 δ'' ∧ I (i + 1) δ'', fun σ2 H2 ⟨H02, δ2, h1, h2, h3⟩ => ⟨_, by omega, rfl, hl, H02, δ2, h1, h2, h3⟩, fun v H'' y => ?_⟩
      obtain ⟨H02, z, g2, hz, rz⟩ := wk.yld H0' H' i v H'' gr s'.toWf hl y
      refine hg v z σ' δ' H02 H'' _ _ (s'.go g2) rz (it i z δ' hz p) fun σ2 δ2 s2 w2 => ?_
      refine hb σ2 δ2 H02 H'' _ _ s2 w2 ⟨fun H03 H3 σ3 δ3 e3 s3 p3 => ⟨H03, δ3, (gr.trans g2.fz).trans e3, s3, p3⟩, fun H03 H3 v3 r3 e3 w3 x3 p3 => e.rt H03 H3 v3 r3 (((g1.fz.trans gr).trans g2.fz).trans e3) w3 x3 p3,
        fun H03 H3 σ3 δ3 e3 s3 p3 => e.nx H03 H3 σ3 δ3 (((g1.fz.trans gr).trans g2.fz).trans e3) s3 p3, fun H03 H3 σ3 δ3 e3 s3 p3 => ⟨H03, δ3, (gr.trans g2.fz).trans e3, s3, p3⟩⟩
    · have hl' : i = xs.length := by omega
      exact .inl ⟨wk.stop H0' H' i gr s'.toWf (by omega), e.nx H0' H' σ' δ' (g1.fz.trans gr) s' (ie δ' (hl' ▸ p))⟩
/-- for .. in an owned list, which the turns leave -/
def dForO (j : Nat) (dg : DG) (db : DS) : DS := fun E δ => ∃ a xs, δ[j]? = some (some (.own a xs)) ∧ ∃ I : Nat → Dl → Prop, I 0 δ ∧
  (∀ i y δ', xs[i]? = some y → I i δ' → δ'[j]? = some (some (.own a xs)) ∧ dg y δ' fun δ'' => db { E with nx := I (i + 1), ct := I (i + 1), bk := E.nx } δ'') ∧ ∀ δ', I xs.length δ' → δ'[j]? = some (some (.own a xs)) ∧ E.nx δ'
theorem sms_forO (j : Nat) (hg : SmG C g dg) (hb : SmS C ts ds) : SmS C (tFor (iList C.K (tVar j)) g ts) (dForO j dg ds) := fun σ δ H0 H E D s ⟨a, xs, e0, I, i0, it, ie⟩ e => by
  obtain ⟨v, e1, rfl, h1, h2, h3, us, h4, h5⟩ := s.sl j _ e0
  refine ⟨_, e1, a, rfl, ⟨us, SqL.of h4⟩, fun i m σ H => m = xs.length - i ∧ i ≤ xs.length ∧ ∃ H0' δ', Same H0 H0' ∧ St C H0' H σ δ' ∧ I i δ', ⟨_, rfl, Nat.zero_le _, H0, δ, Same.refl _, s, i0⟩, ?_⟩
  rintro i m σ' H' ⟨rfl, hi, H0', δ', gr, s', p⟩
  by_cases hl : i < xs.length
  · obtain ⟨y, hy⟩ := get_lt hl
    obtain ⟨k1, k2⟩ := it i y δ' hy p
    obtain ⟨v', e1', e2', f1, f2, f3, ws, f4, f5⟩ := s'.sl j _ k1
    obtain ⟨u, hu, ru⟩ := f5.get hy
    refine .inr ⟨⟨ws, u, SqL.of f4, hu⟩, fun σ2 H2 => ∃ H0'' δ'', Same H0 H0'' ∧ St C H0'' H2 σ2 δ'' ∧ I (i + 1) δ'', fun σ2 H2 ⟨H02, δ2, h1, h2, h3⟩ => ⟨_, by omega, rfl, hl, H02, δ2, h1, h2, h3⟩, fun v H'' y' => ?_⟩
    obtain ⟨rfl, y'⟩ := y'
    have y' := y' ws (SqL.of f4)
    rw [hu] at y'
    cases y'
    refine hg u y σ' δ' H0' H'' _ _ s' ru k2 fun σ2 δ2 s2 w2 => ?_
    refine hb σ2 δ2 H0' H'' _ _ s2 w2 ⟨fun H03 H3 σ3 δ3 e3 s3 p3 => ⟨H03, δ3, gr.trans e3, s3, p3⟩, fun H03 H3 v3 r3 e3 w3 x3 p3 => e.rt H03 H3 v3 r3 (gr.trans e3) w3 x3 p3,
      fun H03 H3 σ3 δ3 e3 s3 p3 => e.nx H03 H3 σ3 δ3 (gr.trans e3) s3 p3, fun H03 H3 σ3 δ3 e3 s3 p3 => ⟨H03, δ3, gr.trans e3, s3, p3⟩⟩
  · have hl' : i = xs.length := by omega
    obtain ⟨k1, k2⟩ := ie δ' (hl' ▸ p)
    obtain ⟨v', e1', e2', f1, f2, f3, ws, f4, f5⟩ := s'.sl j _ k1
    exact .inl ⟨⟨ws, SqL.of f4, by rw [f5.length]; omega⟩, e.nx H0' H' σ' δ' gr s' k2⟩
def dWhile (dt : DT) (db : DS) : DS := fun E δ => ∃ I : Nat → Dl → Prop, (∃ m, I m δ) ∧ ∀ m δ', I m δ' → dt δ' fun b => if b = true then db { E with nx := fun δ'' => ∃ m', m' < m ∧ I m' δ'', ct := fun δ'' => ∃ m', m' < m ∧ I m' δ'', bk := E.nx } δ' else E.nx δ'
theorem sms_while (ht : SmT C tt dt) (hb : SmS C ts ds) : SmS C (tWhile tt ts) (dWhile dt ds) := fun σ δ H0 H E D s ⟨I, ⟨m0, i0⟩, it⟩ e => by
  refine ⟨fun m σ' H' => ∃ H0' δ', Same H0 H0' ∧ St C H0' H' σ' δ' ∧ I m δ', ⟨m0, H0, δ, Same.refl _, s, i0⟩, ?_⟩
  rintro m σ' H' ⟨H0', δ', gr, s', p⟩
  refine ht σ' δ' H0' H' _ _ s' (it m δ' p) fun H01 H1 b g1 w1 => ?_
  cases b with
  | true =>
    refine iteT ⟨fun σ2 H2 => ∃ m', m' < m ∧ ∃ H0'' δ'', Same H0 H0'' ∧ St C H0'' H2 σ2 δ'' ∧ I m' δ'', fun σ2 H2 h => h, ?_⟩
    refine hb σ' δ' H01 H1 { E with nx := fun δ'' => ∃ m', m' < m ∧ I m' δ'', ct := fun δ'' => ∃ m', m' < m ∧ I m' δ'', bk := E.nx } _ (s'.go g1) (by simpa using w1) ⟨fun H03 H3 σ3 δ3 e3 s3 ⟨m', hm, p3⟩ => ⟨m', hm, H03, δ3, (gr.trans g1.fz).trans e3, s3, p3⟩, fun H03 H3 v3 r3 e3 w3 x3 p3 => e.rt H03 H3 v3 r3 ((gr.trans g1.fz).trans e3) w3 x3 p3,
      fun H03 H3 σ3 δ3 e3 s3 p3 => e.nx H03 H3 σ3 δ3 ((gr.trans g1.fz).trans e3) s3 p3, fun H03 H3 σ3 δ3 e3 s3 ⟨m', hm, p3⟩ => ⟨m', hm, H03, δ3, (gr.trans g1.fz).trans e3, s3, p3⟩⟩
  | false => exact iteF (e.nx H01 H1 σ' δ' (gr.trans g1.fz) (s'.go g1) (by simpa using w1))

/-! ### comprehensions -/
@[simp] def dYes : DT := fun _ Φ => Φ true
theorem smt_yes : SmT C tYes dYes := fun σ δ H0 H Φ Q s w q => q H0 H true (.refl s.toWf) w
def oLc (di : DI) (i : Nat) (dt : DT) (de : DE) : DO := fun δ Φ => di δ fun xs => ∃ I : Nat → List PyData → Prop, I 0 [] ∧
  (∀ k y acc, xs[k]? = some y → I k acc → dt (δ.set i (some (.d y))) fun b => if b = true then de (δ.set i (some (.d y))) fun z => acc.length < sizeLine ∧ I (k + 1) (acc ++ [z]) else I (k + 1) acc) ∧ ∀ acc, I xs.length acc → Φ acc
theorem smo_lc {i : Nat} (hi : SmI C ti di) (ht : SmT C tt dt) (he : Sm C true te de) : SmO C (tLc ti (gName i) tt te [i]) (oLc di i dt de) := fun σ δ H0 H Φ Q s w q =>
  hi σ δ H0 H _ _ s w fun H01 H1 J xs g1 wk ⟨I, i0, it, ie⟩ D hD => by
    have hD0 : H D = none := g1.fresh hD
    refine ⟨fun k m H' => m = xs.length - k ∧ k ≤ xs.length ∧ ∃ H0' us acc, Go C H01 H1 H0' H' ∧ H0' D = none ∧ H' D = some (.lst us) ∧ RpA C.K H0' us acc ∧ I k acc, ⟨_, rfl, Nat.zero_le _, H01, [], [], Go.free g1.wf hD, g1.wf.none hD, upd_same, .nil, i0⟩, ?_⟩
    rintro k m H' ⟨rfl, hk, H0', us, acc, g2, hn, hl, r, p⟩
    have nex : C.ex ≠ some D := (Go.he g1.wf hD).2
    by_cases hlt : k < xs.length
    · refine .inr ⟨wk.go H0' H' k g2.fz g2.wf hlt, fun H3 => ∃ H0' us acc, Go C H01 H1 H0' H3 ∧ H0' D = none ∧ H3 D = some (.lst us) ∧ RpA C.K H0' us acc ∧ I (k + 1) acc, fun H3 h => ⟨_, by omega, rfl, hlt, h⟩, fun v H'' y => ?_⟩
      obtain ⟨H02, z, g3, hz, rz⟩ := wk.yld H0' H' k v H'' g2.fz g2.wf hlt y
      have g23 := g2.trans g3
      have keep : ∀ {A B : Hp}, Go C H02 H'' A B → A D = none ∧ B D = some (.lst us) := fun {A B} gg => by
        have h1 : B D = some (.lst us) := gg.kp D _ nex (g3.kp D _ nex hl)
        refine ⟨?_, h1⟩
        cases e : A D with
        | none => rfl
        | some u =>
          rcases (g3.trans gg).nw D u e with h2 | h2
          · rw [hn] at h2; cases h2
          · rw [hl] at h2; cases h2
      show wipe ((wipe σ [i]).set i (some v)) [i] = wipe σ [i] ∧ _
      refine ⟨by simp [wipe], ?_⟩
      have s2 : St C H02 H'' ((wipe σ [i]).set i (some v)) (δ.set i (some (.d z))) := by
        have := ((s.go ((g1.trans g2).trans g3)).none i).set_d i rz
        rw [List.set_set] at this
        rw [List.set_set] at this
        show St C H02 H'' ((σ.set i none).set i (some v)) (δ.set i (some (.d z)))
        rw [List.set_set]
        exact this
      refine ht _ _ H02 H'' _ _ s2 (it k z acc hz p) fun H04 H4 b g4 w4 => ?_
      cases b with
      | false => exact iteF ⟨H04, us, acc, g23.trans g4, (keep g4).1, (keep g4).2, r.mono (g3.fz.trans g4.fz), by simpa using w4⟩
      | true =>
        refine iteT (he _ _ H04 H4 (fun z => acc.length < sizeLine ∧ I (k + 1) (acc ++ [z])) _ (s2.go g4) (by simpa using w4) fun H05 H5 y' z' g5 r5 ⟨w5, p5⟩ => ?_)
        have k5 := keep (g4.trans g5)
        refine ⟨us, k5.2, by rw [r.length]; exact w5, H05, us ++ [y'], acc ++ [z'], ?_, k5.1, upd_same, (r.mono (g3.fz.trans (g4.fz.trans g5.fz))).snoc r5, p5⟩
        -- the list D is written: it is not frozen, and new since H1
        have gg := (g23.trans g4).trans g5
        refine ⟨⟨fun b u e => ?_, fun b u n e => ?_, gg.wf.fz, gg.wf.nw, fun c e => ?_⟩, gg.fz, fun b u n e => ?_, gg.nw⟩
        · rw [upd_ne (fun z => by rw [z, k5.1] at e; cases e)]; exact gg.wf.sub b u e
        · rw [upd_ne (fun z => by rw [z, (Go.he g1.wf hD).1] at e; cases e)]; exact gg.wf.kp b u n e
        · obtain ⟨c', i', v', s', cells, q1, q2, q3, q4⟩ := gg.wf.dr c e
          exact ⟨c', i', v', s', cells, by rw [upd_ne (fun z => nex (by rw [← z]; exact e))]; exact q1, q2, q3, q4⟩
        · rw [upd_ne (fun z => by rw [z, hD] at e; cases e)]; exact gg.kp b u n e
    · have hk' : k = xs.length := by omega
      refine .inl ⟨wk.stop H0' H' k g2.fz g2.wf (by omega), q H0' H' D us acc (g1.trans g2) hD0 hn hl r (ie acc (hk' ▸ p))⟩

/-! ### a def -/
@[simp] def startD (n : Nat) (rs : List R) : Dl := rs.map some ++ List.replicate (n - rs.length) none
theorem fn_ok {P : Program} {w : World} {K : PySem.W.Frag} {mg : Str → Option Value} {base : Heap} {x qual : Str} {st : Stmt} {fa : Addr} {fd : FuncData} {N ps : List Str} {k : Nat} {p : VSp}
    (F : Fun K x qual st fa fd) (S : FnScope N ps (defScope st))
    (hbody : ∀ (cdv : Value) (A : Around) (outer : List Env) (s : Shared) (H : Hp) (E : XK), Room k (A.deeper (PyProof.Rows.envOfC qual (defScope st) s.heap.objs.size fa cdv)) →
      ∃ t, PSs (cxOf CX0 P w K mg base N qual (defScope st) fa cdv A outer s H E).nox (defBody st) t ∧ ∃ d : DS, (∀ (ex : Option Addr) (He Hf : Hp), SmS ⟨K, ex, He, Hf⟩ t d) ∧ ∀ rs Φ, p rs Φ → d { nx := fun _ => Φ (.d .none), rt := Φ } (startD N.length rs)) : FnOk P w K mg base CX0 (k + 1) fa fd ps (toSp K ps.length p) := by
  refine F.ok S (fun vs H Q E h => h.1) (fun cdv A outer s H vs Q E hr h => ?_)
  obtain ⟨t, ht, d, hd, hp⟩ := hbody cdv A outer s H E hr
  obtain ⟨hl, ex, H0, rs, Φ, wf, ra, hsp, q⟩ := h
  refine ⟨t, ht, ?_⟩
  have hlen := ra.length
  refine hd ex H H0 _ (startD N.length rs) H0 H _ _ ⟨wf, ?_, fun i r e => ?_, fun i j a b xs ys n e1 e2 => ?_⟩ (hp rs Φ hsp) ⟨fun H0' H' σ δ g s' w' => ?_, fun H0' H' v r g w' xr p' => q H0' H' v r w' xr p', fun _ _ _ _ _ _ h => h.elim, fun _ _ _ _ _ _ h => h.elim⟩
  · simp [L2.start, startD, hlen]
  · unfold startD at e
    by_cases hi : i < rs.length
    · rw [List.getElem?_append_left (by simpa using hi), List.getElem?_map] at e
      cases e1 : rs[i]? with
      | none => rw [e1] at e; simp at e
      | some r' =>
        rw [e1] at e
        simp at e
        subst e
        obtain ⟨v, h1, h2⟩ := ra.get e1
        refine ⟨v, ?_, ?_⟩
        · unfold L2.start
          rw [List.getElem?_append_left (by rw [List.length_map, hlen]; exact hi), List.getElem?_map, h1]
          rfl
        · cases r' with
          | d x => exact h2
          | own a xs => exact h2.elim
          | drw => exact h2
          | raw u => exact h2
          | scr ns => exact h2
    · rw [List.getElem?_append_right (by simpa using hi)] at e
      rw [List.getElem?_replicate] at e
      split at e <;> simp at e
  · exfalso
    have f : ∀ {i : Nat} {a : Addr} {xs : List PyData}, (startD N.length rs)[i]? = some (some (R.own a xs)) → False := fun {i a xs} e => by
      unfold startD at e
      by_cases hi : i < rs.length
      · rw [List.getElem?_append_left (by simpa using hi), List.getElem?_map] at e
        cases e1 : rs[i]? with
        | none => rw [e1] at e; simp at e
        | some r' =>
          rw [e1] at e
          simp at e
          subst e
          obtain ⟨v, h1, h2⟩ := ra.get e1
          exact h2
      · rw [List.getElem?_append_right (by simpa using hi)] at e
        rw [List.getElem?_replicate] at e
        split at e <;> simp at e
    exact f e1
  · exact q H0' H' .non (.d .none) s'.toWf .non w'

/-! ### the row of numbers that a law draws from -/
/-- how many a draw may be of -/
def Tk (m : Int) : Prop := 0 < m ∧ m.natAbs < 2 ^ 8000
theorem tk_of {m : Int} (h : 0 < m) (h2 : m ≤ 1180591620717411303424) : Tk m := ⟨h, Nat.lt_of_lt_of_le (show m.natAbs < 2 ^ 71 by omega) (Nat.pow_le_pow_right (by decide) (by decide))⟩
@[simp] theorem tk_simp {m : Int} (h : 0 < m) (h2 : m ≤ 1180591620717411303424) : Tk m ↔ True := ⟨fun _ => trivial, fun _ => tk_of h h2⟩
/-- a number below many -/
@[simp] def spTake : VSp := fun rs Φ => ∃ many : Int, rs = [.drw, .d (.int many)] ∧ Tk many ∧ ∀ r : Int, 0 ≤ r → r < many → Φ (.d (.int r))
theorem spTake_len : ∀ rs Φ, spTake rs Φ → rs.length = 2 := fun rs Φ ⟨_, e, _⟩ => by rw [e]; rfl
/-- the row is made -/
def spDraw (K : PySem.W.Frag) : Sp := fun vs H Q _ => ∃ (a : Addr) (ns : List Int), vs = [.ref a] ∧ SqL K H a (ns.map V.int) ∧ ns.length ≤ 63 ∧
  ∀ H' p c (s : Int) (cells : List Int), Same H H' → H' p = some (.lst [.ref c, .int (-1), .int 0, .int s]) → H' c = some (.lst (cells.map V.int)) → c ≠ p → (∀ x ∈ cells, 0 ≤ x) → 0 ≤ s → s < 2147483647 → Q (.ref p) H'
def spLaw (K : PySem.W.Frag) : Sp := fun vs H Q _ => ∃ (a : Addr) (ns : List Int), vs = [.ref a] ∧ SqL K H a (ns.map V.int) ∧ ns.length ≤ 63 ∧ ∀ H', Q (.bl true) H'
/-- the draw's row is written -/
theorem Wf.draw {p c : Addr} {i v s : Int} (w : Wf C H0 H) (e : C.ex = some p) (h : H p = some (.lst [.ref c, .int i, .int v, .int s])) {i' v' s' : Int} (h1 : -1 ≤ i') (h2 : 0 ≤ v') (h3 : 0 ≤ s') (h4 : s' < 2147483647) :
    Wf C H0 (upd H p (.lst [.ref c, .int i', .int v', .int s'])) := by
  obtain ⟨c0, i0, v0, s0, cells, g1, g2, g3, g4, g5⟩ := w.dr p e
  rw [h] at g1
  cases g1
  refine ⟨fun b u q => ?_, fun b u n q => ?_, w.fz, w.nw, fun p' e' => ?_⟩
  · rw [upd_ne (fun z => by rw [z, g3] at q; cases q)]; exact w.sub b u q
  · rw [upd_ne (fun z => by rw [z] at n; exact n e)]; exact w.kp b u n q
  · rw [e] at e'; cases e'
    exact ⟨c, i', v', s', cells, upd_same, g2, g3, g4, h1, h2, h3, h4⟩
/-- the law's own body behind «draw = _law_draw(script)» -/
theorem law_start {K : PySem.W.Frag} {p c : Addr} {s : Int} {cells : List Int} {H' : Hp} (h1 : H' p = some (.lst [.ref c, .int (-1), .int 0, .int s])) (h2 : H' c = some (.lst (cells.map V.int))) (h3 : c ≠ p) (h4 : ∀ x ∈ cells, 0 ≤ x) (h5 : 0 ≤ s) (h6 : s < 2147483647)
    {a : Addr} {n : Nat} {t : TS} {d : DS} (hd : ∀ (ex : Option Addr) (He Hf : Hp), SmS ⟨K, ex, He, Hf⟩ t d) {Q : VK} (hQ : ∀ H', Q (.bl true) H')
    (hp : ∀ raw : V, d { nx := fun _ => False, rt := fun r => r = .d (.bool true) } (some (.raw raw) :: some .drw :: List.replicate n none)) :
    t { nx := fun _ H' => Q .non H', rt := Q } (some (.ref a) :: some (.ref p) :: List.replicate n none) H' := by
  have w : Wf ⟨K, some p, H', fun b => if b = p then none else H' b⟩ (fun b => if b = p then none else H' b) H' := by
    refine ⟨fun b o e => ?_, fun _ _ _ e => e, Same.refl _, fun _ _ e => .inl e, fun q e => ?_⟩
    · split at e
      · cases e
      · exact e
    · cases e
      exact ⟨c, -1, 0, s, cells, h1, by show (if c = p then none else H' c) = _; rw [if_neg h3]; exact h2, if_pos rfl, h4, by omega, by omega, h5, h6⟩
  refine hd (some p) H' (fun b => if b = p then none else H' b) _ _ _ H' _ _ ⟨w, by simp, fun i r e => ?_, fun i j a b xs ys n e1 e2 => ?_⟩ (hp (.ref a)) ⟨fun _ _ _ _ _ _ h => h.elim, fun H0' H'' v r g w' x e => ?_, fun _ _ _ _ _ _ h => h.elim, fun _ _ _ _ _ _ h => h.elim⟩
  · match i with
    | 0 => simp at e; subst e; exact ⟨_, rfl, rfl⟩
    | 1 => simp at e; subst e; exact ⟨_, rfl, p, rfl, rfl⟩
    | i + 2 =>
      rw [List.getElem?_cons_succ, List.getElem?_cons_succ, List.getElem?_replicate] at e
      split at e <;> simp at e
  · match i with
    | 0 => simp at e1
    | 1 => simp at e1
    | i + 2 =>
      rw [List.getElem?_cons_succ, List.getElem?_cons_succ, List.getElem?_replicate] at e1
      split at e1 <;> simp at e1
  · subst e
    cases x
    exact hQ _
end
section
/-- a law that reads its script itself -/
theorem law_plain {K : PySem.W.Frag} {a : Addr} {ns : List Int} {H : Hp} {Q : VK} {n : Nat} {t : TS} {d : DS} (hS : SqL K H a (ns.map V.int)) (k : ∀ H', Q (.bl true) H') (hd : ∀ (ex : Option Addr) (He Hf : Hp), SmS ⟨K, ex, He, Hf⟩ t d)
    (hp : d { nx := fun _ => False, rt := fun r => r = .d (.bool true) } (some (.scr ns) :: List.replicate n none)) : t { nx := fun _ H' => Q .non H', rt := Q } (some (.ref a) :: List.replicate n none) H := by
  refine hd none H H _ _ H H _ _ ⟨⟨Same.refl _, fun _ _ _ e => e, Same.refl _, fun _ _ e => .inl e, fun p e => by cases e⟩, by simp, fun i r e => ?_, fun i j a b xs ys n e1 e2 => ?_⟩ hp ⟨fun _ _ _ _ _ _ h => h.elim, fun H0' H'' v r g w' x e => ?_, fun _ _ _ _ _ _ h => h.elim, fun _ _ _ _ _ _ h => h.elim⟩
  · match i with
    | 0 => simp at e; subst e; exact ⟨_, rfl, a, rfl, hS⟩
    | i + 1 =>
      rw [List.getElem?_cons_succ, List.getElem?_replicate] at e
      split at e <;> simp at e
  · match i with
    | 0 => simp at e1
    | i + 1 =>
      rw [List.getElem?_cons_succ, List.getElem?_replicate] at e1
      split at e1 <;> simp at e1
  · subst e
    cases x
    exact k _
/-- what is never reached -/
@[simp] def dNever : DS := fun _ _ => False
theorem sms_never {C : Ctx} {t : TS} : SmS C t dNever := fun _ _ _ _ _ _ _ h => h.elim
end
/-! ### rules of the hand layer whose words name the written part: said with it -/
section
variable {X : Cx} {K : PySem.W.Frag}
theorem kx_seq (h : X.K = K) : IxR X (rIx K) := by subst h; exact ix_seq
theorem kx_in (h : X.K = K) : OpR X (compareOp .In) (rIn K false) := by subst h; exact op_in_seq
theorem kx_notIn (h : X.K = K) : OpR X (compareOp .NotIn) (rIn K true) := by subst h; exact op_notIn_seq
theorem kx_eqD (h : X.K = K) (hu : X.A.units + 64 < cLine) : OpR X (compareOp .Eq) (rEqD K) := by subst h; exact op_eqD hu
theorem kx_neD (h : X.K = K) (hu : X.A.units + 64 < cLine) : OpR X (compareOp .NotEq) (rNeD K) := by subst h; exact op_neD hu
theorem kx_len (h : X.K = K) : CallR X (.builtin "len") (fun xs H Q => ∃ x n, xs = [x] ∧ LenV K x H n ∧ Q (.int n) H) := by subst h; exact call_len
theorem kx_list (h : X.K = K) : CallR X (.type "list") (fun xs H Q => ∃ p ys, xs = [.ref p] ∧ (SqL K H p ys ∨ SqT K H p ys) ∧ ∀ l, H l = none → Q (.ref l) (upd H l (.lst ys))) := by subst h; exact call_list_of
theorem kx_tuple (h : X.K = K) : CallR X (.type "tuple") (fun xs H Q => ∃ p ys, xs = [.ref p] ∧ ((SqL K H p ys ∧ ∀ l, H l = none → Q (.ref l) (upd H l (.tup ys))) ∨ (SqT K H p ys ∧ Q (.ref p) H))) := by subst h; exact call_tuple_of
theorem kx_isi (h : X.K = K) : CallR X (.builtin "isinstance") (rIsi K) := by subst h; exact call_isi
theorem kpi_list (h : X.K = K) {tg e : Expr} {tl : TE} (he : PE X e tl) : PI X tg e (iList K tl) := by subst h; exact pi_list he
theorem kpi_tup (h : X.K = K) {tg e : Expr} {tl : TE} (he : PE X e tl) : PI X tg e (iTup K tl) := by subst h; exact pi_tup he
end
end VL

/-! Facts about the layer's words. -/
namespace VL
open PySem L2
@[simp] theorem scal_ii (i j : Int) : scal (.int i) (.int j) = true := rfl
@[simp] theorem scal_ss (i j : Str) : scal (.str i) (.str j) = true := rfl
@[simp] theorem scal_bb (i j : Bool) : scal (.bl i) (.bl j) = true := rfl
@[simp] theorem scal_nn : scal .non .non = true := rfl
@[simp] theorem scal_ni (i : Int) : scal .non (.int i) = true := rfl
@[simp] theorem scal_in (i : Int) : scal (.int i) .non = true := rfl
@[simp] theorem scal_si (s : Str) (i : Int) : scal (.str s) (.int i) = true := rfl
@[simp] theorem scal_is (s : Str) (i : Int) : scal (.int i) (.str s) = true := rfl
@[simp] theorem scal_ns (s : Str) : scal .non (.str s) = true := rfl
@[simp] theorem scal_sn (s : Str) : scal (.str s) .non = true := rfl
@[simp] theorem eqv_ii (i j : Int) : PyData.eqv (.int i) (.int j) = (i == j) := by simp [PyData.eqv]
@[simp] theorem eqv_ss (i j : Str) : PyData.eqv (.str i) (.str j) = decide (i = j) := by rw [Bool.eq_iff_iff]; simp [PyData.eqv]
@[simp] theorem own_ex {α β : Type} {a0 : α} {xs0 : β} {P : α → β → Prop} : (∃ a xs, (a0 = a ∧ xs0 = xs) ∧ P a xs) ↔ P a0 xs0 := ⟨fun ⟨_, _, ⟨e1, e2⟩, h⟩ => by subst e1 e2; exact h, fun h => ⟨_, _, ⟨rfl, rfl⟩, h⟩⟩
@[simp] theorem kit_NoneType_tuple : kitB "NoneType" "tuple" = some false := by decide +kernel
@[simp] theorem kit_NoneType_list : kitB "NoneType" "list" = some false := by decide +kernel
@[simp] theorem kit_NoneType_bool : kitB "NoneType" "bool" = some false := by decide +kernel
@[simp] theorem kit_NoneType_int : kitB "NoneType" "int" = some false := by decide +kernel
@[simp] theorem kit_NoneType_str : kitB "NoneType" "str" = some false := by decide +kernel
@[simp] theorem kit_NoneType_dict : kitB "NoneType" "dict" = some false := by decide +kernel
@[simp] theorem kit_bool_tuple : kitB "bool" "tuple" = some false := by decide +kernel
@[simp] theorem kit_bool_list : kitB "bool" "list" = some false := by decide +kernel
@[simp] theorem kit_bool_bool : kitB "bool" "bool" = some true := by decide +kernel
@[simp] theorem kit_bool_int : kitB "bool" "int" = some true := by decide +kernel
@[simp] theorem kit_bool_str : kitB "bool" "str" = some false := by decide +kernel
@[simp] theorem kit_bool_dict : kitB "bool" "dict" = some false := by decide +kernel
@[simp] theorem kit_int_tuple : kitB "int" "tuple" = some false := by decide +kernel
@[simp] theorem kit_int_list : kitB "int" "list" = some false := by decide +kernel
@[simp] theorem kit_int_bool : kitB "int" "bool" = some false := by decide +kernel
@[simp] theorem kit_int_int : kitB "int" "int" = some true := by decide +kernel
@[simp] theorem kit_int_str : kitB "int" "str" = some false := by decide +kernel
@[simp] theorem kit_int_dict : kitB "int" "dict" = some false := by decide +kernel
@[simp] theorem kit_str_tuple : kitB "str" "tuple" = some false := by decide +kernel
@[simp] theorem kit_str_list : kitB "str" "list" = some false := by decide +kernel
@[simp] theorem kit_str_bool : kitB "str" "bool" = some false := by decide +kernel
@[simp] theorem kit_str_int : kitB "str" "int" = some false := by decide +kernel
@[simp] theorem kit_str_str : kitB "str" "str" = some true := by decide +kernel
@[simp] theorem kit_str_dict : kitB "str" "dict" = some false := by decide +kernel
@[simp] theorem kit_list_tuple : kitB "list" "tuple" = some false := by decide +kernel
@[simp] theorem kit_list_list : kitB "list" "list" = some true := by decide +kernel
@[simp] theorem kit_list_bool : kitB "list" "bool" = some false := by decide +kernel
@[simp] theorem kit_list_int : kitB "list" "int" = some false := by decide +kernel
@[simp] theorem kit_list_str : kitB "list" "str" = some false := by decide +kernel
@[simp] theorem kit_list_dict : kitB "list" "dict" = some false := by decide +kernel
@[simp] theorem kit_tuple_tuple : kitB "tuple" "tuple" = some true := by decide +kernel
@[simp] theorem kit_tuple_list : kitB "tuple" "list" = some false := by decide +kernel
@[simp] theorem kit_tuple_bool : kitB "tuple" "bool" = some false := by decide +kernel
@[simp] theorem kit_tuple_int : kitB "tuple" "int" = some false := by decide +kernel
@[simp] theorem kit_tuple_str : kitB "tuple" "str" = some false := by decide +kernel
@[simp] theorem kit_tuple_dict : kitB "tuple" "dict" = some false := by decide +kernel
@[simp] theorem kit_dict_tuple : kitB "dict" "tuple" = some false := by decide +kernel
@[simp] theorem kit_dict_list : kitB "dict" "list" = some false := by decide +kernel
@[simp] theorem kit_dict_bool : kitB "dict" "bool" = some false := by decide +kernel
@[simp] theorem kit_dict_int : kitB "dict" "int" = some false := by decide +kernel
@[simp] theorem kit_dict_str : kitB "dict" "str" = some false := by decide +kernel
@[simp] theorem kit_dict_dict : kitB "dict" "dict" = some true := by decide +kernel
@[simp] theorem at_0 {α : Type} (a : α) (xs : List α) : atI (a :: xs) 0 = some a := by simp [atI, ixN]
@[simp] theorem at_1 {α : Type} (a b : α) (xs : List α) : atI (a :: b :: xs) 1 = some b := by
  have : (1 : Int) < (xs.length : Int) + 1 + 1 := by omega
  simp [atI, ixN, this]
@[simp] theorem at_2 {α : Type} (a b c : α) (xs : List α) : atI (a :: b :: c :: xs) 2 = some c := by
  have : (2 : Int) < (xs.length : Int) + 1 + 1 + 1 := by omega
  simp [atI, ixN, this]
@[simp] theorem at_3 {α : Type} (a b c d : α) (xs : List α) : atI (a :: b :: c :: d :: xs) 3 = some d := by
  have : (3 : Int) < (xs.length : Int) + 1 + 1 + 1 + 1 := by omega
  simp [atI, ixN, this]
@[simp] theorem at_4 {α : Type} (a b c d e : α) (xs : List α) : atI (a :: b :: c :: d :: e :: xs) 4 = some e := by
  have : (4 : Int) < (xs.length : Int) + 1 + 1 + 1 + 1 + 1 := by omega
  simp [atI, ixN, this]
theorem int_at {ns : List Int} {i : Nat} {z : PyData} (h : (ns.map PyData.int)[i]? = some z) : ∃ u, ns[i]? = some u ∧ z = .int u := by
  rw [List.getElem?_map] at h
  cases e : ns[i]? with
  | none => rw [e] at h; cases h
  | some u => rw [e] at h; exact ⟨u, rfl, (Option.some.inj h).symm⟩
theorem seq_by {d1 d2 : DS} {E : DEnds} {δ : Dl} (J : Dl → Prop) (h2 : ∀ δ', J δ' → d2 E δ') (h1 : ∀ N : Dl → Prop, (∀ δ', J δ' → N δ') → d1 { E with nx := N } δ) : dSeq d1 d2 E δ := h1 _ h2
/-- a comprehension over range(n) -/
theorem oLc_n {da : DE} {i : Nat} {de : DE} {δ : Dl} {Φ : List PyData → Prop} {n : Nat} (hn : n < 1000000) (h : ∀ Ψ : PyData → Prop, Ψ (.int n) → da δ Ψ) (P : List PyData → Prop) (h0 : P [])
    (hs : ∀ (k : Nat) (acc : List PyData) (Ψ : PyData → Prop), k < n → acc.length = k → P acc → (∀ z, P (acc ++ [z]) → Ψ z) → de (δ.set i (some (.d (.int k)))) Ψ) (hΦ : ∀ acc, acc.length = n → P acc → Φ acc) : oLc (iR1 da) i dYes de δ Φ := by
  unfold oLc
  refine h _ ⟨n, rfl, by omega, by omega, fun k acc => acc.length = k ∧ P acc, ⟨rfl, h0⟩, fun k y acc hy ha => ?_, fun acc ha => ?_⟩
  · obtain ⟨hk, rfl⟩ := rng_get hy
    have hk : k < n := hk
    unfold dYes
    dsimp only
    rw [if_pos rfl]
    rw [show (0 : Int) + (k : Int) = (k : Int) from Int.zero_add _]
    refine hs k acc _ hk ha.1 ha.2 fun z hz => ⟨?_, ?_, hz⟩
    · rw [ha.1]
      exact Nat.lt_of_lt_of_le (show k < 1000000 by omega) (by decide)
    · rw [List.length_append, ha.1]; rfl
  · rw [rng_len] at ha
    exact hΦ acc ha.1 ha.2
/-- a comprehension over a walked list, its answer a function of the items -/
theorem oLc_map {di : DI} {i : Nat} {de : DE} {δ : Dl} {Φ : List PyData → Prop} {xs : List PyData} (F : PyData → PyData) (hn : xs.length < 1000000) (h : ∀ Ψ : List PyData → Prop, Ψ xs → di δ Ψ)
    (hs : ∀ (k : Nat) (y : PyData) (Ψ : PyData → Prop), xs[k]? = some y → Ψ (F y) → de (δ.set i (some (.d y))) Ψ) (hΦ : Φ (xs.map F)) : oLc di i dYes de δ Φ := by
  unfold oLc
  refine h _ ⟨fun k acc => acc = (xs.take k).map F, by simp, fun k y acc hy ha => ?_, fun acc ha => ?_⟩
  · subst ha
    unfold dYes
    dsimp only
    rw [if_pos rfl]
    have hk := (List.getElem?_eq_some_iff.mp hy).1
    refine hs k y _ hy ⟨?_, ?_⟩
    · rw [List.length_map, List.length_take]
      exact Nat.lt_of_lt_of_le (show min k xs.length < 1000000 by omega) (by decide)
    · rw [List.take_add_one, hy, List.map_append]
      rfl
  · subst ha
    rw [List.take_length]
    exact hΦ
theorem depth_ints : ∀ ns : List Int, PyData.depthAll (ns.map PyData.int) = 0
  | [] => rfl
  | _ :: r => by simp only [List.map_cons, PyData.depthAll, PyData.depth, depth_ints r, Nat.max_self]
/-! ### data without texts: they compare by themselves -/
theorem canLay_ints : ∀ ns : List Int, PyData.canLayAll0 (ns.map PyData.int) = true
  | [] => rfl
  | _ :: r => by simp only [List.map_cons, PyData.canLayAll0, PyData.canLay0, canLay_ints r, Bool.and_self]
theorem eqvAll_ints : ∀ a b : List Int, PyData.eqvAll (a.map PyData.int) (b.map PyData.int) = decide (a = b)
  | [], [] => by simp [PyData.eqvAll]
  | [], _ :: _ => by simp [PyData.eqvAll]
  | _ :: _, [] => by simp [PyData.eqvAll]
  | x :: a, y :: b => by
    simp only [List.map_cons, PyData.eqvAll, eqv_ii, eqvAll_ints a b, List.cons.injEq]
    by_cases h : x = y <;> by_cases k : a = b <;> simp [h, k]
@[simp] theorem eqv_ints (a b : List Int) : PyData.eqv (.list (a.map PyData.int)) (.list (b.map PyData.int)) = decide (a = b) := by
  rw [PyData.eqv, eqvAll_ints]
@[simp] theorem shaped_ints (ns : List Int) : SeqAt.shaped (.list (ns.map PyData.int)) = true := by
  unfold SeqAt.shaped
  rw [PyData.canLay0, canLay_ints, PyData.depth, depth_ints]
  rfl
@[simp] theorem shaped_intsT (ns : List Int) : SeqAt.shaped (.tuple (ns.map PyData.int)) = true := by
  unfold SeqAt.shaped
  rw [PyData.canLay0, canLay_ints, PyData.depth, depth_ints]
  rfl
@[simp] theorem shaped_i (i : Int) : SeqAt.shaped (.int i) = true := rfl
/-! ### more statements and expressions -/
section
variable {C : Ctx} {f f1 f2 f3 : Bool} {ta tb tc td : TE} {da db dc dd : DE}
@[simp] def dPar (i j : Nat) (da db : DE) : DS := fun E δ => da δ fun x => db δ fun y => E.nx ((δ.set i (some (.d x))).set j (some (.d y)))
theorem sms_par (i j : Nat) (ha : Sm C true ta da) (hb : Sm C true tb db) : SmS C (tPar i j (tCons ta (tCons tb tNil))) (dPar i j da db) := fun σ δ H0 H E D s w e =>
  ha σ δ H0 H _ _ s w fun H01 H1 v x g1 r1 w1 => hb σ δ H01 H1 _ _ (s.go g1) w1 fun H02 H2 u y g2 r2 w2 =>
    ⟨v, u, rfl, e.nx _ _ _ _ (g1.fz.trans g2.fz) ((((s.go g1).go g2).set_d i (Rp.mono g2.fz r1)).set_d j r2) w2⟩
@[simp] def dChain (g g' : PyData → PyData → (PyData → Prop) → Prop) (da db dc : DE) : DE := fun δ Φ => da δ fun x => db δ fun y => g x y fun z => ∃ k, z = .bool k ∧ if k = true then dc δ fun w => g' y w Φ else Φ (.bool false)
theorem sm_chain {r r' : R2} {g g' : PyData → PyData → (PyData → Prop) → Prop} (hr : OpD C r g) (hr' : OpD C r' g') (ha : Sm C f1 ta da) (hb : Sm C f2 tb db) (hc : Sm C f3 tc dc) : Sm C f (tChain r r' ta tb tc) (dChain g g' da db dc) := fun σ δ H0 H Φ Q s w q =>
  ha σ δ H0 H _ _ s w fun H01 H1 v x g1 r1 w1 => hb σ δ H01 H1 _ _ (s.go g1) w1 fun H02 H2 u y g2 r2 w2 =>
    hr H2 v u x y _ _ ((r1.mono g2.loc).mono g2.wf.loc) (r2.mono g2.wf.loc) w2 fun w' z hz ⟨k, e, p⟩ => by
      subst e
      have hz := hz H2
      cases hz
      refine ⟨k, rfl, ?_⟩
      cases k with
      | false => exact iteF (q _ _ _ _ (g1.trans g2) (.bl false) (by simpa using p))
      | true =>
        exact iteT (hc σ δ H02 H2 _ _ ((s.go g1).go g2) (by simpa using p) fun H03 H3 t w3 g3 r3 p3 =>
          hr' H3 u t y w3 Φ Q ((r2.mono g3.loc).mono g3.wf.loc) (r3.mono g3.wf.loc) p3 fun w' z hz p => q _ _ w' z ((g1.trans g2).trans g3) (hz _) p)
/-- an object that is not frozen, new since the start, is written -/
theorem Go.wr {H0 H H0' H' : Hp} {p : Addr} {o : HO} (w : Wf C H0 H) (hp : H p = none) (g : Go C H0 H H0' H') (hn : H0' p = none) : Go C H0 H H0' (upd H' p o) := by
  obtain ⟨he, nex⟩ := Go.he w hp
  refine ⟨⟨fun b u e => ?_, fun b u n e => ?_, g.wf.fz, g.wf.nw, fun c e => ?_⟩, g.fz, fun b u n e => ?_, g.nw⟩
  · rw [upd_ne (fun z => by rw [z, hn] at e; cases e)]; exact g.wf.sub b u e
  · rw [upd_ne (fun z => by rw [z, he] at e; cases e)]; exact g.wf.kp b u n e
  · obtain ⟨c', i', v', s', cells, q1, q2, q3, q4⟩ := g.wf.dr c e
    exact ⟨c', i', v', s', cells, by rw [upd_ne (fun z => nex (by rw [← z]; exact e))]; exact q1, q2, q3, q4⟩
  · rw [upd_ne (fun z => by rw [z, hp] at e; cases e)]; exact g.kp b u n e
/-- {k1: a, k2: b, k3: c}[d], the keys written texts -/
@[simp] def dMenu3 (k1 k2 k3 : Str) (da db dc dd : DE) : DE := fun δ Φ => da δ fun x => db δ fun y => dc δ fun z => ∃ i j k, x = .int i ∧ y = .int j ∧ z = .int k ∧ ¬ k2 = k1 ∧ ¬ k3 = k1 ∧ ¬ k3 = k2 ∧ dd δ fun t => ∃ s, t = .str s ∧
  ((s = k1 ∧ Φ (.int i)) ∨ (s = k2 ∧ Φ (.int j)) ∨ (s = k3 ∧ Φ (.int k)))
theorem sm_menu3 {k1 k2 k3 : Str} (ha : Sm C f1 ta da) (hb : Sm C f2 tb db) (hc : Sm C f3 tc dc) (hd : Sm C false td dd) : Sm C f (tDGet (tDisp [(tC (.str k1), ta), (tC (.str k2), tb), (tC (.str k3), tc)]) td) (dMenu3 k1 k2 k3 da db dc dd) := fun σ δ H0 H Φ Q s w q => by
  intro p hp
  have gp : Go C H0 H H0 (upd H p (.dK [])) := Go.free s.toWf hp
  have nex := (Go.he s.toWf hp).2
  refine ha σ δ H0 _ _ _ (s.go gp) w fun H01 H1 v x g1 r1 w1 => hb σ δ H01 H1 _ _ ((s.go gp).go g1) w1 fun H02 H2 u y g2 r2 w2 => hc σ δ H02 H2 _ _ (((s.go gp).go g1).go g2) w2 fun H03 H3 t z g3 r3 w3 => ?_
  have g123 := (g1.trans g2).trans g3
  have hk : H3 p = some (.dK []) := g123.kp p _ nex upd_same
  have g0 := gp.trans g123
  have hn : H03 p = none := by
    cases e : H03 p with
    | none => rfl
    | some o =>
      rcases g123.nw p o e with h | h
      · rw [s.toWf.none hp] at h; cases h
      · rw [upd_same] at h; cases h
  obtain ⟨i, j, k, rfl, rfl, rfl, n1, n2, n3, w4⟩ := w3
  cases r1
  cases r2
  cases r3
  have m1 : mergeK [] [((.inr k1 : Key), V.int i), (.inr k2, .int j), (.inr k3, .int k)] = [((.inr k1 : Key), V.int i), (.inr k2, .int j), (.inr k3, .int k)] := by
    simp [mergeK, putK, Ne.symm n1, Ne.symm n2, Ne.symm n3, n1, n2, n3]
  refine ⟨hk, [((.inr k1 : Key), V.int i), (.inr k2, .int j), (.inr k3, .int k)], rfl, by simp, ?_⟩
  rw [m1]
  have g4 := Go.wr (o := .dK [((.inr k1 : Key), V.int i), (.inr k2, .int j), (.inr k3, .int k)]) s.toWf hp g0 hn
  refine hd σ δ H03 _ _ _ (s.go g4) w4 fun H05 H5 v5 x5 g5 r5 ⟨st, e5, p5⟩ => ?_
  subst e5
  cases r5
  have h5 : H5 p = some (.dK [((.inr k1 : Key), V.int i), (.inr k2, .int j), (.inr k3, .int k)]) := g5.kp p _ nex upd_same
  rcases p5 with ⟨rfl, p5⟩ | ⟨rfl, p5⟩ | ⟨rfl, p5⟩
  · refine ⟨p, .int i, rfl, .inl ⟨_, .inr st, .inl h5, rfl, ?_⟩, q _ _ _ _ (g4.trans g5) (.int i) p5⟩
    simp [valV]
  · refine ⟨p, .int j, rfl, .inl ⟨_, .inr st, .inl h5, rfl, ?_⟩, q _ _ _ _ (g4.trans g5) (.int j) p5⟩
    simp [valV, Ne.symm n1]
  · refine ⟨p, .int k, rfl, .inl ⟨_, .inr st, .inl h5, rfl, ?_⟩, q _ _ _ _ (g4.trans g5) (.int k) p5⟩
    simp [valV, Ne.symm n2, Ne.symm n3]
/-- an item of a written dict with text keys -/
def KdL (K : PySem.W.Frag) (w : World) (a : Addr) (L : List (Str × PyData)) : Prop := ∀ k v, (k, v) ∈ L → ∃ u, KDct K w a k u ∧ isScalV u = some v
theorem KdL.nil {K : PySem.W.Frag} {w : World} {a : Addr} : KdL K w a [] := fun _ _ h => nomatch h
theorem KdL.cons {K : PySem.W.Frag} {w : World} {a : Addr} {L : List (Str × PyData)} {k : Str} {v : PyData} {u : V} (h : KDct K w a k u) (e : isScalV u = some v) (t : KdL K w a L) : KdL K w a ((k, v) :: L) := fun k' v' h' => by
  rcases List.mem_cons.mp h' with h' | h'
  · cases h'; exact ⟨u, h, e⟩
  · exact t k' v' h'
theorem kd_i {K : PySem.W.Frag} {w : World} {a : Addr} {es : Array DictEntry} {n : Nat} {k : Str} {i : Int} {t : Tok} (h : K.lookup a = some ⟨.type "dict", none, .dict es n, #[]⟩) (hk : PySem.W.KeysLit w.params es.toList) (e : PySem.W.nsIn K a k = some (some (.int i t))) : KDct K w a k (.int i) := ⟨es, n, _, h, hk, e, ⟨t, rfl⟩⟩
theorem kd_s {K : PySem.W.Frag} {w : World} {a : Addr} {es : Array DictEntry} {n : Nat} {k : Str} {i : Str} {t : Tok} (h : K.lookup a = some ⟨.type "dict", none, .dict es n, #[]⟩) (hk : PySem.W.KeysLit w.params es.toList) (e : PySem.W.nsIn K a k = some (some (.str i t))) : KDct K w a k (.str i) := ⟨es, n, _, h, hk, e, ⟨t, rfl⟩⟩
theorem kx_kdict {X : Cx} {K : PySem.W.Frag} {w : World} (h : X.K = K) (h2 : X.w = w) : IxR X (rIxD K w) := by subst h h2; exact ix_kdict
@[simp] def dKd (L : List (Str × PyData)) (db : DE) : DE := fun δ Φ => db δ fun y => ∃ s v, y = .str s ∧ (s, v) ∈ L ∧ Φ v
theorem sm_kd {w : World} {a : Addr} {L : List (Str × PyData)} {v : V} (hv : v = .ref a) (hL : KdL C.K w a L) (hb : Sm C f1 tb db) : Sm C f (tOp (rIxD C.K w) (tC v) tb) (dKd L db) := fun σ δ H0 H Φ Q s w q =>
  hb σ δ H0 H _ _ s w fun H01 H1 u y g1 r1 ⟨st, z, e, m, p⟩ => by
    subst e
    cases r1
    obtain ⟨z', h1, h2⟩ := hL _ _ m
    exact ⟨a, st, z', hv, rfl, h1, q _ _ _ _ g1 (isScal_rp h2 _) p⟩
/-- a part of a text -/
abbrev DP := Dl → (Option Int → Prop) → Prop
def SmP (C : Ctx) (tp : TO) (dp : DP) : Prop := ∀ (σ : L2.St) (δ : Dl) (H0 H : Hp) (Φ : Option Int → Prop) (Q : Option Int → Hp → Prop), St C H0 H σ δ → dp δ Φ → (∀ H0' H' o, Go C H0 H H0' H' → Φ o → Q o H') → tp σ H Q
@[simp] def pNone : DP := fun _ Φ => Φ none
@[simp] def pSome (da : DE) : DP := fun δ Φ => da δ fun x => ∃ i, x = .int i ∧ Φ (some i)
theorem smp_none : SmP C tNoPart pNone := fun σ δ H0 H Φ Q s w q => q H0 H _ (.refl s.toWf) w
theorem smp_some (ha : Sm C f1 ta da) : SmP C (tPart ta) (pSome da) := fun σ δ H0 H Φ Q s w q =>
  ha σ δ H0 H _ _ s w fun H01 H1 v x g1 r1 ⟨i, e, p⟩ => by
    subst e
    cases r1
    exact ⟨i, rfl, q _ _ _ g1 p⟩
@[simp] def dSlS (da : DE) (dl dh : DP) : DE := fun δ Φ => da δ fun x => dl δ fun l => dh δ fun u => ∃ z, x = .str z ∧ z.length ≤ sizeLine ∧ Φ (.str (cutS z l u))
variable {tl th : TO} {dl dh : DP}
theorem sm_sl_str (ha : Sm C f1 ta da) (hl : SmP C tl dl) (hh : SmP C th dh) : Sm C f (tSl rSlS ta tl th) (dSlS da dl dh) := fun σ δ H0 H Φ Q s w q =>
  ha σ δ H0 H _ _ s w fun H01 H1 v x g1 r1 w1 => hl σ δ H01 H1 _ _ (s.go g1) w1 fun H02 H2 l g2 w2 => hh σ δ H02 H2 _ _ ((s.go g1).go g2) w2 fun H03 H3 u g3 ⟨z, e, hz, p⟩ => by
    subst e
    cases r1
    exact ⟨z, rfl, hz, q _ _ _ _ ((g1.trans g2).trans g3) (.str _) p⟩
end
/-! ### data without dicts, of a bounded depth and length -/
inductive Okd : Nat → PyData → Prop
  | none {n : Nat} : Okd n .none
  | bool {n : Nat} (b : Bool) : Okd n (.bool b)
  | int {n : Nat} (i : Int) : Okd n (.int i)
  | str {n : Nat} {s : Str} (h : PyData.canLay0 (.str s) = true) : Okd n (.str s)
  | list {n : Nat} {xs : List PyData} (h : ∀ y ∈ xs, Okd n y) (hl : xs.length ≤ 1000000) : Okd (n + 1) (.list xs)
  | tuple {n : Nat} {xs : List PyData} (h : ∀ y ∈ xs, Okd n y) (hl : xs.length ≤ 1000000) : Okd (n + 1) (.tuple xs)
theorem Okd.mono {n m : Nat} {x : PyData} (h : Okd n x) (hm : n ≤ m) : Okd m x := by
  induction h generalizing m with
  | none => exact .none
  | bool b => exact .bool b
  | int i => exact .int i
  | str h => exact .str h
  | list h hl ih =>
    obtain ⟨k, rfl⟩ : ∃ k, m = k + 1 := ⟨m - 1, by omega⟩
    exact .list (fun y hy => ih y hy (by omega)) hl
  | tuple h hl ih =>
    obtain ⟨k, rfl⟩ : ∃ k, m = k + 1 := ⟨m - 1, by omega⟩
    exact .tuple (fun y hy => ih y hy (by omega)) hl
theorem depthAll_le {n : Nat} : ∀ {xs : List PyData}, (∀ y ∈ xs, y.depth ≤ n) → PyData.depthAll xs ≤ n
  | [], _ => by rw [PyData.depthAll]; exact Nat.zero_le _
  | x :: xs, h => by
    rw [PyData.depthAll]
    exact Nat.max_le.mpr ⟨h x List.mem_cons_self, depthAll_le fun y hy => h y (List.mem_cons_of_mem _ hy)⟩
theorem layAll_of : ∀ {xs : List PyData}, (∀ y ∈ xs, y.canLay0 = true) → PyData.canLayAll0 xs = true
  | [], _ => by rw [PyData.canLayAll0]
  | x :: xs, h => by
    rw [PyData.canLayAll0, h x List.mem_cons_self, layAll_of fun y hy => h y (List.mem_cons_of_mem _ hy)]
    rfl
theorem Okd.depth {n : Nat} {x : PyData} (h : Okd n x) : x.depth ≤ n := by
  induction h with
  | none => rw [PyData.depth]; exact Nat.zero_le _
  | bool b => rw [PyData.depth]; exact Nat.zero_le _
  | int i => rw [PyData.depth]; exact Nat.zero_le _
  | str h => rw [PyData.depth]; exact Nat.zero_le _
  | list h hl ih => rw [PyData.depth]; exact Nat.succ_le_succ (depthAll_le ih)
  | tuple h hl ih => rw [PyData.depth]; exact Nat.succ_le_succ (depthAll_le ih)
theorem Okd.lay {n : Nat} {x : PyData} (h : Okd n x) : x.canLay0 = true := by
  induction h with
  | none => rw [PyData.canLay0]
  | bool b => rw [PyData.canLay0]
  | int i => rw [PyData.canLay0]
  | str h => exact h
  | list h hl ih => rw [PyData.canLay0]; exact layAll_of ih
  | tuple h hl ih => rw [PyData.canLay0]; exact layAll_of ih
theorem Okd.shaped {n : Nat} {x : PyData} (h : Okd n x) (hn : n ≤ 64) : SeqAt.shaped x = true := by
  unfold SeqAt.shaped
  rw [h.lay, decide_eq_true (Nat.le_trans h.depth hn)]
  rfl
/-! ### texts: a sign in a text, texts joined -/
section
variable {C : Ctx} {f f1 f2 : Bool} {ta tb : TE} {da db : DE}
@[simp] def gInS (neg : Bool) : PyData → PyData → (PyData → Prop) → Prop := fun x y Φ => ∃ (c : Nat) (z : Str), x = .str ⟨#[c]⟩ ∧ y = .str z ∧ Φ (.bool (if neg then !decide (c ∈ z.cps.toList) else decide (c ∈ z.cps.toList)))
theorem opd_inS : OpD C (fun x y H Q => ∃ (c : Nat) (z : Str), x = .str ⟨#[c]⟩ ∧ y = .str z ∧ Q (.bl (decide (c ∈ z.cps.toList))) H) (gInS false) := fun H v u x y Φ Q rv ru ⟨c, z, e1, e2, p⟩ q => by
  subst e1 e2
  cases rv
  cases ru
  exact ⟨c, z, rfl, rfl, q _ _ (fun _ => .bl _) p⟩
theorem opd_niS : OpD C (fun x y H Q => ∃ (c : Nat) (z : Str), x = .str ⟨#[c]⟩ ∧ y = .str z ∧ Q (.bl (!decide (c ∈ z.cps.toList))) H) (gInS true) := fun H v u x y Φ Q rv ru ⟨c, z, e1, e2, p⟩ q => by
  subst e1 e2
  cases rv
  cases ru
  exact ⟨c, z, rfl, rfl, q _ _ (fun _ => .bl _) p⟩
theorem rpa_strs {K : PySem.W.Frag} {H : Hp} : ∀ {vs : List V} {ys : List Str}, RpA K H vs (ys.map .str) → vs = ys.map V.str
  | _, [], .nil => rfl
  | _, y :: ys, .cons h r => by
    cases h
    rw [rpa_strs r]
    rfl
@[simp] def gCatT : PyData → PyData → (PyData → Prop) → Prop := fun x y Φ => ∃ a b, x = .str a ∧ y = .str b ∧ a.length + b.length ≤ sizeLine ∧ Φ (.str (a ++ b))
theorem opd_catS : OpD C (fun x y H Q => ∃ i j, x = V.str i ∧ y = V.str j ∧ i.length + j.length ≤ sizeLine ∧ Q (V.str (i ++ j)) H) gCatT := fun H v u x y Φ Q rv ru ⟨a, b, e1, e2, e3, p⟩ q => by
  subst e1 e2
  cases rv
  cases ru
  exact ⟨a, b, rfl, rfl, e3, q _ _ (fun _ => .str _) p⟩
@[simp] def dJoin (da db : DE) : DE := fun δ Φ => da δ fun x => ∃ a, x = .str a ∧ db δ fun y => ∃ ys : List Str, y = .list (ys.map .str) ∧ (ys.map (·.length)).sum + ys.length * a.length ≤ 16777216 ∧ Φ (.str (Txt.join a ys))
theorem sm_join (ha : Sm C f1 ta da) (hb : Sm C f2 tb db) : Sm C f (tM1 (fun x xs H Q => ∃ a p, ∃ ys : List Str, x = V.str a ∧ xs = [V.ref p] ∧ (SqL C.K H p (ys.map V.str) ∨ SqT C.K H p (ys.map V.str)) ∧ (ys.map (fun x => x.length)).sum + ys.length * a.length ≤ 16777216 ∧ Q (V.str (Txt.join a ys)) H) ta tb) (dJoin da db) := fun σ δ H0 H Φ Q s w q =>
  ha σ δ H0 H _ _ s w fun H01 H1 v x g1 r1 ⟨a, e, w1⟩ => by
    subst e
    cases r1
    refine ⟨⟨a, rfl⟩, hb σ δ H01 H1 _ _ (s.go g1) w1 fun H02 H2 u y g2 r2 ⟨ys, e, hl, p⟩ => ?_⟩
    subst e
    cases r2 with
    | lst h r =>
      have e := rpa_strs r
      subst e
      exact ⟨a, _, ys, rfl, rfl, .inl (SqL.of (g2.wf.loc _ _ h)), hl, q _ _ _ _ (g1.trans g2) (.str _) p⟩
end
/-! ### a part of a list, as a new list -/
section
variable {C : Ctx} {f f1 f2 : Bool} {ta tb : TE} {da db : DE} {tl th : TO} {dl dh : DP}
def cutDt (xs : List PyData) (lo hi : Option Int) : List PyData := List.take (HT.sIx xs.length xs.length hi - HT.sIx xs.length 0 lo) (List.drop (HT.sIx xs.length 0 lo) xs)
theorem rpa_drop {K : PySem.W.Frag} {H : Hp} : ∀ (n : Nat) {vs : List V} {xs : List PyData}, RpA K H vs xs → RpA K H (vs.drop n) (xs.drop n)
  | 0, _, _, h => h
  | n + 1, _, _, .nil => by rw [List.drop_nil, List.drop_nil]; exact .nil
  | n + 1, _, _, .cons _ r => rpa_drop n r
theorem rpa_take {K : PySem.W.Frag} {H : Hp} : ∀ (n : Nat) {vs : List V} {xs : List PyData}, RpA K H vs xs → RpA K H (vs.take n) (xs.take n)
  | 0, _, _, _ => .nil
  | n + 1, _, _, .nil => .nil
  | n + 1, _, _, .cons h r => .cons h (rpa_take n r)
theorem rpa_cut {K : PySem.W.Frag} {H : Hp} {vs : List V} {xs : List PyData} (r : RpA K H vs xs) (lo hi : Option Int) : RpA K H (cutV vs lo hi) (cutDt xs lo hi) := by
  unfold cutV cutDt
  rw [r.length]
  exact rpa_take _ (rpa_drop _ r)
@[simp] def oSlice (da : DE) (dl dh : DP) : DO := fun δ Φ => da δ fun x => dl δ fun l => dh δ fun u => ∃ xs, x = .list xs ∧ Φ (cutDt xs l u)
theorem smo_slice (ha : Sm C true ta da) (hl : SmP C tl dl) (hh : SmP C th dh) : SmO C (tSl (rSlL C.K) ta tl th) (oSlice da dl dh) := fun σ δ H0 H Φ Q s w q =>
  ha σ δ H0 H _ _ s w fun H01 H1 v x g1 r1 w1 => hl σ δ H01 H1 _ _ (s.go g1) w1 fun H02 H2 l g2 w2 => hh σ δ H02 H2 _ _ ((s.go g1).go g2) w2 fun H03 H3 u g3 ⟨xs, e, p⟩ => by
    subst e
    have r3 := (r1.mono g2.fz).mono g3.fz
    cases r3 with
    | @lst a1 us1 _ h r =>
      refine ⟨_, us1, rfl, SqL.of (g3.wf.sub _ _ h), fun l' hl' => ?_⟩
      exact q _ _ l' _ _ (((g1.trans g2).trans g3).trans (Go.free (o := .lst _) g3.wf hl')) (((g1.trans g2).trans g3).fresh hl') (g3.wf.none hl') upd_same (rpa_cut r _ _) p
end
/-! ### the least and the greatest of a list of numbers; a number as a test -/
section
variable {C : Ctx} {f f1 f2 : Bool} {ta tb : TE} {da db : DE}
theorem rpa_ints {K : PySem.W.Frag} {H : Hp} : ∀ {vs : List V} {ns : List Int}, RpA K H vs (ns.map .int) → vs = ns.map V.int
  | _, [], .nil => rfl
  | _, n :: ns, .cons h r => by
    cases h
    rw [rpa_ints r]
    rfl
@[simp] def gMinL : List PyData → (PyData → Prop) → Prop := fun xs Φ => ∃ ns : List Int, xs = [.list (ns.map .int)] ∧ 0 < ns.length ∧ ∀ m ∈ ns, (∀ y ∈ ns, m ≤ y) → Φ (.int m)
@[simp] def gMaxL : List PyData → (PyData → Prop) → Prop := fun xs Φ => ∃ ns : List Int, xs = [.list (ns.map .int)] ∧ 0 < ns.length ∧ ∀ m ∈ ns, (∀ y ∈ ns, y ≤ m) → Φ (.int m)
theorem cbd_minL : CbD C (rMin C.K) gMinL := fun H vs xs Φ Q r ⟨ns, e, hl, p⟩ q => by
  subst e
  cases r with
  | cons h n =>
    cases n
    cases h with
    | lst h r =>
      have e := rpa_ints r
      subst e
      exact ⟨_, ns, rfl, SqL.of h, hl, fun m hm hle => q _ _ (fun _ => .int _) (p m hm hle)⟩
theorem cbd_maxL : CbD C (rMax C.K) gMaxL := fun H vs xs Φ Q r ⟨ns, e, hl, p⟩ q => by
  subst e
  cases r with
  | cons h n =>
    cases n
    cases h with
    | lst h r =>
      have e := rpa_ints r
      subst e
      exact ⟨_, ns, rfl, SqL.of h, hl, fun m hm hle => q _ _ (fun _ => .int _) (p m hm hle)⟩
@[simp] def dTru (da : DE) : DT := fun δ Φ => da δ fun x => ∃ i : Int, x = .int i ∧ Φ (i != 0)
theorem smt_tru (ha : Sm C f1 ta da) : SmT C (fun σ H Q => ta σ H fun x H' => ∃ k, TruV C.K x H' k ∧ Q k H') (dTru da) := fun σ δ H0 H Φ Q s w q =>
  ha σ δ H0 H _ _ s w fun H01 H1 v x g1 r1 ⟨i, e, w1⟩ => by
    subst e
    cases r1
    exact ⟨_, rfl, q _ _ _ g1 w1⟩
end
/-! ### any and all of a list of booleans; the bits of a number -/
section
variable {C : Ctx} {f f1 f2 : Bool} {ta tb : TE} {da db : DE}
theorem rpa_bools {K : PySem.W.Frag} {H : Hp} : ∀ {vs : List V} {bs : List Bool}, RpA K H vs (bs.map .bool) → vs = bs.map V.bl
  | _, [], .nil => rfl
  | _, n :: ns, .cons h r => by
    cases h
    rw [rpa_bools r]
    rfl
@[simp] def gAnyL : List PyData → (PyData → Prop) → Prop := fun xs Φ => ∃ bs : List Bool, xs = [.list (bs.map .bool)] ∧ Φ (.bool (bs.any id))
@[simp] def gAllL : List PyData → (PyData → Prop) → Prop := fun xs Φ => ∃ bs : List Bool, xs = [.list (bs.map .bool)] ∧ Φ (.bool (bs.all id))
theorem cbd_any : CbD C (rAny C.K) gAnyL := fun H vs xs Φ Q r ⟨bs, e, p⟩ q => by
  subst e
  cases r with
  | cons h n =>
    cases n
    cases h with
    | lst h r =>
      have e := rpa_bools r
      subst e
      exact ⟨_, bs, rfl, SqL.of h, q _ _ (fun _ => .bl _) p⟩
theorem cbd_all : CbD C (rAll C.K) gAllL := fun H vs xs Φ Q r ⟨bs, e, p⟩ q => by
  subst e
  cases r with
  | cons h n =>
    cases n
    cases h with
    | lst h r =>
      have e := rpa_bools r
      subst e
      exact ⟨_, bs, rfl, SqL.of h, q _ _ (fun _ => .bl _) p⟩
theorem sm_bits (ha : Sm C f1 ta da) : Sm C f (fun σ H Q => ta σ H fun x H1 => ∃ i, x = V.int i ∧ Q (V.int (Builtin.Int.intBits i : Nat)) H1) (dUn (fun i => .int (Builtin.Int.intBits i : Nat)) da) := fun σ δ H0 H Φ Q s w q =>
  ha σ δ H0 H _ _ s w fun H01 H1 v x g1 r1 ⟨i, e, p⟩ => by
    subst e
    cases r1
    exact ⟨i, rfl, q H01 H1 _ _ g1 (.int _) p⟩
end
/-! ### a number or-ed, and-ed in place -/
theorem ip_orI {X : Cx} : PIp X .BitOr (ipI fun i j => Builtin.bitOr i j) := fun pins s σ H x y v u Q inv rx ry ⟨i, j, e1, e2, q⟩ => by
  subst e1 e2
  obtain ⟨t, rfl⟩ := rx
  obtain ⟨t', rfl⟩ := ry
  exact PyProof.Rows.ior_int ⟨.int _, H, inv.tok _, ⟨_, rfl⟩, q⟩
theorem ip_andI {X : Cx} : PIp X .BitAnd (ipI fun i j => Builtin.bitAnd i j) := fun pins s σ H x y v u Q inv rx ry ⟨i, j, e1, e2, q⟩ => by
  subst e1 e2
  obtain ⟨t, rfl⟩ := rx
  obtain ⟨t', rfl⟩ := ry
  exact PyProof.Rows.iand_int ⟨.int _, H, inv.tok _, ⟨_, rfl⟩, q⟩
/-! ### enumerate over a tuple -/
def IteT (K : PySem.W.Frag) (a : Addr) : It := { go := fun i H => ∃ xs x, SqT K H a xs ∧ xs[i]? = some x, yld := fun i H v H' => ∃ T x, v = .ref T ∧ H T = none ∧ H' = upd H T (.tup [.int (i : Int), x]) ∧ ∀ xs, SqT K H a xs → xs[i]? = some x, stop := fun i H => ∃ xs, SqT K H a xs ∧ xs.length = i }
theorem paired_len {α β : Type} {F : α → β → Prop} : ∀ {xs : List α} {ys : List β}, Paired F xs ys → xs.length = ys.length
  | _, _, .nil => rfl
  | _, _, .cons _ r => congrArg Nat.succ (paired_len r)
theorem turn_enumT {P : Program} {w : World} {K : PySem.W.Frag} {elts : List Expr} {kk : Nat} {tpos : Pos} (a e it : Addr) : Turn P w K (Expr.Tuple elts kk tpos) (IteT K a) [e, it] e fun i h => (∃ old, IsEnum h e it (i : Int) old) ∧ h.IsTupleIter it a i ∧ e ≠ it ∧ a ≠ it ∧ e ≠ a := by
  refine ⟨by simp, ?_, ?_, ?_, ?_, ?_⟩
  · rintro i h ⟨⟨old, h1⟩, ⟨o, h2, h3, h4⟩, _⟩ b hb
    simp at hb
    rcases hb with rfl | rfl
    · exact ⟨_, h1, fun v q => by cases q⟩
    · exact ⟨o, h2, fun v q => by rw [h4] at q; cases q⟩
  · rintro i h h' ⟨⟨old, h1⟩, ⟨o, h2, h3, h4⟩, h5⟩ hk
    exact ⟨⟨old, hk e (by simp) _ h1⟩, ⟨o, hk it (by simp) _ h2, h3, h4⟩, h5⟩
  · rintro X rfl rfl rfl hcalm i pins s σ H E inv fp ⟨⟨old, h1⟩, h2, n1, n2, n3⟩ ⟨xs, x, hx, hi⟩
    obtain ⟨its, hv, ht, hl⟩ := inv.tuple hx
    obtain ⟨u, hu, ru⟩ := hv.get hi
    have hlt : i < its.length := (List.getElem?_eq_some_iff.mp hu).1
    have h2b := h2
    obtain ⟨oi, hoi, _⟩ := h2b
    have le : e < s.heap.objs.size := Heap.lt_size h1
    have li : it < s.heap.objs.size := Heap.lt_size hoi
    refine wpAny_pyNext_enum_itemD (Draws.tuple (A := X.A.in1) (inv.ok.hd hcalm) it a n2 its.toArray) h1 ⟨h2, ht⟩ hlt n1 (by simp [n1, n3]) fun x' h' tk hp ho hst htup hsz hpres => ?_
    refine ⟨_, rfl, ?_⟩
    refine wpAny_letOwnedTupleGo_enum ho fun h'' hen hsame => ?_
    have hT : H s.heap.objs.size = none := inv.hok.fresh (Nat.le_refl _)
    have e1 : x' = u := by
      have : its[i]? = some x' := by simpa using hp
      rw [hu] at this
      exact (Option.some.inj this).symm
    subst e1
    have neT : s.heap.objs.size ≠ e := fun q => absurd le (by rw [← q]; exact Nat.lt_irrefl _)
    have niT : s.heap.objs.size ≠ it := fun q => absurd li (by rw [← q]; exact Nat.lt_irrefl _)
    refine ⟨.ref s.heap.objs.size, upd H s.heap.objs.size (.tup [.int (i : Int), x]), ?_, rfl, ⟨_, x, rfl, hT, rfl, fun ys hy => by rw [inv.tuple_inj hy hx]; exact hi⟩, ⟨⟨x', hen⟩, ?_, n1, n2, n3⟩, fun b hb => ?_⟩
    · refine Inv.turnedNew (s := s) (t' := tk + 1) (ch := [e, it]) inv (fun b o hb hg => ?_) fp (Nat.le_refl _) ?_
      · simp at hb
        rw [hsame.2 b hb.1]
        exact hpres b o hb.1 hb.2 hg
      · exact ⟨show 2 ≤ sizeLine by decide, [Value.int (i : Int) tk, x'], .cons ⟨tk, rfl⟩ (.cons ru .nil), _, (by rw [hsame.2 _ neT]; exact htup), rfl, _, rfl⟩
    · obtain ⟨o, o1, o2⟩ := hst.1
      exact ⟨o, by rw [hsame.2 it n1.symm]; exact o1, o2⟩
    · simp at hb
      rcases hb with rfl | rfl
      · rw [upd_ne neT.symm]; exact (fp b (by simp)).1
      · rw [upd_ne niT.symm]; exact (fp b (by simp)).1
  · rintro X rfl rfl rfl hcalm i pins s σ H E inv fp ⟨⟨old, h1⟩, h2, n1, n2, n3⟩ ⟨xs, hx, hi⟩
    obtain ⟨its, hv, ht, hl⟩ := inv.tuple hx
    have hn : its.toArray.size = i := by
      rw [List.size_toArray, ← paired_len hv]
      exact hi
    subst hn
    refine wpAny_pyNext_enum_endD (Draws.tuple (A := X.A.in1) (inv.ok.hd hcalm) it a n2 its.toArray) h1 ⟨h2, ht⟩ fun h' hext => ⟨rfl, ?_⟩
    obtain ⟨f1, f2, f3, f4, f5, f6⟩ := fp it (by simp)
    exact Inv.turned inv hext f1 f2 f4 f5 f6
  · rintro A i s Q E ⟨⟨old, h1⟩, h2⟩ hq
    exact wpAny_pyIter_enum h1 hq
theorem newc (v : Value) : Builtin.SmallTypes.newClass "enumerate" { pos := [Value.type "enumerate", v] } = pure (Value.type "enumerate", [v]) := by
  unfold Builtin.SmallTypes.newClass
  show (do let a ← isSubtype (Value.type "enumerate") (Value.type "enumerate"); _) = _
  rw [sub_enumerate]
  rfl
theorem wp_ite {M : Model} {A : Around} {α : Type} {E : Value → Shared → Prop} {s : Shared} {Q : α → Shared → Prop} {c : Prop} {d : Decidable c} {t u : Sem α} (h1 : wpAny M A t Q E s) (h2 : wpAny M A u Q E s) : wpAny M A (@ite _ c d t u) Q E s := by
  split
  · exact h1
  · exact h2
theorem wp_else {M : Model} {A : Around} {α : Type} {E : Value → Shared → Prop} {s : Shared} {Q : α → Shared → Prop} {c : Prop} {d : Decidable c} {t u : Sem α} (h : ¬ c) (h2 : wpAny M A u Q E s) : wpAny M A (@ite _ c d t u) Q E s := by
  rw [if_neg h]
  exact h2
theorem meets_enum1 {v : Value} {o : Obj} {H : Heap → Prop} (hb : Begins v o H) : Meets (Builtin.«enumerate.__new__» { pos := [Value.type "enumerate", v] }) (fun A R s => H s.heap ∧ R (.ok (.ret (Value.ref (s.heap.push o).objs.size))) { heap := (s.heap.push o).push { cls := Value.type "enumerate", data := Data.fields #[Value.none, Value.bool false, Value.ref s.heap.objs.size, rawInt 0, Value.none, Value.none] }, gens := s.gens, drawn := s.drawn, toks := s.toks, os := s.os }) := by
  refine Meets.of_wp fun prog w A R s h => ?_
  obtain ⟨hh, hr⟩ := h
  unfold Builtin.«enumerate.__new__»
  refine wpAny_bind ?_
  refine wpAny_of_eq (newc v) ?_
  dsimp only
  rw [if_pos (by decide)]
  refine wpAny_bind ?_
  unfold Builtin.SmallTypes.calledThroughType
  refine wpAny_bind ?_
  refine wpAny_stack_any fun st => ?_
  refine wpAny_pure ?_
  have fin : wpAny (model prog w) A.in1 (do
      let i ← pyIter v
      let r ← Builtin.SmallTypes.newRecord (Value.type "enumerate") (Builtin.SmallTypes.ownedTupleFields ++ [i, rawInt 0, Value.none, Value.none])
      ret r) (fun fin s' => ∃ v, fin = Fin.done (Flow.ret v) ∧ R (Except.ok (Flow.ret v)) s') (fun e s' => R (Except.error e) s') s := by
    refine wpAny_bind ?_
    refine hb.iter prog w A.in1 _ s _ hh ?_
    refine wpAny_bind ?_
    unfold Builtin.SmallTypes.newRecord
    dsimp only
    unfold newObj
    dsimp only
    refine wp_else (show ¬ 6 > sizeLine + 2 by decide) ?_
    unfold newObjAsIs
    refine wpAny_bind ?_
    refine wpAny_alloc' ?_
    refine wpAny_pure ?_
    exact wpAny_pure ⟨_, rfl, hr⟩
  refine wp_ite ?_ ?_
  · refine wpAny_bind ?_
    refine wpAny_of_eq (a := (v, none)) rfl ?_
    exact fin
  · refine wpAny_bind ?_
    refine wpAny_of_eq (a := (v, none)) rfl ?_
    exact fin

theorem call_enum1 {prog : Program} {w : World} {A : Around} {E : Value → Shared → Prop} {s : Shared} {v : Value} {o : Obj} {H : Heap → Prop} {Q : Value → Shared → Prop} (hb : Begins v o H) (hh : H s.heap)
    (hq : ∀ (h' : Heap), IsEnum h' (s.heap.objs.size + 1) s.heap.objs.size 0 Value.none → h'.get? s.heap.objs.size = some o → h'.objs.size = s.heap.objs.size + 2 → (∀ (b : Addr) (o : Obj), s.heap.get? b = some o → h'.get? b = some o) → Q (Value.ref (s.heap.objs.size + 1)) { heap := h', gens := s.gens, drawn := s.drawn, toks := s.toks, os := s.os }) :
    wpAny (model prog w) A (call (Value.type "enumerate") [v]) Q E s := by
  refine callType_new F.called_enumerate (by decide) (F.typeCall_enumerate_1 _) (F.newCall_enumerate_1 _) (fun obj => F.args_object_init_2 _ _) F.entry_enumerate_new (meets_enum1 hb) ⟨hh, ?_⟩
  have e1 : (s.heap.push o).objs.size = s.heap.objs.size + 1 := Heap.size_push _ _
  have g1 : (s.heap.push o).get? s.heap.objs.size = some o := Heap.get?_push_size _ hb.free
  have g2 := Heap.get?_push_size (s.heap.push o) (o := { cls := Value.type "enumerate", data := Data.fields #[Value.none, Value.bool false, Value.ref s.heap.objs.size, rawInt 0, Value.none, Value.none] }) rfl
  refine ⟨⟨_, g2, rfl⟩, ?_⟩
  rw [e1] at g2 ⊢
  refine hq _ g2 (Heap.get?_push_of_some _ g1) ?_ (fun b o' h => Heap.get?_push_of_some _ (Heap.get?_push_of_some _ h))
  rw [Heap.size_push, e1]

def iEnumT : PySem.W.Frag → TA → TI := fun K ta σ H R => ta σ H fun vs H1 => ∃ a xs, vs = [V.ref a] ∧ SqT K H1 a xs ∧ R (IteT K a) H1
theorem pi_enumT {X : Cx} {e : Expr} {ta : TA} {p pos tpos : Pos} {elts : List Expr} {kk : Nat} (hg : Gl X "enumerate") (hm : X.mg "enumerate" = none) (ha : PA X [e] ta) (hs : starEach [e] X.env = [(false, eval e X.env)] := by rfl) : PI X (Expr.Tuple elts kk tpos) ((Expr.Name "enumerate" p).Call [e] [] pos) (iEnumT X.K ta) := ⟨fun pins s σ H R inv h => by
  refine PyProof.Rows.Call_ (ld_blt inv hg hm PyProof.Rows.boot_enumerate ?_)
  refine PyProof.Rows.callWith_type1 (thn (ha.run pos pins s σ H _ inv h) fun us s1 ap => ?_) (by rw [hs]; rfl)
  obtain ⟨vs, H1, inv1, hv, a, xs, rfl, hx, hr⟩ := ap
  cases hv with
  | cons r n =>
    cases n
    obtain rfl := r
    obtain ⟨its, hv2, ht, hl⟩ := inv1.tuple hx
    have ht2 := ht
    obtain ⟨oa, hoa, _⟩ := ht2
    have la := Heap.lt_size hoa
    refine call_enum1 (begins_tuple a its.toArray) ht fun h' h1 h2 h3 h4 => ?_
    refine wpAny_pyIter_enum h1 ?_
    have na : a ≠ s1.heap.objs.size := fun q => absurd la (by rw [q]; exact Nat.lt_irrefl _)
    have ne : s1.heap.objs.size + 1 ≠ a := fun q => absurd la (by rw [← q]; exact Nat.not_lt.mpr (Nat.le_succ _))
    refine ⟨_, [s1.heap.objs.size + 1, s1.heap.objs.size], _, IteT X.K a, H1, rfl, inv1.kept (t' := s1.toks) h4, turn_enumT a (s1.heap.objs.size + 1) s1.heap.objs.size, ⟨⟨_, h1⟩, ⟨_, h2, rfl, rfl⟩, Nat.succ_ne_self _, na, ne⟩, fun b hb => ?_, hr⟩
    simp at hb
    have hle : s1.heap.objs.size ≤ b := by
      rcases hb with rfl | rfl
      · exact Nat.le_succ _
      · exact Nat.le_refl _
    exact inv1.fpOk hle (inv1.hok.fresh hle)⟩

section
variable {C : Ctx} {ta : TE} {da : DE}
@[simp] def iEnT (da : DE) : DI := fun δ Φ => da δ fun x => ∃ xs, x = .tuple xs ∧ Φ (enumD xs)
theorem smi_enumT (ha : Sm C true ta da) : SmI C (iEnumT C.K (tCons ta tNil)) (iEnT da) := fun σ δ H0 H Φ R s w q =>
  ha σ δ H0 H _ _ s w fun H01 H1 v x g1 r1 ⟨xs, e, p⟩ => by
    subst e
    cases r1 with
    | @tup a us _ h r =>
      refine ⟨a, us, rfl, same_t g1.wf.sub h, q _ _ _ _ g1 ⟨fun H0' H' i e w hi => ?_, fun H0' H' i e w hi => ?_, fun H0' H' i v H'' e w hi y => ?_⟩ p⟩
      · rw [enumD_len] at hi
        exact ⟨us, same_t w.sub (same_t e h), r.length.trans hi⟩
      · rw [enumD_len] at hi
        obtain ⟨y, hy⟩ := get_lt hi
        obtain ⟨v, h1, h2⟩ := r.get hy
        exact ⟨us, v, same_t w.sub (same_t e h), h1⟩
      · rw [enumD_len] at hi
        obtain ⟨T, z, rfl, hT, rfl, y⟩ := y
        have y := y us (same_t w.sub (same_t e h))
        obtain ⟨d, hd, rd⟩ := r.get' y
        obtain ⟨H0'', g, r2⟩ := tup_new w hT (.cons (.int (i : Int)) (.cons (rd.mono e) .nil))
        exact ⟨H0'', _, g, enumD_get hd, r2⟩
end
end VL

/-! More rules of the layer: texts by their letters, tuples added and cut, comprehensions with any target. -/
namespace VL
open PySem L2
theorem ofStr_inj_h {a b : String} (h : Str.ofString a = Str.ofString b) : a = b := by
  rw [Str.ofString_eq_toList, Str.ofString_eq_toList] at h
  have h1 := congrArg Str.cps h
  have h2 : a.toList.map Char.toNat = b.toList.map Char.toNat := by
    have := congrArg Array.toList h1
    simpa using this
  have h3 : a.toList = b.toList := by
    exact (List.map_inj_right (fun x y e => Char.ext (UInt32.toNat_inj.mp e))).mp h2
  exact String.toList_inj.mp h3
@[simp] theorem ofStr_inj (a b : String) : (Str.ofString a = Str.ofString b) = (a = b) := propext ⟨ofStr_inj_h, fun h => by rw [h]⟩
section
variable {C : Ctx} {f f1 f2 : Bool} {ta tb : TE} {da db : DE} {tl th : TO} {dl dh : DP}
/-! ### tuples added, a part of a tuple -/
theorem kx_catA {X : Cx} {K : PySem.W.Frag} (h : X.K = K) : OpR X (binaryOp .Add) (rCatA K) := by subst h; exact op_catA
theorem kx_slTA {X : Cx} {K : PySem.W.Frag} (h : X.K = K) : SlR X (rSlA K) := by subst h; exact sl_tupA
@[simp] def dCatA (da db : DE) : DE := fun δ Φ => da δ fun x => db δ fun y => ∃ xs ys, x = .tuple xs ∧ y = .tuple ys ∧ xs.length + ys.length ≤ sizeLine ∧ Φ (.tuple (xs ++ ys))
theorem sm_catA (ha : Sm C true ta da) (hb : Sm C true tb db) : Sm C f (tOp (rCatA C.K) ta tb) (dCatA da db) := fun σ δ H0 H Φ Q s w q =>
  ha σ δ H0 H _ _ s w fun H01 H1 v x g1 r1 w1 => hb σ δ H01 H1 _ _ (s.go g1) w1 fun H02 H2 u y g2 r2 ⟨xs, ys, e1, e2, e3, pp⟩ => by
    subst e1 e2
    have r3 := r1.mono g2.fz
    cases r3 with
    | @tup a1 us1 _ h r =>
      cases r2 with
      | @tup a2 us2 _ h' r' =>
        refine ⟨a1, a2, us1, us2, rfl, rfl, same_t g2.wf.sub h, same_t g2.wf.sub h', by rw [r.length, r'.length]; exact e3, fun z => ?_, fun z1 z2 => ?_, fun z1 z2 p hp => ?_⟩
        · subst z
          cases r
          exact q _ _ _ _ (g1.trans g2) (Rp.mono g2.wf.to (.tup h' r')) pp
        · subst z2
          cases r'
          rw [List.append_nil] at pp
          exact q _ _ _ _ (g1.trans g2) (Rp.mono g2.wf.to (.tup h r)) pp
        · have g3 := Go.new (o := .tup (us1 ++ us2)) g2.wf hp
          exact q _ _ _ _ ((g1.trans g2).trans g3) (Rp.mono g3.wf.to (.tup (SqT.of upd_same) ((r.append r').mono (Go.same_new (g2.wf.none hp))))) pp
theorem cutDt_whole {xs : List PyData} {lo hi : Option Int} (h : HT.sIx xs.length 0 lo = 0 ∧ HT.sIx xs.length xs.length hi = xs.length) : cutDt xs lo hi = xs := by
  unfold cutDt
  rw [h.1, h.2, List.drop_zero, Nat.sub_zero, List.take_length]
@[simp] def dSlT (da : DE) (dl dh : DP) : DE := fun δ Φ => da δ fun x => dl δ fun l => dh δ fun u => ∃ xs, x = .tuple xs ∧ Φ (.tuple (cutDt xs l u))
theorem sm_sl_tupA (ha : Sm C true ta da) (hl : SmP C tl dl) (hh : SmP C th dh) : Sm C f (tSl (rSlA C.K) ta tl th) (dSlT da dl dh) := fun σ δ H0 H Φ Q s w q =>
  ha σ δ H0 H _ _ s w fun H01 H1 v x g1 r1 w1 => hl σ δ H01 H1 _ _ (s.go g1) w1 fun H02 H2 l g2 w2 => hh σ δ H02 H2 _ _ ((s.go g1).go g2) w2 fun H03 H3 u g3 ⟨xs, e, p⟩ => by
    subst e
    have r3 := (r1.mono g2.fz).mono g3.fz
    cases r3 with
    | @tup a1 us1 _ h r =>
      have g123 := (g1.trans g2).trans g3
      refine ⟨a1, us1, rfl, same_t g3.wf.sub h, fun z => ?_, fun z p' hp => ?_⟩
      · rw [r.length] at z
        rw [cutDt_whole z] at p
        exact q _ _ _ _ g123 (Rp.mono g3.wf.to (.tup h r)) p
      · have g4 := Go.new (o := .tup (cutV us1 l u)) g3.wf hp
        exact q _ _ _ _ (g123.trans g4) (Rp.mono g4.wf.to (.tup (SqT.of upd_same) ((rpa_cut r l u).mono (Go.same_new (g3.wf.none hp))))) p
end
/-! ### comprehensions with any target of names -/
theorem wipe_set_out {σ : L2.St} {i : Nat} {x : Option V} : ∀ {vs : List Nat}, i ∉ vs → wipe (σ.set i x) vs = (wipe σ vs).set i x
  | [], _ => rfl
  | v :: vs, h => by
    rw [List.mem_cons, not_or] at h
    show (wipe (σ.set i x) vs).set v none = ((wipe σ vs).set v none).set i x
    rw [wipe_set_out h.2, List.set_comm _ _ h.1]
theorem wipe_set_in {σ : L2.St} {i : Nat} {x : Option V} : ∀ {vs : List Nat}, i ∈ vs → wipe (σ.set i x) vs = wipe σ vs
  | v :: vs, h => by
    show (wipe (σ.set i x) vs).set v none = (wipe σ vs).set v none
    by_cases k : i ∈ vs
    · rw [wipe_set_in k]
    · have e : i = v := by
        rcases List.mem_cons.mp h with h | h
        · exact h
        · exact absurd h k
      subst e
      rw [wipe_set_out k, List.set_set]
theorem wipe_wipe {σ : L2.St} : ∀ {vs : List Nat}, wipe (wipe σ vs) vs = wipe σ vs
  | [] => rfl
  | v :: vs => by
    show (wipe ((wipe σ vs).set v none) vs).set v none = (wipe σ vs).set v none
    by_cases k : v ∈ vs
    · rw [wipe_set_in k, wipe_wipe]
    · rw [wipe_set_out k, wipe_wipe, List.set_set]
def dwipe (δ : Dl) : List Nat → Dl
  | [] => δ
  | v :: vs => (dwipe δ vs).set v none
@[simp] theorem dwipe_nil (δ : Dl) : dwipe δ [] = δ := rfl
@[simp] theorem dwipe_cons (δ : Dl) (v : Nat) (vs : List Nat) : dwipe δ (v :: vs) = (dwipe δ vs).set v none := rfl
theorem St.wipe {C : Ctx} {H0 H : Hp} {σ : L2.St} {δ : Dl} (s : St C H0 H σ δ) : ∀ vs : List Nat, St C H0 H (L2.wipe σ vs) (dwipe δ vs)
  | [] => s
  | v :: vs => (St.wipe s vs).none v
def Kps (own : List Nat) (g : TG) : Prop := ∀ v σ H Q, g v σ H Q → g v σ H fun σ' H' => wipe σ' own = wipe σ own ∧ Q σ' H'
def KpsS (own : List Nat) (g : TGs) : Prop := ∀ v σ H Q, g v σ H Q → g v σ H fun σ' H' => wipe σ' own = wipe σ own ∧ Q σ' H'
theorem kps_name {own : List Nat} {i : Nat} (h : i ∈ own) : Kps own (gName i) := fun v σ H Q q => ⟨wipe_set_in h, q⟩
theorem kps_nil {own : List Nat} : KpsS own gNil := fun v σ H Q ⟨e, q⟩ => ⟨e, rfl, q⟩
theorem gcons_mono {t : TG} {u : TGs} {vs : List V} {σ : L2.St} {H : Hp} {Q : L2.St → Hp → Prop} : gCons t u vs σ H Q ↔ ∃ v r, vs = v :: r ∧ t v σ H fun σ' H' => u r σ' H' Q := Iff.rfl
theorem kps_cons {own : List Nat} {i : Nat} {gs : TGs} (h : i ∈ own) (k : KpsS own gs) : KpsS own (gCons (gName i) gs) := fun vs σ H Q ⟨v, r, e, q⟩ => by
  refine ⟨v, r, e, ?_⟩
  have := k r (σ.set i (some v)) H Q q
  rw [wipe_set_in h] at this
  exact this
theorem kps_tup {own : List Nat} {K : PySem.W.Frag} {n : Nat} {gs : TGs} (k : KpsS own gs) : Kps own (gTup K n gs) := fun v σ H Q ⟨a, xs, e, h, hl, q⟩ => ⟨a, xs, e, h, hl, k xs σ H Q q⟩
def oLcG (di : DI) (own : List Nat) (dg : DG) (dt : DT) (de : DE) : DO := fun δ Φ => di δ fun xs => ∃ I : Nat → List PyData → Prop, I 0 [] ∧
  (∀ k y acc, xs[k]? = some y → I k acc → dg y (dwipe δ own) fun δ' => dt δ' fun b => if b = true then de δ' fun z => acc.length < sizeLine ∧ I (k + 1) (acc ++ [z]) else I (k + 1) acc) ∧ ∀ acc, I xs.length acc → Φ acc
section
variable {C : Ctx} {te : TE} {de : DE} {tt : TT} {dt : DT} {g : TG} {dg : DG} {ti : TI} {di : DI}
theorem smo_lcG {own : List Nat} (hk : Kps own g) (hi : SmI C ti di) (hg : SmG C g dg) (ht : SmT C tt dt) (he : Sm C true te de) : SmO C (tLc ti g tt te own) (oLcG di own dg dt de) := fun σ δ H0 H Φ Q s w q =>
  hi σ δ H0 H _ _ s w fun H01 H1 J xs g1 wk ⟨I, i0, it, ie⟩ D hD => by
    have hD0 : H D = none := g1.fresh hD
    refine ⟨fun k m H' => m = xs.length - k ∧ k ≤ xs.length ∧ ∃ H0' us acc, Go C H01 H1 H0' H' ∧ H0' D = none ∧ H' D = some (.lst us) ∧ RpA C.K H0' us acc ∧ I k acc, ⟨_, rfl, Nat.zero_le _, H01, [], [], Go.free g1.wf hD, g1.wf.none hD, upd_same, .nil, i0⟩, ?_⟩
    rintro k m H' ⟨rfl, hk', H0', us, acc, g2, hn, hl, r, p⟩
    have nex : C.ex ≠ some D := (Go.he g1.wf hD).2
    by_cases hlt : k < xs.length
    · refine .inr ⟨wk.go H0' H' k g2.fz g2.wf hlt, fun H3 => ∃ H0' us acc, Go C H01 H1 H0' H3 ∧ H0' D = none ∧ H3 D = some (.lst us) ∧ RpA C.K H0' us acc ∧ I (k + 1) acc, fun H3 h => ⟨_, by omega, rfl, hlt, h⟩, fun v H'' y => ?_⟩
      obtain ⟨H02, z, g3, hz, rz⟩ := wk.yld H0' H' k v H'' g2.fz g2.wf hlt y
      have g23 := g2.trans g3
      have keep : ∀ {A B : Hp}, Go C H02 H'' A B → A D = none ∧ B D = some (.lst us) := fun {A B} gg => by
        have h1 : B D = some (.lst us) := gg.kp D _ nex (g3.kp D _ nex hl)
        refine ⟨?_, h1⟩
        cases e : A D with
        | none => rfl
        | some u =>
          rcases (g3.trans gg).nw D u e with h2 | h2
          · rw [hn] at h2; cases h2
          · rw [hl] at h2; cases h2
      have sw : St C H02 H'' (wipe σ own) (dwipe δ own) := (s.go ((g1.trans g2).trans g3)).wipe own
      have fin := hk v (wipe σ own) H'' _ (hg v z (wipe σ own) (dwipe δ own) H02 H'' _ (fun σ2 H2 => tt σ2 H2 fun b H3 => if b = true then te σ2 H3 fun y H4 => ∃ acc, H4 D = some (.lst acc) ∧ acc.length < sizeLine ∧ ∃ H0' us acc', Go C H01 H1 H0' (upd H4 D (.lst (acc ++ [y]))) ∧ H0' D = none ∧ (upd H4 D (.lst (acc ++ [y]))) D = some (.lst us) ∧ RpA C.K H0' us acc' ∧ I (k + 1) acc' else ∃ H0' us acc, Go C H01 H1 H0' H3 ∧ H0' D = none ∧ H3 D = some (.lst us) ∧ RpA C.K H0' us acc ∧ I (k + 1) acc) sw rz (it k z acc hz p) fun σ2 δ2 s2 w2 => ?_)
      · rw [wipe_wipe] at fin
        exact fin
      · refine ht _ _ H02 H'' _ _ s2 w2 fun H04 H4 b g4 w4 => ?_
        cases b with
        | false => exact iteF ⟨H04, us, acc, g23.trans g4, (keep g4).1, (keep g4).2, r.mono (g3.fz.trans g4.fz), by simpa using w4⟩
        | true =>
          refine iteT (he _ _ H04 H4 (fun z => acc.length < sizeLine ∧ I (k + 1) (acc ++ [z])) _ (s2.go g4) (by simpa using w4) fun H05 H5 y' z' g5 r5 ⟨w5, p5⟩ => ?_)
          have k5 := keep (g4.trans g5)
          refine ⟨us, k5.2, by rw [r.length]; exact w5, H05, us ++ [y'], acc ++ [z'], ?_, k5.1, upd_same, (r.mono (g3.fz.trans (g4.fz.trans g5.fz))).snoc r5, p5⟩
          have gg := (g23.trans g4).trans g5
          refine ⟨⟨fun b u e => ?_, fun b u n e => ?_, gg.wf.fz, gg.wf.nw, fun c e => ?_⟩, gg.fz, fun b u n e => ?_, gg.nw⟩
          · rw [upd_ne (fun z => by rw [z, k5.1] at e; cases e)]; exact gg.wf.sub b u e
          · rw [upd_ne (fun z => by rw [z, (Go.he g1.wf hD).1] at e; cases e)]; exact gg.wf.kp b u n e
          · obtain ⟨c', i', v', s', cells, q1, q2, q3, q4⟩ := gg.wf.dr c e
            exact ⟨c', i', v', s', cells, by rw [upd_ne (fun z => nex (by rw [← z]; exact e))]; exact q1, q2, q3, q4⟩
          · rw [upd_ne (fun z => by rw [z, hD] at e; cases e)]; exact gg.kp b u n e
    · have hk' : k = xs.length := by omega
      refine .inl ⟨wk.stop H0' H' k g2.fz g2.wf (by omega), q H0' H' D us acc (g1.trans g2) hD0 hn hl r (ie acc (hk' ▸ p))⟩
end
/-! ### loops by an invariant, their bodies untouched -/
theorem dFor_n {da : DE} {i : Nat} {db : DS} {E : DEnds} {δ : Dl} {n : Nat} (hn : n < 4611686018427387904) (h : ∀ Ψ : PyData → Prop, Ψ (.int n) → da δ Ψ) (I : Nat → Dl → Prop) (h0 : I 0 δ)
    (hs : ∀ (k : Nat) (δ' : Dl), k < n → I k δ' → db { E with nx := I (k + 1), ct := I (k + 1), bk := E.nx } (δ'.set i (some (.d (.int k))))) (he : ∀ δ', I n δ' → E.nx δ') : dFor (iR1 da) (dgName i) db E δ := by
  unfold dFor
  refine h _ ⟨n, rfl, by omega, by omega, I, h0, fun k y δ' hy hI => ?_, fun δ' hI => ?_⟩
  · obtain ⟨hk, rfl⟩ := rng_get hy
    have := hs k δ' hk hI
    rw [show (k : Int) = 0 + (k : Int) from (Int.zero_add _).symm] at this
    exact this
  · rw [rng_len] at hI
    exact he δ' hI
theorem dFor_w {di : DI} {dg : DG} {db : DS} {E : DEnds} {δ : Dl} {xs : List PyData} (h : ∀ Ψ : List PyData → Prop, Ψ xs → di δ Ψ) (I : Nat → Dl → Prop) (h0 : I 0 δ)
    (hs : ∀ (k : Nat) (y : PyData) (δ' : Dl), xs[k]? = some y → I k δ' → dg y δ' fun δ'' => db { E with nx := I (k + 1), ct := I (k + 1), bk := E.nx } δ'') (he : ∀ δ', I xs.length δ' → E.nx δ') : dFor di dg db E δ := by
  unfold dFor
  exact h _ ⟨I, h0, hs, he⟩
/-! ### side conditions that numbers settle -/
theorem le_size {n : Nat} (h : n ≤ 1000000) : (n ≤ sizeLine) = True := eq_true (Nat.le_trans h (by decide))
theorem lt_size {n : Nat} (h : n ≤ 1000000) : (n < sizeLine) = True := eq_true (Nat.lt_of_le_of_lt h (by decide))
theorem cmul_l {i j : Int} (h0 : -1000000000000000000 < i) (h1 : i < 1000000000000000000) : CMul i j = True := eq_true (.inl ⟨by omega, by omega⟩)
theorem cpow_l {i j : Int} (h0 : 0 ≤ j) (h1 : j ≤ 1000) (h2 : -1000000 ≤ i) (h3 : i ≤ 1000000) : CPow i j = True := eq_true ⟨h0, by omega, by omega⟩
theorem cdiv_l {i j : Int} (h0 : 0 < j) (h1 : j ≤ 18446744073709551616) : CDivW i j = True := eq_true ⟨h0, Nat.lt_of_lt_of_le (PySem.Flt.log2_lt_of (k := 65) (by decide) (by omega)) (by decide)⟩
@[simp] theorem own_ex2 {α β : Type} {a0 : α} {xs0 : β} {P : α → β → Prop} : (∃ a xs, (a0 = a ∧ xs = xs0) ∧ P a xs) ↔ P a0 xs0 := ⟨fun ⟨_, _, ⟨e1, e2⟩, h⟩ => by subst e1 e2; exact h, fun h => ⟨_, _, ⟨rfl, rfl⟩, h⟩⟩
/-- a statement at a time: what follows is a letter -/
theorem seq_op {d1 d2 : DS} {E : DEnds} {δ : Dl} (h : ∀ N : Dl → Prop, (∀ δ', d2 E δ' → N δ') → d1 { E with nx := N } δ) : dSeq d1 d2 E δ := h _ fun _ h => h
end VL

/-! max of a list of numbers, with a default. -/
namespace VL
open PySem L2
def rMaxD (K : PySem.W.Frag) : List V → List V → Hp → VK → Prop := fun xs zs H Q => ∃ (a : Addr) (ns : List Int) (d : Int), xs = [V.ref a] ∧ zs = [V.int d] ∧ SqL K H a (ns.map V.int) ∧ (ns = [] → Q (V.int d) H) ∧ ∀ m ∈ ns, (∀ y ∈ ns, y ≤ m) → Q (V.int m) H
theorem reads_ints {h : Heap} : ∀ {us : List Value} {ns : List Int}, PyProof.Rows.IntsAre us ns → ReadsAll h us (ns.map .int) []
  | _, _, .nil => .nil
  | _, _, .cons n t r => .cons (.int n t) (reads_ints r)
theorem foldl_max (n : Int) : ∀ ns : List Int, ns.foldl max n ∈ n :: ns ∧ ∀ y ∈ n :: ns, y ≤ ns.foldl max n := by
  intro ns
  induction ns generalizing n with
  | nil => exact ⟨List.mem_cons_self, fun y hy => by rw [List.mem_singleton.mp hy]; exact Int.le_refl _⟩
  | cons k r ih =>
    obtain ⟨h1, h2⟩ := ih (max n k)
    rw [List.foldl_cons]
    refine ⟨?_, fun y hy => ?_⟩
    · rcases List.mem_cons.mp h1 with h1 | h1
      · rw [h1]
        by_cases c : n ≤ k
        · rw [Int.max_eq_right c]; simp
        · rw [Int.max_eq_left (by omega)]; simp
      · simp [h1]
    · have hm := h2 (max n k) List.mem_cons_self
      rcases List.mem_cons.mp hy with rfl | hy
      · omega
      · rcases List.mem_cons.mp hy with rfl | hy
        · omega
        · exact h2 y (List.mem_cons_of_mem _ hy)
theorem crk_maxD {X : Cx} (hc : X.calm = true) (hu : X.A.units + 1 < cLine) : CallRK X (.builtin "max") ["default"] (rMaxD X.K) := by
  intro pins s σ H xs zs us ws Q I r1 r2 h
  obtain ⟨a, ns, d, rfl, rfl, hs, q0, q1⟩ := h
  obtain ⟨its, rv, hl, _⟩ := I.list hs
  rw [Vals.ref1 r1]
  cases r2 with
  | cons rd rn =>
    cases rn
    obtain ⟨t, rfl⟩ := rd
    have hi := rv.ints
    refine PySem.W.max_list_default (I.ok.hd hc) hl.isList (reads_ints hi) ⟨?_, ?_⟩ ?_ ?_ ?_
    · intro x hx y hy
      obtain ⟨i, _, rfl⟩ := List.mem_map.mp hx
      obtain ⟨j, _, rfl⟩ := List.mem_map.mp hy
      rfl
    · intro x hx
      obtain ⟨i, _, rfl⟩ := List.mem_map.mp hx
      intro z
      cases z
    · rw [depth_ints]
      exact hu
    · intro e h' tk hk
      exact ⟨.int _, H, I.kept hk, ⟨_, rfl⟩, q0 (List.map_eq_nil_iff.mp e)⟩
    · intro y ys i v h' tk bs e hv hr hk
      cases ns with
      | nil => cases e
      | cons n ns =>
        cases e
        rw [PySem.W.maxD_ints] at hr
        cases hr
        obtain ⟨m1, m2⟩ := foldl_max n ns
        exact ⟨.int _, H, I.kept hk, ⟨_, rfl⟩, q1 _ m1 m2⟩
theorem kx_maxD {X : Cx} {K : PySem.W.Frag} (h : X.K = K) (hc : X.calm = true) (hu : X.A.units + 1 < cLine) : CallRK X (.builtin "max") ["default"] (rMaxD K) := by subst h; exact crk_maxD hc hu
section
variable {C : Ctx} {f f1 f2 : Bool} {ta tb : TE} {da db : DE}
@[simp] def dMaxD (da db : DE) : DE := fun δ Φ => da δ fun x => db δ fun y => ∃ (ns : List Int) (d : Int), x = .list (ns.map .int) ∧ y = .int d ∧ (ns = [] → Φ (.int d)) ∧ ∀ m ∈ ns, (∀ y ∈ ns, y ≤ m) → Φ (.int m)
theorem sm_maxD (ha : Sm C f1 ta da) (hb : Sm C f2 tb db) : Sm C f (tCKw (rMaxD C.K) (tCons ta tNil) (tCons tb tNil)) (dMaxD da db) := fun σ δ H0 H Φ Q s w q =>
  ha σ δ H0 H _ _ s w fun H01 H1 v x g1 r1 w1 => hb σ δ H01 H1 _ _ (s.go g1) w1 fun H02 H2 u y g2 r2 ⟨ns, d, e1, e2, q0, q1⟩ => by
    subst e1 e2
    have r3 := r1.mono g2.loc
    cases r3 with
    | lst h r =>
      have e := rpa_ints r
      subst e
      cases r2
      exact ⟨_, ns, d, rfl, rfl, SqL.of (g2.wf.loc _ _ h), fun e => q _ _ _ _ (g1.trans g2) (.int _) (q0 e), fun m m1 m2 => q _ _ _ _ (g1.trans g2) (.int _) (q1 m m1 m2)⟩
end
end VL
namespace VL
open PySem L2
/-! ### a written tuple of the program's top -/
def KTu (K : PySem.W.Frag) (a : Addr) (ds : List PyData) : Prop := ∃ xs : List V, (∃ (o : Obj) (its : Array Value) (n : Nat), K.lookup a = some o ∧ o.cls = .type "tuple" ∧ o.data = .seq its n ∧ its.size ≤ sizeLine ∧ Vals xs its.toList) ∧ ∀ H, RpA K H xs ds
/-- scalar items as values -/
inductive PaiV : List Value → List PyData → Prop
  | nil : PaiV [] []
  | cons {v : Value} {d : PyData} {vs : List Value} {ds : List PyData} (h : (∃ x : V, RelV x v ∧ isScalV x = some d)) (r : PaiV vs ds) : PaiV (v :: vs) (d :: ds)
theorem PaiV.n : ∃ x : V, RelV x Value.none ∧ isScalV x = some .none := ⟨.non, rfl, rfl⟩
theorem PaiV.b {k : Bool} : ∃ x : V, RelV x (Value.bool k) ∧ isScalV x = some (.bool k) := ⟨.bl k, rfl, rfl⟩
theorem PaiV.i {k : Int} {t : Tok} : ∃ x : V, RelV x (Value.int k t) ∧ isScalV x = some (.int k) := ⟨.int k, ⟨t, rfl⟩, rfl⟩
theorem PaiV.s {k : Str} {t : Tok} : ∃ x : V, RelV x (Value.str k t) ∧ isScalV x = some (.str k) := ⟨.str k, ⟨t, rfl⟩, rfl⟩
theorem PaiV.vals {K : PySem.W.Frag} : ∀ {vs : List Value} {ds : List PyData}, PaiV vs ds → ∃ xs : List V, Vals xs vs ∧ ∀ H, RpA K H xs ds
  | _, _, .nil => ⟨[], .nil, fun _ => .nil⟩
  | _, _, .cons ⟨x, h1, h2⟩ r => by
    obtain ⟨xs, k1, k2⟩ := PaiV.vals (K := K) r
    exact ⟨x :: xs, .cons h1 k1, fun H => .cons (isScal_rp h2 H) (k2 H)⟩
theorem KTu.mk {K : PySem.W.Frag} {a : Addr} {ds : List PyData} {o : Obj} {its : Array Value} {n : Nat} {vs : List Value} (h : K.lookup a = some o) (hc : o.cls = .type "tuple") (hd : o.data = .seq its n) (hi : its.toList = vs) (hl : vs.length ≤ 100) (p : PaiV vs ds) : KTu K a ds := by
  obtain ⟨xs, k1, k2⟩ := p.vals (K := K)
  refine ⟨xs, ⟨o, its, n, h, hc, hd, ?_, by rw [hi]; exact k1⟩, k2⟩
  rw [← Array.length_toList, hi]
  exact Nat.le_trans hl (by decide)
theorem sm_globT {C : Ctx} {f : Bool} {a : Addr} {ds : List PyData} {v : V} (hv : v = .ref a) (h : KTu C.K a ds) : Sm C f (tC v) (dC (.tuple ds)) := fun σ δ H0 H Φ Q s p q => by
  obtain ⟨xs, h1, h2⟩ := h
  subst hv
  exact q H0 H _ _ (.refl s.toWf) (.tup (.inr h1) (h2 _)) p
end VL
namespace VL
open PySem L2
section
variable {C : Ctx} {te : TE} {de : DE}
/-- xs.extend(ys), xs an owned list -/
@[simp] def dExt (i : Nat) (de : DE) : DS := fun E δ => ∃ a xs, δ[i]? = some (some (.own a xs)) ∧ de δ fun x => ∃ ys, x = .list ys ∧ xs.length + ys.length ≤ sizeLine ∧ E.nx (δ.set i (some (.own a (xs ++ ys))))
theorem sms_ext (i : Nat) (h : Sm C true te de) : SmS C (tDrop (tBM C.K "list" rExtend (tVar i) (tCons te tNil))) (dExt i de) := fun σ δ H0 H E D s ⟨a0, xs0, e0, w⟩ e => by
  obtain ⟨v, e1, rfl, h1, h2, h3, vs, h4, h5⟩ := s.sl i _ e0
  refine ⟨_, e1, .inl ⟨rfl, vs, SqL.of h4⟩, h σ δ H0 H _ _ s w fun H0' H' y x g1 r ⟨ys, ex, hl, p⟩ => ?_⟩
  subst ex
  have s1 := s.go g1
  obtain ⟨v', f1, f2, f3, f4, f5, us, f6, f7⟩ := s1.sl i _ e0
  cases r with
  | @lst b zs _ hb rb =>
    exact ⟨a0, b, us, zs, rfl, rfl, f6, g1.wf.sub _ _ hb, by rw [f7.length, rb.length]; exact hl, e.nx H0' _ σ _ g1.fz (s1.write i e0 (f7.append rb)) p⟩
end
end VL
namespace VL
open PySem L2
theorem oLcG_map {di : DI} {own : List Nat} {dg : DG} {de : DE} {δ : Dl} {Φ : List PyData → Prop} {xs : List PyData} (F : PyData → PyData) (hn : xs.length < 1000000) (h : ∀ Ψ : List PyData → Prop, Ψ xs → di δ Ψ)
    (hs : ∀ (k : Nat) (y : PyData) (Ψ : PyData → Prop), xs[k]? = some y → Ψ (F y) → dg y (dwipe δ own) fun δ' => de δ' Ψ) (hΦ : Φ (xs.map F)) : oLcG di own dg dYes de δ Φ := by
  unfold oLcG
  refine h _ ⟨fun k acc => acc = (xs.take k).map F, by simp, fun k y acc hy ha => ?_, fun acc ha => ?_⟩
  · subst ha
    have hk := (List.getElem?_eq_some_iff.mp hy).1
    refine hs k y _ hy ⟨?_, ?_⟩
    · rw [List.length_map, List.length_take]
      exact Nat.lt_of_lt_of_le (show min k xs.length < 1000000 by omega) (by decide)
    · show (xs.take k).map F ++ [F y] = (xs.take (k + 1)).map F
      rw [List.take_add_one, hy, List.map_append]
      rfl
  · subst ha
    rw [List.take_length]
    exact hΦ
end VL

/-! Texts put together: f'..', zip of two tuples. -/
namespace VL
open PySem L2 RZ
section
variable {C : Ctx} {f f1 f2 : Bool} {te ta tb : TE} {de da db : DE}
@[simp] def dFmt (da : DE) : DE := fun δ Φ => da δ fun x => match x with
  | .str y => y.length ≤ sizeLine ∧ Φ (.str y)
  | .int i => i.natAbs.log2 < 1920 ∧ Φ (.str (toString i))
  | _ => False
theorem sm_fmt (ha : Sm C f1 ta da) : Sm C f (tFmt ta) (dFmt da) := fun σ δ H0 H Φ Q s w q =>
  ha σ δ H0 H _ _ s w fun H01 H1 v x g1 r1 w1 => by
    cases r1 with
    | str y => exact .inl ⟨y, rfl, w1.1, q _ _ _ _ g1 (.str _) w1.2⟩
    | int i => exact .inr ⟨i, rfl, w1.1, q _ _ _ _ g1 (.str _) w1.2⟩
    | _ => exact w1.elim
def dJs : List DE → Str → Dl → (Str → Prop) → Prop
  | [], acc, _, Φ => Φ acc
  | d :: ds, acc, δ, Φ => d δ fun x => ∃ y : Str, x = .str y ∧ (acc ++ y).length ≤ sizeLine ∧ dJs ds (acc ++ y) δ Φ
@[simp] theorem dJs_nil (acc : Str) (δ : Dl) (Φ : Str → Prop) : dJs [] acc δ Φ = Φ acc := rfl
@[simp] theorem dJs_cons (d : DE) (ds : List DE) (acc : Str) (δ : Dl) (Φ : Str → Prop) : dJs (d :: ds) acc δ Φ = d δ fun x => ∃ y : Str, x = .str y ∧ (acc ++ y).length ≤ sizeLine ∧ dJs ds (acc ++ y) δ Φ := rfl
@[simp] def dJoined (ds : List DE) : DE := fun δ Φ => dJs ds Str.empty δ fun out => Φ (.str out)
inductive SmJ (C : Ctx) : List TE → List DE → Prop
  | nil : SmJ C [] []
  | cons {te : TE} {de : DE} {ts : List TE} {ds : List DE} (h : Sm C false te de) (r : SmJ C ts ds) : SmJ C (te :: ts) (de :: ds)
theorem smj_run {ts : List TE} {ds : List DE} (h : SmJ C ts ds) : ∀ (acc : Str) (σ : L2.St) (δ : Dl) (H0 H : Hp) (Φ : Str → Prop) (Q : Str → Hp → Prop), St C H0 H σ δ → dJs ds acc δ Φ → (∀ H0' H' out, Go C H0 H H0' H' → Φ out → Q out H') → tJs ts acc σ H Q := by
  induction h with
  | nil => exact fun acc σ δ H0 H Φ Q s w q => q H0 H acc (.refl s.toWf) w
  | cons h r ih =>
    intro acc σ δ H0 H Φ Q s w q
    refine h σ δ H0 H _ _ s w fun H01 H1 v x g1 r1 ⟨y, e, hl, w1⟩ => ?_
    subst e
    cases r1
    exact ⟨y, rfl, hl, ih (acc ++ y) σ δ H01 H1 Φ Q (s.go g1) w1 fun H02 H2 out g2 p => q _ _ _ (g1.trans g2) p⟩
theorem sm_joined {ts : List TE} {ds : List DE} (h : SmJ C ts ds) : Sm C f (fun σ H Q => tJs ts Str.empty σ H fun out H1 => Q (.str out) H1) (dJoined ds) := fun σ δ H0 H Φ Q s w q =>
  smj_run h Str.empty σ δ H0 H _ _ s w fun H0' H' out g p => q _ _ _ _ g (.str _) p
/-- zip of two tuples -/
@[simp] def iZpT (da db : DE) : DI := fun δ Φ => da δ fun x => db δ fun y => ∃ xs ys, x = .tuple xs ∧ y = .tuple ys ∧ Φ (zipD xs ys)
theorem smi_zipT (ha : Sm C true ta da) (hb : Sm C true tb db) : SmI C (iZipA C.K (tCons ta (tCons tb tNil))) (iZpT da db) := fun σ δ H0 H Φ R s w q =>
  ha σ δ H0 H _ _ s w fun H01 H1 v x g1 r1 w1 => hb σ δ H01 H1 _ _ (s.go g1) w1 fun H02 H2 u y g2 r2 ⟨xs, ys, e1, e2, p⟩ => by
    subst e1 e2
    have r3 := r1.mono g2.fz
    cases r3 with
    | @tup a us _ h r =>
      cases r2 with
      | @tup b ws _ h' r' =>
        refine ⟨a, b, us, ws, rfl, .inr ⟨same_t g2.wf.sub h, same_t g2.wf.sub h', q _ _ _ _ (g1.trans g2) ⟨fun H0' H' i e w hi0 => have hi := Nat.le_of_eq hi0; ?_, fun H0' H' i e w hi => ?_, fun H0' H' i v H'' e w hi y => ?_⟩ p⟩⟩
        · unfold zipD at hi
          rw [List.length_zipWith] at hi
          refine ⟨us, ws, same_t w.sub (same_t e h), same_t w.sub (same_t e h'), ?_⟩
          rw [r.length, r'.length]
          omega
        · unfold zipD at hi
          rw [List.length_zipWith] at hi
          obtain ⟨y1, hy1⟩ := get_lt (show i < xs.length by omega)
          obtain ⟨v1, h1, _⟩ := r.get hy1
          obtain ⟨y2, hy2⟩ := get_lt (show i < ys.length by omega)
          obtain ⟨v2, h2, _⟩ := r'.get hy2
          exact ⟨us, ws, v1, v2, same_t w.sub (same_t e h), same_t w.sub (same_t e h'), h1, h2⟩
        · obtain ⟨T, x1, x2, rfl, hT, rfl, y1, y2⟩ := y
          have y1 := y1 us (same_t w.sub (same_t e h))
          have y2 := y2 ws (same_t w.sub (same_t e h'))
          obtain ⟨d1, hd1, rd1⟩ := r.get' y1
          obtain ⟨d2, hd2, rd2⟩ := r'.get' y2
          obtain ⟨H0'', g, r2⟩ := tup_new w hT (.cons (rd1.mono e) (.cons (Rp.mono e rd2) .nil))
          refine ⟨H0'', _, g, ?_, r2⟩
          unfold zipD
          rw [List.getElem?_zipWith, hd1, hd2]
end
/-! ### texts of numbers, their lengths -/
theorem len_app (a b : Str) : (a ++ b).length = a.length + b.length := by
  show (a.cps ++ b.cps).size = _
  rw [Array.size_append]
  rfl
theorem len_lit (s : String) : (Str.ofString s).length = s.length := PyProof.Rows.ofString_len s
theorem len_nat {v : Int} (h0 : 0 ≤ v) (h : v < 100000000000000000000) : (Str.ofString (toString v)).length ≤ 20 := PyProof.Rows.toString_length_le (k := 20) h0 (by decide) (by simpa using h)
theorem neg_str {n : Nat} : toString (-((n + 1 : Nat) : Int)) = "-" ++ toString ((n + 1 : Nat) : Int) := rfl
theorem len_int {v : Int} (h0 : -(100000000000000000000) < v) (h : v < 100000000000000000000) : (Str.ofString (toString v)).length ≤ 21 := by
  by_cases c : 0 ≤ v
  · have := len_nat c h
    omega
  · obtain ⟨n, rfl⟩ : ∃ n : Nat, v = -((n + 1 : Nat) : Int) := ⟨(-v - 1).toNat, by omega⟩
    rw [neg_str, len_lit, String.length_append]
    have h2 := len_nat (v := ((n + 1 : Nat) : Int)) (by omega) (by omega)
    rw [len_lit] at h2
    have : "-".length = 1 := rfl
    omega
theorem log_int {v : Int} (h0 : -(100000000000000000000) < v) (h : v < 100000000000000000000) : v.natAbs.log2 < 1920 := by
  have : v.natAbs < 2 ^ 70 := by omega
  exact Nat.lt_of_lt_of_le (PySem.Flt.log2_lt_of (k := 70) (by decide) this) (by decide)
end VL
namespace VL
open PySem L2
theorem oLc_of {α : Type} {di : DI} {i : Nat} {de : DE} {δ : Dl} {Φ : List PyData → Prop} (xs : List α) (D G : α → PyData) (hn : xs.length < 1000000) (h : ∀ Ψ : List PyData → Prop, Ψ (xs.map D) → di δ Ψ)
    (hs : ∀ (k : Nat) (a : α) (Ψ : PyData → Prop), xs[k]? = some a → Ψ (G a) → de (δ.set i (some (.d (D a)))) Ψ) (hΦ : Φ (xs.map G)) : oLc di i dYes de δ Φ := by
  unfold oLc
  refine h _ ⟨fun k acc => acc = (xs.take k).map G, by simp, fun k y acc hy ha => ?_, fun acc ha => ?_⟩
  · subst ha
    rw [List.getElem?_map] at hy
    obtain ⟨a, ha, rfl⟩ := Option.map_eq_some_iff.mp hy
    unfold dYes
    dsimp only
    rw [if_pos rfl]
    have hk := (List.getElem?_eq_some_iff.mp ha).1
    refine hs k a _ ha ⟨?_, ?_⟩
    · rw [List.length_map, List.length_take]
      exact Nat.lt_of_lt_of_le (show min k xs.length < 1000000 by omega) (by decide)
    · show (xs.take k).map G ++ [G a] = (xs.take (k + 1)).map G
      rw [List.take_add_one, ha, List.map_append]
      rfl
  · subst ha
    rw [List.length_map, List.take_length]
    exact hΦ
end VL

/-! A slot that holds a def; a list extended with a tuple. -/
namespace VL
open PySem L2
open PySem.AutoSeq1 in
theorem list_extend_tup (l : Addr) (items : Array Value) (n : Nat) (b : Addr) (items2 : Array Value) (n2 : Nat) (c2 : Value) (dd : Option Addr) (sl : Array (Option Value)) (hc : c2 = .type "tuple") (hs0 : ¬(!items.isEmpty && Builtin.List.listTooLong (items.size + items2.size)) = true) (hs1 : items.size ≤ sizeLine) (hs2 : items.size + items2.size ≤ sizeLine + 1) :
    Meets (Builtin.«list.extend» ⟨[.ref l, .ref b], []⟩) (fun _ R s => s.heap.get? l = some { cls := .type "list", dict := none, data := .seq items n, slots := #[] } ∧ s.heap.get? b = some { cls := c2, dict := dd, data := .seq items2 n2, slots := sl } ∧ R (.ok (.ret Value.none)) { s with heap := s.heap.update l (Obj.mapSeq fun x => x ++ items2), toks := s.toks }) := by
  subst hc
  exact .of_wp fun prog w A R s h => by
    obtain ⟨hp, g, d, tk, os⟩ := s; obtain ⟨hl, hb, h⟩ := h; have f1 := idx_int; have f2 := sub_tuple_tuple; have f3 := sub_list_list; have f4 := sub_tuple_list; have f5 := sub_list_tuple;
    have hz' : (items ++ items2).size ≤ sizeLine + 1 := by rw [Array.size_append]; exact hs2
    wp_walk using (wpAny_updateSeq hl rfl (hz := hs1) (_hz' := hz')), wpAny_loadPart' hl, wpAny_loadPart' hb; exact ⟨_, rfl, h⟩
def rExtT (K : PySem.W.Frag) : V → List V → Hp → VK → Prop := fun x vs H Q => ∃ l b xs zs, x = .ref l ∧ vs = [.ref b] ∧ H l = some (.lst xs) ∧ SqT K H b zs ∧ xs.length + zs.length ≤ sizeLine ∧ Q .non (upd H l (.lst (xs ++ zs)))
theorem mt_extT {X : Cx} : MtM X "list.extend" (rExtT X.K) := by
  intro pins s σ H x vs v us Q I rx rv h
  obtain ⟨l, b, xs, zs, rfl, rfl, hH, hB, hz, q⟩ := h
  cases rx
  obtain ⟨u, rfl, ru⟩ := rv.one
  cases ru
  obtain ⟨z, its, n, r, hl, e⟩ := I.lstM hH
  obtain ⟨its2, r2, ⟨o, e2, hc, n2, hd⟩, z2⟩ := I.tuple hB
  obtain ⟨c2, dd, da, sl⟩ := o
  simp only at hc hd
  subst hd
  have hl2 := r2.length
  have hsz : its.toArray.size + its2.toArray.size ≤ sizeLine := by rw [List.size_toArray, List.size_toArray]; omega
  have hlong : ¬ (!its.toArray.isEmpty && Builtin.List.listTooLong (its.toArray.size + its2.toArray.size)) = true := by
    rw [notLongL hsz, Bool.and_false]
    exact Bool.false_ne_true
  refine call_meets F.slot_list_extend ⟨_, e, rfl⟩ F.entry_list_extend (F.args_list_extend_2 _ _)
    (list_extend_tup l its.toArray n b its2.toArray n2 c2 dd sl hc hlong (by rw [List.size_toArray]; omega) (by omega)) ⟨e, e2, ?_⟩
  refine ⟨.non, _, I.lset (its' := its ++ its2) hH e (by simp) (r.append r2) ?_, rfl, q⟩
  rw [List.length_append]
  omega
theorem kx_extT {X : Cx} {K : PySem.W.Frag} (h : X.K = K) : MtM X "list.extend" (rExtT K) := by subst h; exact mt_extT
section
variable {C : Ctx} {te : TE} {de : DE} {tas : TA} {dqs : DR} {f : Bool}
/-- xs.extend(ys), xs an owned list, ys a tuple -/
@[simp] def dExtT (i : Nat) (de : DE) : DS := fun E δ => ∃ a xs, δ[i]? = some (some (.own a xs)) ∧ de δ fun x => ∃ ys, x = .tuple ys ∧ xs.length + ys.length ≤ sizeLine ∧ E.nx (δ.set i (some (.own a (xs ++ ys))))
theorem sms_extT (i : Nat) (h : Sm C true te de) : SmS C (tDrop (tBM C.K "list" (rExtT C.K) (tVar i) (tCons te tNil))) (dExtT i de) := fun σ δ H0 H E D s ⟨a0, xs0, e0, w⟩ e => by
  obtain ⟨v, e1, rfl, h1, h2, h3, vs, h4, h5⟩ := s.sl i _ e0
  refine ⟨_, e1, .inl ⟨rfl, vs, SqL.of h4⟩, h σ δ H0 H _ _ s w fun H0' H' y x g1 r ⟨ys, ex, hl, p⟩ => ?_⟩
  subst ex
  have s1 := s.go g1
  obtain ⟨v', f1, f2, f3, f4, f5, us, f6, f7⟩ := s1.sl i _ e0
  cases r with
  | @tup b zs _ hb rb =>
    exact ⟨a0, b, us, zs, rfl, rfl, f6, same_t g1.wf.sub hb, by rw [f7.length, rb.length]; exact hl, e.nx H0' _ σ _ g1.fz (s1.write i e0 (f7.append rb)) p⟩
/-- a call of a def that a slot holds -/
@[simp] def dCallL (i : Nat) (fa : Addr) (p : VSp) (ds : DR) : DE := fun δ Φ => δ[i]? = some (some (.raw (.ref fa))) ∧ dCall p ds δ Φ
theorem sm_callL {n : Nat} {p : VSp} {E : XK} {fa : Addr} (i : Nat) (hp : ∀ rs Φ, p rs Φ → rs.length = n) (ha : SmQ C tas dqs) : Sm C f (tCallL i fa (toSp C.K n p) [] E tas) (dCallL i fa p dqs) := fun σ δ H0 H Φ Q s ⟨e, w⟩ q => by
  obtain ⟨v, e1, e2⟩ := s.sl i _ e
  have e3 : v = .ref fa := e2
  subst e3
  exact ⟨e1, (sm_call (f := f) (E := E) hp ha) σ δ H0 H Φ Q s w q⟩
/-- a def of the program's top, handed to another -/
@[simp] def qGlob (v : V) (ds : DR) : DR := fun δ Φ => ds δ fun xs => Φ (.raw v :: xs)
theorem smq_glob {v : V} (hb : SmQ C tas dqs) : SmQ C (tCons (tC v) tas) (qGlob v dqs) := fun σ δ H0 H Φ Q s w q =>
  hb σ δ H0 H _ _ s w fun H02 H2 us ys g2 r2 w2 => q H02 H2 _ _ g2 (RRas.cons (r := R.raw v) rfl r2) w2
/-- a slot that holds a def, handed on -/
@[simp] def qRaw (i : Nat) (ds : DR) : DR := fun δ Φ => ∃ v, δ[i]? = some (some (.raw v)) ∧ ds δ fun xs => Φ (.raw v :: xs)
theorem smq_raw (i : Nat) (hb : SmQ C tas dqs) : SmQ C (tCons (tVar i) tas) (qRaw i dqs) := fun σ δ H0 H Φ Q s ⟨v, e, w⟩ q => by
  obtain ⟨u, e1, e2⟩ := s.sl i _ e
  have e3 : u = v := e2
  subst e3
  exact ⟨u, e1, hb σ δ H0 H _ _ s w fun H02 H2 us ys g2 r2 w2 => q H02 H2 _ _ g2 (RRas.cons (r := R.raw u) rfl r2) w2⟩
end
end VL

/-! zip of any two sources: each is known by its next item, its end, and what it keeps. -/
namespace VZ
open PySem PySem.Spec PyProof.Rows L2 RZ
/-- at turn k the iterator `it` over the object `l` of the items xs stands so -/
structure Src (it l : Addr) (xs : Array Value) (S : Heap → Nat → Prop) : Prop where
  keep : ∀ {h h' : Heap} {k : Nat}, S h k → (∀ o, h.get? it = some o → h'.get? it = some o) → (∀ o, h.get? l = some o → h'.get? l = some o) → S h' k
  obj : ∀ {h : Heap} {k : Nat}, S h k → ∃ o, h.get? it = some o ∧ ∀ v, o.data ≠ .cell v
  item : ∀ {prog : Program} {w : World} {A : Around} {E : Value → Shared → Prop} {s : Shared} {k : Nat} {x : Value} {Q : Value → Shared → Prop}, S s.heap k → xs[k]? = some x →
    (∀ h', S h' (k + 1) → Heap.SameBut it s.heap h' → Q x { s with heap := h' }) → wpAny (model prog w) A (Builtin.SmallTypes.nextOf (.ref it)) Q E s
  stop : ∀ {prog : Program} {w : World} {A : Around} {E : Value → Shared → Prop} {s : Shared} {k : Nat} {Q : Value → Shared → Prop}, A.handled = none → S s.heap k → xs[k]? = none →
    (∀ h' e, Heap.ExtBut it s.heap h' → (∃ o, h'.get? e = some o ∧ o.cls = .type "StopIteration") → E (.ref e) { s with heap := h' }) → wpAny (model prog w) A (Builtin.SmallTypes.nextOf (.ref it)) Q E s
def SL (it l : Addr) (xs : Array Value) (h : Heap) (k : Nat) : Prop := h.IsListIter it l k ∧ h.IsList l xs
def ST (it l : Addr) (xs : Array Value) (h : Heap) (k : Nat) : Prop := h.IsTupleIter it l k ∧ h.IsTuple l xs
theorem srcL {it l : Addr} {xs : Array Value} (ne : l ≠ it) : Src it l xs (SL it l xs) where
  keep := fun ⟨a, b⟩ f g => ⟨Heap.IsListIter.at a f, Heap.IsList.at b g⟩
  obj := fun ⟨⟨o, e, _, d⟩, _⟩ => ⟨o, e, fun v q => by rw [d] at q; cases q⟩
  item := fun ⟨a, b⟩ hx q => wpAny_nextOf_list_item a b hx fun h' c d => q h' ⟨c, b.extBut d.extBut ne⟩ d
  stop := fun hh ⟨a, b⟩ hx q => wpAny_nextOf_list_end hh a b hx q
theorem srcT {it l : Addr} {xs : Array Value} (ne : l ≠ it) : Src it l xs (ST it l xs) where
  keep := fun ⟨a, b⟩ f g => ⟨Heap.IsTupleIter.at a f, Heap.IsTuple.at b g⟩
  obj := fun ⟨⟨o, e, _, d⟩, _⟩ => ⟨o, e, fun v q => by rw [d] at q; cases q⟩
  item := fun ⟨a, b⟩ hx q => nextOf_tuple_item a b hx fun h' c d => q h' ⟨c, b.extBut d.extBut ne⟩ d
  stop := fun hh ⟨a, b⟩ hx q => nextOf_tuple_end hh a b hx q
section
variable {prog : Program} {w : World} {A : Around} {E : Value → Shared → Prop} {s : Shared} {z TI TO i1 i2 l1 l2 : Addr} {xs ys : Array Value} {S1 S2 : Heap → Nat → Prop} {k : Nat}
theorem Src.bump {it l c : Addr} {S : Heap → Nat → Prop} {h h' : Heap} (sr : Src it l xs S) (st : S h k) (e : Heap.ExtBut c h h') (n1 : it ≠ c) (n2 : l ≠ c) : S h' k := sr.keep st (fun o q => e _ o n1 q) fun o q => e _ o n2 q
/-- the two places of the pair that stands ready, one behind the other -/
theorem next_item (s1 : Src i1 l1 xs S1) (s2 : Src i2 l2 ys S2) {x y a b : Value} {Q : Value → Shared → Prop} (D : ZipApart z TI TO i1 i2 l1 l2)
    (hz : IsZip s.heap z TI TO .none) (hTI : IsPair s.heap TI (.ref i1) (.ref i2)) (hTO : IsPair s.heap TO a b) (h1 : S1 s.heap k) (h2 : S2 s.heap k) (hx : xs[k]? = some x) (hy : ys[k]? = some y)
    (hQ : ∀ h', IsZip h' z TI TO (rawInt s.heap.objs.size) → IsPair h' TO x y → S1 h' (k + 1) → S2 h' (k + 1) → IsPair h' s.heap.objs.size x y →
      (∀ c o, c ≠ z → c ≠ TO → c ≠ i1 → c ≠ i2 → s.heap.get? c = some o → h'.get? c = some o) → Q (.ref s.heap.objs.size) { s with heap := h' }) :
    wpAny (model prog w) A (Builtin.«zip.__next__» ⟨[.ref z], []⟩) (fun fin s' => ∃ v, fin = .done (.ret v) ∧ Q v s') E s := by
  show wpAny _ _ (field (.ref z) 2 >>= _) _ _ _
  refine wpAny_bind (wpAny_field hz rfl (x := .bool false) rfl ?_)
  show wpAny _ _ (field (.ref z) 3 >>= _) _ _ _
  refine wpAny_bind (wpAny_field hz rfl (x := .ref TI) rfl (wpAny_bind (wpAny_seqItems hTI rfl ?_)))
  show wpAny _ _ (Builtin.SmallTypes.ownedTupleIsFree (.ref z) >>= _) _ _ _
  refine wpAny_bind ?_
  unfold Builtin.SmallTypes.ownedTupleIsFree
  refine wpAny_bind (wpAny_field hz rfl (x := .none) rfl (wpAny_pure ?_))
  simp only [if_true]
  refine wpAny_bind (wpAny_rule (wpAny_bind (wpAny_field hz rfl (x := .ref TO) rfl (wpAny_bind (wpAny_setField_rec hz (by simp) fun ha za ea => ?_)))))
  replace za : IsZip ha z TI TO .ellipsis := za
  have pa : IsPair ha TO a b := ea.extBut _ _ D.TOz hTO
  have qa1 := s1.bump h1 ea.extBut D.i1z D.l1z
  have qa2 := s2.bump h2 ea.extBut D.i2z D.l2z
  refine wpAny_bind ?_
  simp only [List.zipIdx_cons, List.zipIdx_nil, List.forIn_cons, List.forIn_nil]
  refine wpAny_bind (wpAny_bind (wpAny_onRaise ?_))
  show wpAny _ _ (Builtin.SmallTypes.nextOf (.ref i1) >>= _) _ _ _
  refine wpAny_bind (s1.item qa1 hx fun hb qb1 eb => wpAny_pure ?_)
  have pb : IsPair hb TO a b := eb.extBut _ _ D.TOi1 pa
  have qb2 := s2.bump qa2 eb.extBut D.i12.symm D.l2i1
  refine wpAny_bind (wpAny_seqItems pb rfl (wpAny_bind (wpAny_updateSeq_pair pb fun hc pc ec => ?_)))
  replace pc : IsPair hc TO x b := pc
  have qc1 := s1.bump qb1 ec.extBut D.TOi1.symm D.l1TO
  have qc2 := s2.bump qb2 ec.extBut D.TOi2.symm D.l2TO
  refine wpAny_bind (wpAny_letGo (wpAny_pure ?_))
  refine wpAny_bind (wpAny_bind (wpAny_onRaise ?_))
  show wpAny _ _ (Builtin.SmallTypes.nextOf (.ref i2) >>= _) _ _ _
  refine wpAny_bind (s2.item qc2 hy fun hd qd2 ed => wpAny_pure ?_)
  have pd : IsPair hd TO x b := ed.extBut _ _ D.TOi2 pc
  have qd1 := s1.bump qc1 ed.extBut D.i12 D.l1i2
  refine wpAny_bind (wpAny_seqItems pd rfl (wpAny_bind (wpAny_updateSeq_pair pd fun he pe ee => ?_)))
  replace pe : IsPair he TO x y := pe
  have qe1 := s1.bump qd1 ee.extBut D.TOi1.symm D.l1TO
  have qe2 := s2.bump qd2 ee.extBut D.TOi2.symm D.l2TO
  refine wpAny_bind (wpAny_letGo (wpAny_pure (wpAny_pure ?_)))
  refine wpAny_bind (wpAny_seqItems pe rfl (wpAny_bind (wpAny_newTuple ?_)))
  have sz : he.objs.size = s.heap.objs.size := by rw [ee.1, ed.1, ec.1, eb.1, ea.1]
  have ze : IsZip he z TI TO .ellipsis := ee.extBut _ _ D.TOz.symm (ed.extBut _ _ D.i2z.symm (ec.extBut _ _ D.TOz.symm (eb.extBut _ _ D.i1z.symm za)))
  have ke : ∀ c o, c ≠ z → c ≠ TO → c ≠ i1 → c ≠ i2 → s.heap.get? c = some o → he.get? c = some o := fun c o c1 c2 c3 c4 e =>
    ee.extBut _ _ c2 (ed.extBut _ _ c4 (ec.extBut _ _ c2 (eb.extBut _ _ c3 (ea.extBut _ _ c1 e))))
  have lz : z < he.objs.size := Heap.lt_size ze
  show wpAny _ _ (Builtin.SmallTypes.ownedTupleHandOut (.ref z) (.ref he.objs.size) >>= _) _ _ _
  refine wpAny_bind ?_
  unfold Builtin.SmallTypes.ownedTupleHandOut
  have zf : IsZip (he.push { cls := .type "tuple", data := .seq #[x, y] }) z TI TO .ellipsis := Heap.get?_push_of_some _ ze
  refine wpAny_bind (wpAny_setField_rec zf (by simp) fun hg zg eg => ?_)
  replace zg : IsZip hg z TI TO (rawInt he.objs.size) := zg
  refine wpAny_setField_rec zg (by simp) fun hi zi ei => ?_
  replace zi : IsZip hi z TI TO (rawInt he.objs.size) := zi
  have up : ∀ c o, c ≠ z → he.get? c = some o → hi.get? c = some o := fun c o c1 e => ei.extBut _ _ c1 (eg.extBut _ _ c1 (Heap.get?_push_of_some _ e))
  have pi : IsPair hi he.objs.size x y := ei.extBut _ _ (Nat.ne_of_gt lz) (eg.extBut _ _ (Nat.ne_of_gt lz) (Heap.get?_push_size _ rfl))
  rw [sz] at zi pi
  refine wpAny_pure ⟨_, rfl, ?_⟩
  show Q (.ref he.objs.size) _
  rw [sz]
  exact hQ hi zi (up _ _ D.TOz pe) (s1.keep qe1 (fun o e => up _ o D.i1z e) fun o e => up _ o D.l1z e) (s2.keep qe2 (fun o e => up _ o D.i2z e) fun o e => up _ o D.l2z e) pi fun c o c1 c2 c3 c4 e => up c o c1 (ke c o c1 c2 c3 c4 e)
theorem next_end (s1 : Src i1 l1 xs S1) (s2 : Src i2 l2 ys S2) {a b : Value} {Q : Fin → Shared → Prop} (hh : A.handled = none) (D : ZipApart z TI TO i1 i2 l1 l2)
    (hz : IsZip s.heap z TI TO .none) (hTI : IsPair s.heap TI (.ref i1) (.ref i2)) (hTO : IsPair s.heap TO a b) (h1 : S1 s.heap k) (h2 : S2 s.heap k) (hend : xs[k]? = none ∨ ys[k]? = none)
    (hE : ∀ h' e, (∀ c o, c ≠ z → c ≠ TO → c ≠ i1 → c ≠ i2 → s.heap.get? c = some o → h'.get? c = some o) → (∃ o, h'.get? e = some o ∧ o.cls = .type "StopIteration") → E (.ref e) { s with heap := h' }) :
    wpAny (model prog w) A (Builtin.«zip.__next__» ⟨[.ref z], []⟩) Q E s := by
  show wpAny _ _ (field (.ref z) 2 >>= _) _ _ _
  refine wpAny_bind (wpAny_field hz rfl (x := .bool false) rfl ?_)
  show wpAny _ _ (field (.ref z) 3 >>= _) _ _ _
  refine wpAny_bind (wpAny_field hz rfl (x := .ref TI) rfl (wpAny_bind (wpAny_seqItems hTI rfl ?_)))
  show wpAny _ _ (Builtin.SmallTypes.ownedTupleIsFree (.ref z) >>= _) _ _ _
  refine wpAny_bind ?_
  unfold Builtin.SmallTypes.ownedTupleIsFree
  refine wpAny_bind (wpAny_field hz rfl (x := .none) rfl (wpAny_pure ?_))
  simp only [if_true]
  refine wpAny_bind (wpAny_rule (wpAny_bind (wpAny_field hz rfl (x := .ref TO) rfl (wpAny_bind (wpAny_setField_rec hz (by simp) fun ha za ea => ?_)))))
  replace za : IsZip ha z TI TO .ellipsis := za
  have pa : IsPair ha TO a b := ea.extBut _ _ D.TOz hTO
  have qa1 := s1.bump h1 ea.extBut D.i1z D.l1z
  have qa2 := s2.bump h2 ea.extBut D.i2z D.l2z
  -- what is raised leaves the pair's mark free again
  have free : ∀ (h' : Heap) (e : Addr), IsZip h' z TI TO .ellipsis → (∃ o, h'.get? e = some o ∧ o.cls = .type "StopIteration") → ∀ h'', Heap.SameBut z h' h'' → ∃ o, h''.get? e = some o ∧ o.cls = .type "StopIteration" := fun h' e zq ⟨o, ho, hc⟩ h'' eq =>
    ⟨o, eq.extBut _ _ (fun x => by subst x; rw [zq] at ho; cases ho; simp at hc) ho, hc⟩
  refine wpAny_bind ?_
  simp only [List.zipIdx_cons, List.zipIdx_nil, List.forIn_cons, List.forIn_nil]
  refine wpAny_bind (wpAny_bind (wpAny_onRaise ?_))
  show wpAny _ _ (Builtin.SmallTypes.nextOf (.ref i1) >>= _) _ _ _
  cases hx : xs[k]? with
  | none =>
    refine wpAny_bind (s1.stop hh qa1 hx fun hb e eb he => ?_)
    have zb : IsZip hb z TI TO .ellipsis := eb _ _ D.i1z.symm za
    exact wpAny_setField_rec zb (by simp) fun hc _ ec => hE hc e (fun c o c1 _ c3 _ x => ec.extBut _ _ c1 (eb _ _ c3 (ea.extBut _ _ c1 x))) (free hb e zb he hc ec)
  | some x =>
    have hy : ys[k]? = none := hend.elim (fun q => by rw [hx] at q; cases q) id
    refine wpAny_bind (s1.item qa1 hx fun hb qb1 eb => wpAny_pure ?_)
    have pb : IsPair hb TO a b := eb.extBut _ _ D.TOi1 pa
    have qb2 := s2.bump qa2 eb.extBut D.i12.symm D.l2i1
    refine wpAny_bind (wpAny_seqItems pb rfl (wpAny_bind (wpAny_updateSeq_pair pb fun hc pc ec => ?_)))
    have qc2 := s2.bump qb2 ec.extBut D.TOi2.symm D.l2TO
    refine wpAny_bind (wpAny_letGo (wpAny_pure ?_))
    refine wpAny_bind (wpAny_bind (wpAny_onRaise ?_))
    show wpAny _ _ (Builtin.SmallTypes.nextOf (.ref i2) >>= _) _ _ _
    refine wpAny_bind (s2.stop hh qc2 hy fun hd e ed he => ?_)
    have zd : IsZip hd z TI TO .ellipsis := ed _ _ D.i2z.symm (ec.extBut _ _ D.TOz.symm (eb.extBut _ _ D.i1z.symm za))
    exact wpAny_setField_rec zd (by simp) fun hf _ ef => hE hf e (fun c o c1 c2 c3 c4 x => ef.extBut _ _ c1 (ed _ _ c4 (ec.extBut _ _ c2 (eb.extBut _ _ c3 (ea.extBut _ _ c1 x))))) (free hd e zd he hf ef)
end
/-- a tuple at a beside a list at b -/
def ItzM (K : PySem.W.Frag) (a b : Addr) : It where
  go := fun i H => ∃ (xs ys : List V) (x y : V), SqT K H a xs ∧ SqL K H b ys ∧ xs[i]? = some x ∧ ys[i]? = some y
  yld := fun i H v H' => ∃ T x y, v = .ref T ∧ H T = none ∧ H' = upd H T (.tup [x, y]) ∧ (∀ xs, SqT K H a xs → xs[i]? = some x) ∧ ∀ ys, SqL K H b ys → ys[i]? = some y
  stop := fun i H => ∃ xs ys : List V, SqT K H a xs ∧ SqL K H b ys ∧ (xs.length ≤ i ∨ ys.length ≤ i)
theorem turnM {P : Program} {w : World} {K : PySem.W.Frag} {elts : List Expr} {kk : Nat} {tpos : Pos} {a b z TI TO i1 i2 : Addr} (D : ZipApart z TI TO i1 i2 a b) :
    Turn P w K (.Tuple elts kk tpos) (ItzM K a b) [z, TI, TO, i1, i2] z (fun i h => IsZip h z TI TO .none ∧ IsPair h TI (.ref i1) (.ref i2) ∧ (∃ x y, IsPair h TO x y) ∧ h.IsTupleIter i1 a i ∧ h.IsListIter i2 b i) where
  mem := by simp
  obj := fun i h ⟨hz, hTI, ⟨x, y, hTO⟩, ⟨o1, e1, _, d1⟩, ⟨o2, e2, _, d2⟩⟩ c hc => by
    simp only [List.mem_cons, List.not_mem_nil, or_false] at hc
    rcases hc with rfl | rfl | rfl | rfl | rfl
    · exact ⟨_, hz, fun v q => nomatch q⟩
    · exact ⟨_, hTI, fun v q => nomatch q⟩
    · exact ⟨_, hTO, fun v q => nomatch q⟩
    · exact ⟨o1, e1, fun v q => by rw [d1] at q; cases q⟩
    · exact ⟨o2, e2, fun v q => by rw [d2] at q; cases q⟩
  keep := fun i h h' ⟨hz, hTI, ⟨x, y, hTO⟩, h1, h2⟩ k => ⟨k z (by simp) _ hz, k TI (by simp) _ hTI, ⟨x, y, k TO (by simp) _ hTO⟩, h1.at (k i1 (by simp)), h2.at (k i2 (by simp))⟩
  item := by
    intro X hP hw hK hc i pins s σ H E I hf ⟨hz, hTI, ⟨x0, y0, hTO⟩, h1, h2⟩ ⟨xs, ys, x, y, hqx, hqy, hx, hy⟩
    subst hP hw hK
    obtain ⟨its, rv, p, _⟩ := I.tuple hqx
    obtain ⟨its2, rv2, p2, _⟩ := I.list hqy
    obtain ⟨u, hu, ru⟩ := rv.get hx
    obtain ⟨u2, hu2, ru2⟩ := rv2.get hy
    have hT : s.TypeIs (.ref z) "zip" := ⟨_, hz, rfl⟩
    have lz : z < s.heap.objs.size := Heap.lt_size hz
    unfold pyNext
    refine wpAny_bind (wpAny_attempt (wpAny_callSpecial?_slot (name := Str.ofString "__next__") hT F.slot_zip_next (wpAny_call_entry F.slot_zip_next hT F.entry_zip_next
      (next_item (k := i) (srcT (xs := its.toArray) D.l1i1) (srcL (xs := its2.toArray) D.l2i2) D hz hTI hTO ⟨h1, p⟩ ⟨h2, p2.isList⟩ (x := u) (y := u2) (by simpa using hu) (by simpa using hu2) fun h' z' TO' h1' h2' pT hk => wpAny_pure ?_) (F.args_zip_next_1 _))))
    refine ⟨_, rfl, wpAny_letOwnedTupleGo_zip (s := { s with heap := h' }) z' fun h'' z'' sb => ?_⟩
    have pT2 : h''.get? s.heap.objs.size = some { cls := .type "tuple", data := .seq #[u, u2] } := (sb.2 _ (Nat.ne_of_gt lz)).trans pT
    have new : ObjOk X.prog X.w (upd H s.heap.objs.size (.tup [x, y])) h'' s.heap.objs.size (.tup [x, y]) :=
      ⟨by show 2 ≤ sizeLine; decide, [u, u2], .cons ru (.cons ru2 .nil), ⟨_, pT2, rfl, _, rfl⟩⟩
    have I1 : Inv X pins σ (upd H s.heap.objs.size (.tup [x, y])) { s with heap := h'' } :=
      I.turnedNew (t' := s.toks) (ch := [z, TI, TO, i1, i2]) (fun c o hb q => (sb.2 c (fun q' => hb (by simp [q']))).trans (hk c o (fun q' => hb (by simp [q'])) (fun q' => hb (by simp [q'])) (fun q' => hb (by simp [q'])) (fun q' => hb (by simp [q'])) q)) hf (Nat.le_refl _) new
    refine ⟨.ref s.heap.objs.size, _, I1, rfl, ⟨_, x, y, rfl, I.hok.fresh (Nat.le_refl _), rfl, fun l hl => by rw [I.tuple_inj hl hqx]; exact hx, fun l hl => by rw [I.list_inj hl hqy]; exact hy⟩, ⟨z'', ?_, ⟨u, u2, (sb.2 _ D.TOz).trans TO'⟩, h1'.1.at fun o q => (sb.2 _ D.i1z).trans q, h2'.1.at fun o q => (sb.2 _ D.i2z).trans q⟩, fun c hcm => ?_⟩
    · exact (sb.2 _ D.TIz).trans (hk _ _ D.TIz D.TITO D.TIi1 D.TIi2 hTI)
    · have hlt : c < s.heap.objs.size := by
        obtain ⟨o1, e1, _⟩ := h1
        obtain ⟨o2, e2, _⟩ := h2
        have cm := hcm
        simp only [List.mem_cons, List.not_mem_nil, or_false] at cm
        rcases cm with rfl | rfl | rfl | rfl | rfl
        · exact lz
        · exact Heap.lt_size hTI
        · exact Heap.lt_size hTO
        · exact Heap.lt_size e1
        · exact Heap.lt_size e2
      rw [upd_ne (Nat.ne_of_lt hlt)]
      exact (hf c hcm).1
  done := by
    intro X hP hw hK hc i pins s σ H E I hf ⟨hz, hTI, ⟨x0, y0, hTO⟩, h1, h2⟩ ⟨xs, ys, hqx, hqy, hend⟩
    subst hP hw hK
    obtain ⟨its, rv, p, _⟩ := I.tuple hqx
    obtain ⟨its2, rv2, p2, _⟩ := I.list hqy
    have l1 := rv.length
    have l2 := rv2.length
    have he : its.toArray[i]? = none ∨ its2.toArray[i]? = none := hend.elim (fun q => .inl (by simp; omega)) fun q => .inr (by simp; omega)
    have hT : s.TypeIs (.ref z) "zip" := ⟨_, hz, rfl⟩
    unfold pyNext
    refine wpAny_bind (wpAny_attempt (wpAny_callSpecial?_slot (name := Str.ofString "__next__") hT F.slot_zip_next (wpAny_call_entry F.slot_zip_next hT F.entry_zip_next
      (next_end (k := i) (srcT (xs := its.toArray) D.l1i1) (srcL (xs := its2.toArray) D.l2i2) (I.ok.hd hc) D hz hTI hTO ⟨h1, p⟩ ⟨h2, p2.isList⟩ he fun h' e hk ⟨o, ho, hcl⟩ => ?_) (F.args_zip_next_1 _))))
    refine wpAny_bind (wpAny_isInstance (T := "StopIteration") (b := true) ⟨o, ho, hcl⟩ isSubtype_stop (wpAny_pure ?_))
    exact ⟨rfl, I.turnedL (t' := s.toks) (ch := [z, TI, TO, i1, i2]) (fun c o hb q => hk c o (fun q' => hb (by simp [q'])) (fun q' => hb (by simp [q'])) (fun q' => hb (by simp [q'])) (fun q' => hb (by simp [q'])) q) hf⟩
  self := fun A i s Q E st h => wpAny_pyIter_zip st.1 h
/-- the heap after each of the five new objects -/
abbrev g1 (h : Heap) (a : Addr) : Heap := h.push { cls := .type "tuple_iterator", data := .fields #[.ref a, .int 0 0] }
abbrev g2 (h : Heap) (a b : Addr) : Heap := (g1 h a).push { cls := .type "list_iterator", data := .fields #[.ref b, .int 0 0] }
abbrev g3 (h : Heap) (a b : Addr) : Heap := (g2 h a b).push { cls := .type "tuple", data := .seq #[.ref h.objs.size, .ref (g1 h a).objs.size] }
abbrev g4 (h : Heap) (a b : Addr) : Heap := (g3 h a b).push { cls := .type "tuple", data := .seq #[.none, .none] }
abbrev g5 (h : Heap) (a b : Addr) : Heap := (g4 h a b).push { cls := .type "zip", data := .fields #[.none, .bool false, .bool false, .ref (g2 h a b).objs.size, .ref (g3 h a b).objs.size] }
theorem meets_new (a b : Addr) (xs ys : Array Value) :
    Meets (Builtin.«zip.__new__» ⟨[.type "zip", .ref a, .ref b], []⟩) (fun _ R s => s.heap.IsTuple a xs ∧ s.heap.IsList b ys ∧ R (.ok (.ret (.ref (g4 s.heap a b).objs.size))) { s with heap := g5 s.heap a b }) :=
  .of_wp fun prog w A R s h => by
    obtain ⟨hp, g, d, tk, os⟩ := s
    obtain ⟨ha, hb, h⟩ := h
    have hsub := sub_zip
    have hL1 : Heap.IsTuple (Shared.heap ⟨hp, g, d, tk, os⟩) a xs := ha
    have hL2 : Heap.IsList (Shared.heap ⟨hp.push { cls := .type "tuple_iterator", data := .fields #[.ref a, .int 0 0] }, g, d, tk, os⟩) b ys := Heap.IsList.at hb fun o q => Heap.get?_push_of_some _ q
    wp_walk using wpAny_pyIter_tuple hL1, wpAny_pyIter_list hL2
    exact ⟨_, rfl, h⟩
theorem call_new {prog : Program} {w : World} {A : Around} {E : Value → Shared → Prop} {s : Shared} {a b : Addr} {xs ys : Array Value} {Q : Value → Shared → Prop} (ha : s.heap.IsTuple a xs) (hb : s.heap.IsList b ys)
    (h : ∀ h', IsZip h' (s.heap.objs.size + 4) (s.heap.objs.size + 2) (s.heap.objs.size + 3) .none → IsPair h' (s.heap.objs.size + 2) (.ref s.heap.objs.size) (.ref (s.heap.objs.size + 1)) → IsPair h' (s.heap.objs.size + 3) .none .none →
      h'.IsTupleIter s.heap.objs.size a 0 → h'.IsListIter (s.heap.objs.size + 1) b 0 → (∀ c o, s.heap.get? c = some o → h'.get? c = some o) → Q (.ref (s.heap.objs.size + 4)) { s with heap := h' }) :
    wpAny (model prog w) A (call (.type "zip") [.ref a, .ref b]) Q E s := by
  refine callType_new F.called_zip (by decide) (F.typeCall_zip_2 _ _) (F.newCall_zip_2 _ _) (fun obj => F.args_object_init_3 obj _ _) F.entry_zip_new (meets_new a b xs ys) ⟨ha, hb, ?_⟩
  have n1 : (g1 s.heap a).objs.size = s.heap.objs.size + 1 := Heap.size_push ..
  have n2 : (g2 s.heap a b).objs.size = s.heap.objs.size + 2 := by rw [Heap.size_push, n1]
  have n3 : (g3 s.heap a b).objs.size = s.heap.objs.size + 3 := by rw [Heap.size_push, n2]
  have n4 : (g4 s.heap a b).objs.size = s.heap.objs.size + 4 := by rw [Heap.size_push, n3]
  have up : ∀ {c : Addr} {o : Obj} {x : Heap} (p : Obj), x.get? c = some o → (x.push p).get? c = some o := fun p q => Heap.get?_push_of_some _ q
  have e5 : (g5 s.heap a b).get? (g4 s.heap a b).objs.size = some _ := Heap.get?_push_size _ rfl
  have e4 : (g5 s.heap a b).get? (g3 s.heap a b).objs.size = some _ := up _ (Heap.get?_push_size _ rfl)
  have e3 : (g5 s.heap a b).get? (g2 s.heap a b).objs.size = some _ := up _ (up _ (Heap.get?_push_size _ rfl))
  have e2 : (g5 s.heap a b).get? (g1 s.heap a).objs.size = some _ := up _ (up _ (up _ (Heap.get?_push_size _ rfl)))
  have e1 : (g5 s.heap a b).get? s.heap.objs.size = some _ := up _ (up _ (up _ (up _ (Heap.get?_push_size _ rfl))))
  show _ ∧ _
  rw [n2, n3, n4] at e5
  rw [n1, n2] at e3
  rw [n3] at e4
  rw [n1] at e2
  rw [n4]
  exact ⟨⟨_, e5, rfl⟩, h _ e5 e3 e4 ⟨_, e1, rfl, rfl⟩ ⟨_, e2, rfl, rfl⟩ fun c o x => up _ (up _ (up _ (up _ (up _ x))))⟩
def iZipM (K : PySem.W.Frag) (ta : TA) : TI := fun σ H R => ta σ H fun vs H1 => ∃ a b xs ys, vs = [.ref a, .ref b] ∧ SqT K H1 a xs ∧ SqL K H1 b ys ∧ R (ItzM K a b) H1
theorem pi_zipM {X : Cx} {e e2 : Expr} {ta : TA} {p pos tpos : Pos} {elts : List Expr} {kk : Nat} (hg : Gl X "zip") (hm : X.mg "zip" = none) (ha : PA X [e, e2] ta)
    (hs : starEach [e, e2] X.env = (false, eval e X.env) :: starEach [e2] X.env := by rfl) (hpl : (backTo pos (starEach [e2] X.env)).any (·.1) = false := by rfl) :
    PI X (.Tuple elts kk tpos) (.Call (.Name "zip" p) [e, e2] [] pos) (iZipM X.K ta) := by
  refine ⟨fun pins s σ H R I h => ?_⟩
  refine Call_ (ld_blt I hg hm PyProof.Rows.boot_zip (PyProof.Rows.callWith_type1 (thn (ha.run pos pins s σ H _ I h) fun us s1 ⟨vs, H1, I1, r1, a, b, xs, ys, ex, hqx, hqy, q⟩ => ?_) hs hpl))
  subst ex
  cases r1 with
  | cons r rr =>
    cases rr with
    | cons r' rr =>
      cases rr
      cases r
      cases r'
      obtain ⟨its, rv, p1, _⟩ := I1.tuple hqx
      obtain ⟨its2, rv2, p2, _⟩ := I1.list hqy
      obtain ⟨o1, ho1, _⟩ := id p1
      have fresh : ∀ c, c ∈ [s1.heap.objs.size + 4, s1.heap.objs.size + 2, s1.heap.objs.size + 3, s1.heap.objs.size, s1.heap.objs.size + 1] → FpOk X pins H1 c := fun c hcm => by
        have hle : s1.heap.objs.size ≤ c := by
          simp only [List.mem_cons, List.not_mem_nil, or_false] at hcm
          rcases hcm with rfl | rfl | rfl | rfl | rfl
          · exact Nat.le_add_right _ _
          · exact Nat.le_add_right _ _
          · exact Nat.le_add_right _ _
          · exact Nat.le_refl _
          · exact Nat.le_add_right _ _
        exact I1.fpOk hle (I1.hok.fresh hle)
      refine call_new (show s1.heap.IsTuple a its.toArray from p1) p2.isList fun h' hz hTI hTO h1 h2 hk => wpAny_pyIter_zip hz ?_
      exact ⟨s1.heap.objs.size + 4, [s1.heap.objs.size + 4, s1.heap.objs.size + 2, s1.heap.objs.size + 3, s1.heap.objs.size, s1.heap.objs.size + 1], _, _, H1, rfl, I1.kept (t' := s1.toks) hk, turnM (PySem.W.ktu_apart s1.heap.objs.size a b (Heap.lt_size ho1) p2.lt), ⟨hz, hTI, ⟨_, _, hTO⟩, h1, h2⟩, fresh, q⟩
end VZ
namespace VL
open PySem L2 VZ
section
variable {C : Ctx} {ta tb : TE} {da db : DE}
@[simp] def iZpM (da db : DE) : DI := fun δ Φ => da δ fun x => db δ fun y => ∃ xs ys, x = .tuple xs ∧ y = .list ys ∧ Φ (zipD xs ys)
theorem smi_zipM (ha : Sm C true ta da) (hb : Sm C true tb db) : SmI C (iZipM C.K (tCons ta (tCons tb tNil))) (iZpM da db) := fun σ δ H0 H Φ R s w q =>
  ha σ δ H0 H _ _ s w fun H01 H1 v x e1 r1 w1 => hb σ δ H01 H1 _ _ (s.go e1) w1 fun H02 H2 u y e2 r2 ⟨xs, ys, ex, ey, w2⟩ => by
    subst ex ey
    have r1' := r1.mono e2.fz
    cases r1' with
    | @tup a us _ h r =>
      cases r2 with
      | @lst b ws _ h' r' =>
        refine ⟨a, b, us, ws, rfl, same_t e2.wf.sub h, SqL.of (e2.wf.sub _ _ h'), q H02 H2 _ _ (e1.trans e2) ⟨?_, ?_, ?_⟩ w2⟩
        · intro H0' H' i e w hi
          refine ⟨us, ws, same_t w.sub (same_t e h), SqL.of (w.sub _ _ (e _ _ h')), ?_⟩
          rw [r.length, r'.length]
          unfold zipD at hi
          rw [List.length_zipWith] at hi
          omega
        · intro H0' H' i e w hi
          unfold zipD at hi
          rw [List.length_zipWith] at hi
          obtain ⟨y1, hy1⟩ := get_lt (show i < xs.length by omega)
          obtain ⟨v1, h1, _⟩ := r.get hy1
          obtain ⟨y2, hy2⟩ := get_lt (show i < ys.length by omega)
          obtain ⟨v2, h2, _⟩ := r'.get hy2
          exact ⟨us, ws, v1, v2, same_t w.sub (same_t e h), SqL.of (w.sub _ _ (e _ _ h')), h1, h2⟩
        · intro H0' H' i v H'' e w hi y
          obtain ⟨T, x1, x2, rfl, hT, rfl, y1, y2⟩ := y
          have y1 := y1 us (same_t w.sub (same_t e h))
          have y2 := y2 ws (SqL.of (w.sub _ _ (e _ _ h')))
          obtain ⟨d1, hd1, rd1⟩ := r.get' y1
          obtain ⟨d2, hd2, rd2⟩ := r'.get' y2
          obtain ⟨H0'', g, r2⟩ := tup_new w hT (.cons (rd1.mono e) (.cons (Rp.mono e rd2) .nil))
          refine ⟨H0'', _, g, ?_, r2⟩
          unfold zipD
          rw [List.getElem?_zipWith, hd1, hd2]
end
end VL

/-! Defs that are called where no repr is under way: repr of data. -/
namespace VG
open PySem PySem.Spec PyProof.Rows L2
section
variable {P : Program} {w : World} {K : PySem.W.Frag} {mg : Str → Option Value} {base : Heap} {fa : Addr} {fd : FuncData} {nms : List Str} {k : Nat} {sp : Sp}
/-- a def's promise, where the stack holds no guard -/
structure FnG (P : Program) (w : World) (K : PySem.W.Frag) (mg : Str → Option Value) (base : Heap) (k : Nat) (fa : Addr) (fd : FuncData) (nms : List Str) (sp : Sp) : Prop where
  size : ∀ xs H Q E, sp xs H Q E → xs.length = nms.length
  goes : ∀ (A : Around) (ou : List Env) (st : Shared) (H : Hp) (ar : Args) (us : List Value) (xs : List V) (Q : VK) (E : XK), A.guards = some [] → Room k A → Env0 P w K mg base A ou st H → BindsTo st fd ar (nms.zip us) → Vals xs us → sp xs H Q E →
    codeAny (model P w) A (.call (.ref fa) ar) (CR CX0 ou P w H st Q E) st
theorem FnG.of (F : FnOk P w K mg base CX0 k fa fd nms sp) : FnG P w K mg base k fa fd nms sp := ⟨F.len, fun A ou st H ar us xs Q E _ => F.run A ou st H ar us xs Q E⟩
end
section
variable {X : Cx} {k : Nat} {fa : Addr} {fd : FuncData} {nms : List Str} {sp : Sp} {more : List V} {mvs : List Value} {x : Str} {p1 p2 : Pos} {e1 : Expr} {es : List Expr} {ta : TA}
theorem goes_fn {E : XK} {pins : List (Addr × Obj)} {σ : L2.St} {H : Hp} {st : Shared} {Q : VK} {us : List Value} {xs : List V} (gd : X.A.guards = some []) (F : FnG X.prog X.w X.K X.mg X.base k fa fd nms sp) (rm : Room k X.A) (bi : Binds X.K fd nms mvs) (dv : Vals more mvs)
    (inv : Inv X pins σ H st) (rv : Vals xs us) (wish : sp (xs ++ more) H Q E) : wpAny (model X.prog X.w) X.A (call (.ref fa) us) (EP X pins σ Q) X.xe st := by
  have both : Vals (xs ++ more) (us ++ mvs) := rv.append dv
  have sz : (us ++ mvs).length = nms.length := both.length.symm.trans (F.size _ _ _ _ wish)
  refine wpAny_call (codeAny_mono (F.goes X.A X.stack st H ⟨us, []⟩ (us ++ mvs) (xs ++ more) Q E gd rm inv.env0 (bi st us inv.kIn sz) both wish) fun res st' got => ?_)
  match res, got with
  | .error _, got => exact got.elim
  | .ok (.ret _), got => exact inv.after got
  | .ok .next, got => exact got.elim
  | .ok .brk, got => exact got.elim
  | .ok .cont, got => exact got.elim
theorem pe_callG (gd : X.A.guards = some []) (F : FnG X.prog X.w X.K X.mg X.base k fa fd nms sp) (rm : Room k X.A) (hg : Gl X x) (hm : X.mg x = some (.ref fa)) (hk : PySem.W.keepIn X.K (.ref fa) = true) (bi : Binds X.K fd nms mvs) (dv : Vals more mvs)
    (pa : PA X (e1 :: es) ta) (dbg : (x == ("__debug__" : Str)) = false := by decide) (h1 : starEach (e1 :: es) X.env = (false, eval e1 X.env) :: starEach es X.env := by rfl) (h2 : (backTo p2 (starEach es X.env)).any (·.1) = false := by rfl) :
    PE X (.Call (.Name x p1) (e1 :: es) [] p2) (tCall sp more E0 ta) where
  run := fun pins st σ H Q inv wish => by
    refine wpAny_Call_Name_kw (ld_glob inv hg hm ?_ dbg)
    exact PySem.W.callWith_K (h₀ := X.base) inv.ok.mod.kin hk (thn (pa.run p2 pins st σ H _ inv wish) fun us st1 ⟨xs, H1, inv1, rv, q⟩ => ⟨inv1.kIn, goes_fn gd F rm bi dv inv1 rv q⟩) h1 h2
end
section
variable {P : Program} {w : World} {K : PySem.W.Frag} {mg : Str → Option Value} {base : Heap} {sp : Sp} {k : Nat} {fa : Addr} {fd : FuncData} {nms Ns : List Str} {x qu : Str} {sm : Stmt}
theorem okG (F : Fun K x qu sm fa fd) (S : FnScope Ns nms (defScope sm)) (size : ∀ xs H Q E, sp xs H Q E → xs.length = nms.length)
    (body : ∀ (cdv : Value) (A : Around) (ou : List Env) (st : Shared) (H : Hp) (xs : List V) (Q : VK) (E : XK), A.guards = some [] → Room k (A.deeper (envOfC qu (defScope sm) st.heap.objs.size fa cdv)) → sp xs H Q E →
      ∃ t, PSs (cxOf CX0 P w K mg base Ns qu (defScope sm) fa cdv A ou st H E).nox (defBody sm) t ∧ t { nx := fun _ H' => Q .non H', rt := Q } (L2.start Ns xs) H) : FnG P w K mg base (k + 1) fa fd nms sp := by
  obtain ⟨_, _, _, _, _, _, cdv, _, _, rfl, lk, cin⟩ := F.ex
  refine ⟨size, fun A ou st H ar us xs Q E gd rm e0 bi rv wish => ?_⟩
  have sz := size _ _ _ _ wish
  have kin : K.In st.heap := e0.mod.kin.keeps fun b o z => (e0.bs b o z).1
  have nol : st.heap.NoLimit := e0.mod.nolimit.keeps fun b o z => (e0.bs b o z).1
  have each : ∀ y ∈ nms.zip us, (defScope sm).names.lookup y.1 = some .local ∨ ((defScope sm).names.lookup y.1 = some .cell ∧ ((cellsFrom (st.heap.objs.size + 1) (defScope sm).names []).lookup y.1).isSome = true) := fun y hy =>
    (S.par y.1 (List.of_mem_zip hy).1).imp id fun z => ⟨z, PySem.W.cellsFrom_some _ _ _ (.inl z)⟩
  refine codeAny_call_function rm.depth (kin _ _ lk) rfl S.co S.gen rfl (PySem.W.codeRec_of kin cin) (bi _ _ _ _ ?_)
  refine wpAny_newFunctionEnv_cells S.kind each fun en hen st1 ent => ?_
  subst hen
  refine ⟨nol.keeps ent.toInCall.keep, codeAny_func ?_⟩
  obtain ⟨t, run, got⟩ := body cdv A ou st H xs Q E gd (rm.deeper _) wish
  have inv : Inv (cxOf CX0 P w K mg base Ns qu (defScope sm) fa cdv A ou st H E) [] (L2.start Ns xs) H st1 := inv_start S rm.hd e0 sz rv ent
  refine wpAny_mono (run.nox.run [] st1 (L2.start Ns xs) H _ inv got) (fun fl st' hs => ?_) fun _ _ hs => hs
  have last : ∀ {σ' : L2.St} {H' : Hp} {v : V} {u : Value}, Inv (cxOf CX0 P w K mg base Ns qu (defScope sm) fa cdv A ou st H E) [] σ' H' st' → RelV v u → Q v H' → CE ou P w H st Q u st' :=
    fun J r q => ⟨_, _, J.os, J.bare, J.base, J.hok, r, q⟩
  match fl, hs with
  | .ret _, ⟨_, _, _, J, r, q⟩ => exact last J r q
  | .next, ⟨_, _, J, q⟩ => exact last (v := .non) (u := Value.none) J rfl q
  | .brk, ⟨_, _, _, q⟩ => exact q.elim
  | .cont, ⟨_, _, _, q⟩ => exact q.elim
end
section
variable {P : Program} {w : World} {K : PySem.W.Frag} {mg mb : Str → Option Value} {k : Nat} {fa a : Addr} {fd : FuncData} {x : Str} {sp : Sp} {st : Shared} {us : List Value} {ns : List Int}
/-- the law's call, from its def's promise without guards -/
theorem callG (kin : K.In st.heap) (n1 : st.heap.Ns mainGlobals mg) (n2 : st.heap.Ns builtinsNs mb) (n3 : ∀ x : Str, x ≠ "__name__" → mb x = bootBuiltins x) (n4 : st.heap.NoLimit) (gn : st.gens = #[])
    (ga : st.heap.get? a = some { cls := .type "list", data := .seq us.toArray }) (hi : IntsAre us ns) (hl : ns.length ≤ sizeLine) (rm : Room k callerA)
    (F : ∀ base : Heap, K.In base → base.Ns mainGlobals mg → FnG P w K mg base k fa fd [x] sp) (bi : ∀ (s : Shared) (u : Value), BindsTo s fd ⟨[u], []⟩ [(x, u)])
    (wish : ∀ H : Hp, Only H → SqL K H a (ns.map V.int) → sp [.ref a] H (fun v _ => v = .bl true) fun _ _ _ => False) :
    codeAny (model P w) callerA (.call (.ref fa) ⟨[.ref a], []⟩) (fun r s' => r = .ok (.ret (.bool true)) ∧ OldK st.heap s'.heap ∧ s'.os = st.os ∧ AllBare s'.gens) st := by
  have vals := vals_ints hi
  have core : ∀ H : Hp, Only H → SqL K H a (ns.map V.int) → HOk P w H st.heap → (∀ b, H b ≠ none → b = a) → (H a ≠ none → K.lookup a = none) →
      codeAny (model P w) callerA (.call (.ref fa) ⟨[.ref a], []⟩) (fun r s' => r = .ok (.ret (.bool true)) ∧ OldK st.heap s'.heap ∧ s'.os = st.os ∧ AllBare s'.gens) st := by
    intro H ho hs hok one out
    have none_of : ∀ {b : Addr} {o : Obj}, st.heap.get? b = some o → (b = a → False) → H b = none := fun {b o} _ z => by
      cases q : H b with
      | none => rfl
      | some u => exact (z (one b (by rw [q]; exact nofun))).elim
    have dicts : ∀ {b : Addr} {o : Obj} {ds : Array DictEntry} {n : Nat}, st.heap.get? b = some o → o.data = .dict ds n → H b = none := fun {b o ds n} e d => none_of e fun z => by
      rw [z, ga] at e
      cases e
      cases (show Data.seq us.toArray _ = Data.dict ds n from d)
    have nsp : ∀ {b : Addr} {m : Str → Option Value}, st.heap.Ns b m → (hidT st.heap H).Ns b m := fun ⟨o, ds, n, e, d, r⟩ => ⟨o, ds, n, hidT_get e (dicts e d), d, r⟩
    have kin2 : K.In (hidT st.heap H) := fun b o e => hidT_get (kin b o e) (by
      cases q : H b with
      | none => rfl
      | some u =>
        have z := one b (by rw [q]; exact nofun)
        rw [z] at q e
        rw [out (by rw [q]; exact nofun)] at e
        cases e)
    have md : Mod K mg (hidT st.heap H) := ⟨kin2, nsp n1, ⟨mb, nsp n2, n3⟩, n4.imp fun _ z => ⟨nsp z.1, z.2⟩⟩
    have e0 : Env0 P w K mg (hidT st.heap H) callerA [] st H := ⟨rfl, md, fun _ _ z => of_hidT z, Nat.le_of_eq (hidT_size _ _), trivial, (fun b hb => nomatch (show b ∈ ([] : List Addr) from hb)), hok, .of_eq gn⟩
    refine codeAny_mono ((F _ kin2 (nsp n1)).goes callerA [] st H ⟨[.ref a], []⟩ [.ref a] [.ref a] _ _ rfl rm e0 (bi st (.ref a)) (.cons rfl .nil) (wish H ho hs)) fun r s' got => ?_
    match r, got with
    | .error _, got => exact got.elim
    | .ok .next, got => exact got.elim
    | .ok .brk, got => exact got.elim
    | .ok .cont, got => exact got.elim
    | .ok (.ret u), ⟨v, H', o1, o2, un, hok', rv, q⟩ =>
      have q : v = .bl true := q
      subst q
      obtain rfl : u = Value.bool true := rv
      refine ⟨rfl, OldK.of_keep fun b o e => ?_, o1, o2⟩
      cases hb : H b with
      | none => exact un.keep b o e hb (fun z => nomatch (show b ∈ ([] : List Addr) from z)) nofun
      | some y =>
        rcases ho b with z | ⟨ob, xs, z⟩
        · rw [hb] at z; cases z
        · have e1 := (hok b _ z).1
          rw [e] at e1
          cases e1
          exact (hok' b _ (un.frzs b _ _ z)).1
  cases hk : K.lookup a with
  | some o =>
    have e := kin a o hk
    rw [ga] at e
    cases e
    exact core (fun _ => none) (fun _ => .inl rfl) (.inr ⟨_, us.toArray, _, hk, rfl, rfl, rfl, by rw [List.size_toArray, hi.length]; exact hl, by simpa using vals⟩) (fun b u z => nomatch (show (none : Option HO) = some u from z)) (fun b z => absurd rfl z) fun z => absurd rfl z
  | none =>
    refine core (fun b => if b = a then some (.frz { cls := .type "list", data := .seq us.toArray } (.lst (ns.map V.int))) else none) (fun b => ?_) (.inl (.inr ⟨_, if_pos rfl⟩)) (fun b u z => ?_) (fun b z => ?_) fun _ => hk
    · by_cases hb : b = a
      · exact .inr ⟨_, _, if_pos hb⟩
      · exact .inl (if_neg hb)
    · by_cases hb : b = a
      · cases (if_pos hb).symm.trans z
        subst hb
        exact ⟨ga, by rw [List.length_map]; exact hl, us, _, vals, ga⟩
      · cases (if_neg hb).symm.trans z
    · by_cases hb : b = a
      · exact hb
      · exact absurd (if_neg hb) z
end
theorem walkG {l : PySem.W.OpenLaw} {n k : Nat} {q : Program} {loose : List Str} {XP : (Str → Option Value) → Heap → Prop} {YP : World → Heap → Prop} {d : DefRec} {K : Params → PySem.W.Frag} {sp : World → Sp} {x : Str}
    (hn : l.most = some n) (hn2 : n ≤ sizeLine) (nodef : d.params.defaults = []) (rm : Room k callerA) (hY : ∀ (w : World) (h : Heap), YP w h → (K w.params).In h)
    (F : ∀ (w : World) (mg : Str → Option Value) (fa : Addr) (h : Heap), (K w.params).In h → h.Ns mainGlobals mg → mg d.name = some (.ref fa) →
      ∃ fd : FuncData, (∀ (s : Shared) (u : Value), BindsTo s fd ⟨[u], []⟩ [(x, u)]) ∧ ∀ base : Heap, (K w.params).In base → base.Ns mainGlobals mg → FnG l.prog w (K w.params) mg base k fa fd [x] (sp w))
    (wish : ∀ (w : World) (H : Hp) (a : Addr) (ns : List Int), ns.length ≤ n → Only H → SqL (K w.params) H a (ns.map V.int) → sp w [.ref a] H (fun v _ => v = .bl true) fun _ _ _ => False) :
    PySem.W.WalkO q loose XP YP l.row.toRowW d [] (fun f vs => PySem.call f vs) := by
  refine Att.attach_call hn nodef fun w _ _ mg _ fa _ _ _ _ a _ ns G Y _ _ _ hm ob hi le gn => ?_
  obtain ⟨_, bi, run⟩ := F w mg fa _ (hY w _ Y) G.T.g hm
  exact callG (hY w _ Y) G.T.g G.T.b G.T.builtins G.T.nolimit gn ob hi (Nat.le_trans le hn2) rm run bi fun H h1 h2 => wish w H a ns le h1 h2
/-! ### repr of data -/
/-- data without dicts, not deep, its text not long -/
def Shw (m n : Nat) (d : PyData) : Prop := d.showable = true ∧ d.hasDict = false ∧ d.canLay0 = true ∧ d.depth ≤ n ∧ d.shown.length ≤ m
def rRepr (K : PySem.W.Frag) : List V → Hp → VK → Prop := fun xs H Q => ∃ x d, xs = [x] ∧ (∃ a, x = .ref a) ∧ Dp K H x d ∧ Shw 10000000 60 d ∧ Q (.str d.shown) H
theorem kx_repr {X : Cx} {K : PySem.W.Frag} (h : X.K = K) (gd : X.A.guards = some []) (hu : X.A.units + 64 < cLine) : CallR X (.builtin "repr") (rRepr K) := by
  subst h
  intro pins s σ H xs us Q inv rv ⟨x, d, e, ⟨a, ea⟩, hd, ⟨s1, s2, s3, s4, s5⟩, q⟩
  subst e ea
  cases rv with
  | cons r n =>
    cases n
    obtain ⟨as, rd⟩ := Dp.reads inv d _ _ hd r
    obtain rfl := r
    exact repr_of_reads' rd s1 (PyData.noDict_hsm s2) gd (by omega) (fun _ _ e => e) (fun h' u tk hk => ⟨.str _, H, inv.kept hk, ⟨_, rfl⟩, q⟩) (Nat.le_trans s5 (by decide))
end VG
namespace VL
open PySem L2
section
variable {C : Ctx} {f f1 : Bool} {ta : TE} {da : DE}
@[simp] def isRef : PyData → Bool
  | .list _ => true
  | .tuple _ => true
  | _ => false
@[simp] def gRepr : List PyData → (PyData → Prop) → Prop := fun xs Φ => ∃ d, xs = [d] ∧ isRef d = true ∧ VG.Shw 10000000 60 d ∧ Φ (.str d.shown)
theorem cbd_repr : CbD C (VG.rRepr C.K) gRepr := fun H vs xs Φ Q r ⟨d, e, e2, hs, p⟩ q => by
  subst e
  cases r with
  | cons h n =>
    cases n
    refine ⟨_, d, rfl, ?_, h.dp hs.2.2.1, hs, q _ _ (fun _ => .str _) p⟩
    cases h <;> first | exact ⟨_, rfl⟩ | simp at e2
end
theorem body_start {K : PySem.W.Frag} {ex : Option Addr} {H H0 : Hp} {rs : List R} {vs : List V} {Φ : RX → Prop} {Q : VK} {N : List Str} {ln : Nat} {t : TS} {d : DS} (hn : ln = N.length) (hd : ∀ (ex : Option Addr) (He Hf : Hp), SmS ⟨K, ex, He, Hf⟩ t d) (wf : Wf ⟨K, ex, H, H0⟩ H0 H) (ra : RRas K ex H0 vs rs)
    (hp : d { nx := fun _ => Φ (.d .none), rt := Φ } (startD ln rs)) (q : ∀ H0' H' v r, Wf ⟨K, ex, H, H0⟩ H0' H' → RXR ⟨K, ex, H, H0⟩ H0' H' v r → Φ r → Q v H') : t { nx := fun _ H' => Q .non H', rt := Q } (L2.start N vs) H := by
  have hlen := ra.length
  refine hd ex H H0 _ (startD ln rs) H0 H _ _ ⟨wf, ?_, fun i r e => ?_, fun i j a b xs ys n e1 e2 => ?_⟩ hp ⟨fun H0' H' σ δ g s' w' => ?_, fun H0' H' v r g w' xr p' => q H0' H' v r w' xr p', fun _ _ _ _ _ _ h => h.elim, fun _ _ _ _ _ _ h => h.elim⟩
  · simp [L2.start, startD, hlen, hn]
  · unfold startD at e
    by_cases hi : i < rs.length
    · rw [List.getElem?_append_left (by simpa using hi), List.getElem?_map] at e
      cases e1 : rs[i]? with
      | none => rw [e1] at e; simp at e
      | some r' =>
        rw [e1] at e
        simp at e
        subst e
        obtain ⟨v, h1, h2⟩ := ra.get e1
        refine ⟨v, ?_, ?_⟩
        · unfold L2.start
          rw [List.getElem?_append_left (by rw [List.length_map, hlen]; exact hi), List.getElem?_map, h1]
          rfl
        · cases r' with
          | d x => exact h2
          | own a xs => exact h2.elim
          | drw => exact h2
          | raw u => exact h2
          | scr ns => exact h2
    · rw [List.getElem?_append_right (by simpa using hi)] at e
      rw [List.getElem?_replicate] at e
      split at e <;> simp at e
  · exfalso
    have f : ∀ {i : Nat} {a : Addr} {xs : List PyData}, (startD ln rs)[i]? = some (some (R.own a xs)) → False := fun {i a xs} e => by
      unfold startD at e
      by_cases hi : i < rs.length
      · rw [List.getElem?_append_left (by simpa using hi), List.getElem?_map] at e
        cases e1 : rs[i]? with
        | none => rw [e1] at e; simp at e
        | some r' =>
          rw [e1] at e
          simp at e
          subst e
          obtain ⟨v, h1, h2⟩ := ra.get e1
          exact h2
      · rw [List.getElem?_append_right (by simpa using hi)] at e
        rw [List.getElem?_replicate] at e
        split at e <;> simp at e
    exact f e1
  · exact q H0' H' .non (.d .none) s'.toWf .non w'

theorem fn_okG {P : Program} {w : World} {K : PySem.W.Frag} {mg : Str → Option Value} {base : Heap} {x qual : Str} {st : Stmt} {fa : Addr} {fd : FuncData} {N ps : List Str} {k : Nat} {p : VSp}
    (F : Fun K x qual st fa fd) (S : FnScope N ps (defScope st))
    (hbody : ∀ (cdv : Value) (A : Around) (outer : List Env) (s : Shared) (H : Hp) (E : XK), A.guards = some [] → Room k (A.deeper (PyProof.Rows.envOfC qual (defScope st) s.heap.objs.size fa cdv)) →
      ∃ t, PSs (cxOf CX0 P w K mg base N qual (defScope st) fa cdv A outer s H E).nox (defBody st) t ∧ ∃ d : DS, (∀ (ex : Option Addr) (He Hf : Hp), SmS ⟨K, ex, He, Hf⟩ t d) ∧ ∀ rs Φ, p rs Φ → d { nx := fun _ => Φ (.d .none), rt := Φ } (startD N.length rs)) : VG.FnG P w K mg base (k + 1) fa fd ps (toSp K ps.length p) := by
  refine VG.okG F S (fun vs H Q E h => h.1) (fun cdv A outer s H vs Q E gd hr h => ?_)
  obtain ⟨t, ht, d, hd, hp⟩ := hbody cdv A outer s H E gd hr
  obtain ⟨hl, ex, H0, rs, Φ, wf, ra, hsp, q⟩ := h
  exact ⟨t, ht, body_start rfl hd wf ra (hp rs Φ hsp) q⟩
/-- a comprehension over range(n) -/
theorem oLc_nn {da : DE} {i : Nat} {de : DE} {δ : Dl} {Φ : List PyData → Prop} {n : Nat} (hn : n ≤ 1000000) (h : ∀ Ψ : PyData → Prop, Ψ (.int n) → da δ Ψ) (P : List PyData → Prop) (h0 : P [])
    (hs : ∀ (k : Nat) (acc : List PyData) (Ψ : PyData → Prop), k < n → acc.length = k → P acc → (∀ z, P (acc ++ [z]) → Ψ z) → de (δ.set i (some (.d (.int k)))) Ψ) (hΦ : ∀ acc, acc.length = n → P acc → Φ acc) : oLc (iR1 da) i dYes de δ Φ := by
  unfold oLc
  refine h _ ⟨n, rfl, by omega, by omega, fun k acc => acc.length = k ∧ P acc, ⟨rfl, h0⟩, fun k y acc hy ha => ?_, fun acc ha => ?_⟩
  · obtain ⟨hk, rfl⟩ := rng_get hy
    have hk : k < n := hk
    unfold dYes
    dsimp only
    rw [if_pos rfl]
    rw [show (0 : Int) + (k : Int) = (k : Int) from Int.zero_add _]
    refine hs k acc _ hk ha.1 ha.2 fun z hz => ⟨?_, ?_, hz⟩
    · rw [ha.1]
      exact Nat.lt_of_lt_of_le (show k < 1000000 by omega) (by decide)
    · rw [List.length_append, ha.1]; rfl
  · rw [rng_len] at ha
    exact hΦ acc ha.1 ha.2
section
variable {C : Ctx} {f f2 : Bool} {tb : TE} {db : DE}
/-- an item of an owned list -/
@[simp] def dIxO (i : Nat) (db : DE) : DE := fun δ Φ => ∃ a xs, δ[i]? = some (some (.own a xs)) ∧ db δ fun y => ∃ k z, y = .int k ∧ atI xs k = some z ∧ Φ z
theorem sm_ixO (i : Nat) (hb : Sm C f2 tb db) : Sm C f (tOp (rIx C.K) (tVar i) tb) (dIxO i db) := fun σ δ H0 H Φ Q s ⟨a, xs, e, w⟩ q => by
  obtain ⟨v, e1, rfl, h1, h2, h3, vs, h4, h5⟩ := s.sl i _ e
  refine ⟨_, e1, hb σ δ H0 H _ _ s w fun H02 H2 u y g2 r2 ⟨k, z, e2, e3, p⟩ => ?_⟩
  subst e2
  cases r2
  have s2 := s.go g2
  obtain ⟨v', f1, f2, f3, f4, f5, us, f6, f7⟩ := s2.sl i _ e
  obtain ⟨y', e4, ry⟩ := atI_rp f7 e3
  exact .inl ⟨a, us, k, y', rfl, rfl, SqL.of f6, e4, q H02 H2 y' z g2 (Rp.mono g2.wf.to ry) p⟩
end
/-- a statement with two ways: what the test tells, then each way -/
theorem dIfS_two {dt : DT} {d1 d2 : DS} {E : DEnds} {δ : Dl} (Ok : Bool → Prop) (h : ∀ Ψ : Bool → Prop, (∀ b, Ok b → Ψ b) → dt δ Ψ) (h1 : Ok true → d1 E δ) (h2 : Ok false → d2 E δ) : dIfS dt d1 d2 E δ := by
  unfold dIfS
  refine h _ fun b hb => ?_
  cases b with
  | true => rw [if_pos rfl]; exact h1 hb
  | false => rw [if_neg Bool.false_ne_true]; exact h2 hb
/-- range(n), n at most L -/
theorem dFor_r {da : DE} {i : Nat} {db : DS} {E : DEnds} {δ : Dl} (L : Nat) (hL : L < 4611686018427387904) (h : ∀ Ψ : PyData → Prop, (∀ n : Nat, n ≤ L → Ψ (.int n)) → da δ Ψ) (I : Nat → Dl → Prop) (h0 : I 0 δ)
    (hs : ∀ (k : Nat) (δ' : Dl), k < L → I k δ' → db { E with nx := I (k + 1), ct := I (k + 1), bk := E.nx } (δ'.set i (some (.d (.int k))))) (he : ∀ (n : Nat) (δ' : Dl), n ≤ L → I n δ' → E.nx δ') : dFor (iR1 da) (dgName i) db E δ := by
  unfold dFor
  refine h _ fun n hn => ⟨n, rfl, by omega, by omega, I, h0, fun k y δ' hy hI => ?_, fun δ' hI => ?_⟩
  · obtain ⟨hk, rfl⟩ := rng_get hy
    have hk : k < n := hk
    have := hs k δ' (by omega) hI
    rw [show (k : Int) = 0 + (k : Int) from (Int.zero_add _).symm] at this
    exact this
  · rw [rng_len] at hI
    exact he n δ' hn hI
end VL

/-! reversed of a tuple, sums, comprehensions with a test. -/
namespace VL
open PySem L2
section
variable {C : Ctx} {ta : TE} {da : DE}
@[simp] def iRvA (da : DE) : DI := fun δ Φ => da δ fun x => ∃ xs, seqOf x = some xs ∧ Φ xs.reverse
theorem smi_revA (ha : Sm C true ta da) : SmI C (RT.iRevA C.K ta) (iRvA da) := fun σ δ H0 H Φ R s w q =>
  ha σ δ H0 H _ _ s w fun H01 H1 v x g1 r1 ⟨xs, e, p⟩ => by
    cases r1 with
    | @lst a us _ h r =>
      simp [seqOf] at e
      subst e
      refine ⟨a, us, rfl, .inl ⟨SqL.of (g1.wf.sub _ _ h), q _ _ _ _ g1 ⟨fun H0' H' i e w hi => ?_, fun H0' H' i e w hi => ?_, fun H0' H' i v H'' e w hi y => ?_⟩ p⟩⟩
      · rw [List.length_reverse] at hi
        show us.length ≤ i
        rw [r.length]; omega
      · rw [List.length_reverse] at hi
        obtain ⟨y, hy⟩ := get_lt (show us.length - 1 - i < us.length by rw [r.length]; omega)
        exact ⟨by rw [r.length]; exact hi, us, y, SqL.of (w.sub _ _ (e _ _ h)), hy⟩
      · rw [List.length_reverse] at hi
        obtain ⟨rfl, y⟩ := y
        obtain ⟨z, hz, rz⟩ := r.get' (y us (SqL.of (w.sub _ _ (e _ _ h))))
        refine ⟨H0', z, .refl w, ?_, rz.mono e⟩
        rw [List.getElem?_reverse hi, ← r.length]
        exact hz
    | @tup a us _ h r =>
      simp [seqOf] at e
      subst e
      refine ⟨a, us, rfl, .inr ⟨same_t g1.wf.sub h, q _ _ _ _ g1 ⟨fun H0' H' i e w hi => ?_, fun H0' H' i e w hi => ?_, fun H0' H' i v H'' e w hi y => ?_⟩ p⟩⟩
      · rw [List.length_reverse] at hi
        show us.length ≤ i
        rw [r.length]; omega
      · rw [List.length_reverse] at hi
        obtain ⟨y, hy⟩ := get_lt (show us.length - 1 - i < us.length by rw [r.length]; omega)
        exact ⟨by rw [r.length]; exact hi, us, y, same_t w.sub (same_t e h), hy⟩
      · rw [List.length_reverse] at hi
        obtain ⟨rfl, y⟩ := y
        obtain ⟨z, hz, rz⟩ := r.get' (y us (same_t w.sub (same_t e h)))
        refine ⟨H0', z, .refl w, ?_, rz.mono e⟩
        rw [List.getElem?_reverse hi, ← r.length]
        exact hz
    | _ => simp [seqOf] at e
@[simp] def gSum : List PyData → (PyData → Prop) → Prop := fun xs Φ => ∃ ns : List Int, xs = [.list (ns.map .int)] ∧ Φ (.int ns.sum)
theorem cbd_sum : CbD C (rSum C.K) gSum := fun H vs xs Φ Q r ⟨ns, e, p⟩ q => by
  subst e
  cases r with
  | cons h n =>
    cases n
    cases h with
    | lst h r =>
      have e := rpa_ints r
      subst e
      exact ⟨_, ns, rfl, SqL.of h, q _ _ (fun _ => .int _) p⟩
end
theorem kx_revA {X : Cx} {K : PySem.W.Frag} (h : X.K = K) {tg e : Expr} {te : TE} {p pos : Pos} (hg : Gl X "reversed") (hm : X.mg "reversed" = none) (he : PE X e te) (hs : starEach [e] X.env = (false, eval e X.env) :: starEach [] X.env := by rfl) : PI X tg (.Call (.Name "reversed" p) [e] [] pos) (RT.iRevA K te) := by
  subst h
  exact RT.pi_revA hg hm he hs
theorem kx_sum {X : Cx} {K : PySem.W.Frag} (h : X.K = K) (hc : X.calm = true) : CallR X (.builtin "sum") (rSum K) := by
  subst h
  exact cr_sum hc
/-- a comprehension with a test over a walked list: the items that pass, each by a function -/
theorem oLc_filter {α : Type} {di : DI} {i : Nat} {dt : DT} {de : DE} {δ : Dl} {Φ : List PyData → Prop} (xs : List α) (D G : α → PyData) (T : α → Bool) (hn : xs.length < 1000000) (h : ∀ Ψ : List PyData → Prop, Ψ (xs.map D) → di δ Ψ)
    (ht : ∀ (k : Nat) (a : α) (Ψ : Bool → Prop), xs[k]? = some a → Ψ (T a) → dt (δ.set i (some (.d (D a)))) Ψ)
    (hs : ∀ (k : Nat) (a : α) (Ψ : PyData → Prop), xs[k]? = some a → T a = true → Ψ (G a) → de (δ.set i (some (.d (D a)))) Ψ) (hΦ : Φ ((xs.filter T).map G)) : oLc di i dt de δ Φ := by
  unfold oLc
  refine h _ ⟨fun k acc => acc = ((xs.take k).filter T).map G, by simp, fun k y acc hy ha => ?_, fun acc ha => ?_⟩
  · subst ha
    rw [List.getElem?_map] at hy
    obtain ⟨a, ha, rfl⟩ := Option.map_eq_some_iff.mp hy
    have hk := (List.getElem?_eq_some_iff.mp ha).1
    refine ht k a _ ha ?_
    cases e : T a with
    | false =>
      rw [if_neg Bool.false_ne_true]
      show ((xs.take k).filter T).map G = ((xs.take (k + 1)).filter T).map G
      rw [List.take_add_one, ha, List.filter_append]
      simp [e]
    | true =>
      rw [if_pos rfl]
      refine hs k a _ ha e ⟨?_, ?_⟩
      · rw [List.length_map]
        have h1 := List.length_filter_le T (xs.take k)
        rw [List.length_take] at h1
        exact Nat.lt_of_lt_of_le (show _ < 1000000 by omega) (by decide)
      · show ((xs.take k).filter T).map G ++ [G a] = ((xs.take (k + 1)).filter T).map G
        rw [List.take_add_one, ha, List.filter_append]
        simp [e]
  · subst ha
    rw [List.length_map, List.take_length]
    exact hΦ
section
variable {C : Ctx}
@[simp] def gIsB (neg : Bool) : PyData → PyData → (PyData → Prop) → Prop := fun x y Φ => ∃ a b, x = .bool a ∧ y = .bool b ∧ Φ (.bool (if neg then !decide (a = b) else decide (a = b)))
theorem opd_notB : OpD C rNotB (gIsB true) := fun H v u x y Φ Q rv ru ⟨a, b, e1, e2, p⟩ q => by
  subst e1 e2
  cases rv
  cases ru
  exact ⟨a, b, rfl, rfl, q _ _ (fun _ => .bl _) p⟩
theorem opd_isB : OpD C rIsB (gIsB false) := fun H v u x y Φ Q rv ru ⟨a, b, e1, e2, p⟩ q => by
  subst e1 e2
  cases rv
  cases ru
  exact ⟨a, b, rfl, rfl, q _ _ (fun _ => .bl _) p⟩
end
/-- range(n), n from 1 to L -/
theorem dFor_r1 {da : DE} {i : Nat} {db : DS} {E : DEnds} {δ : Dl} (L : Nat) (hL : L < 4611686018427387904) (h : ∀ Ψ : PyData → Prop, (∀ n : Nat, 1 ≤ n → n ≤ L → Ψ (.int n)) → da δ Ψ) (I : Nat → Dl → Prop) (h0 : I 0 δ)
    (hs : ∀ (k : Nat) (δ' : Dl), k < L → I k δ' → db { E with nx := I (k + 1), ct := I (k + 1), bk := E.nx } (δ'.set i (some (.d (.int k))))) (he : ∀ (n : Nat) (δ' : Dl), 1 ≤ n → n ≤ L → I n δ' → E.nx δ') : dFor (iR1 da) (dgName i) db E δ := by
  unfold dFor
  refine h _ fun n hn1 hn => ⟨n, rfl, by omega, by omega, I, h0, fun k y δ' hy hI => ?_, fun δ' hI => ?_⟩
  · obtain ⟨hk, rfl⟩ := rng_get hy
    have hk : k < n := hk
    have := hs k δ' (by omega) hI
    rw [show (k : Int) = 0 + (k : Int) from (Int.zero_add _).symm] at this
    exact this
  · rw [rng_len] at hI
    exact he n δ' hn1 hn hI
section
variable {C : Ctx} {ta tb : TE} {da db : DE} {f2 : Bool}
theorem RpA.flat {K : PySem.W.Frag} {H : Hp} {vs : List V} {xs : List PyData} (r : RpA K H vs xs) : ∀ n : Nat, RpA K H (List.replicate n vs).flatten (List.replicate n xs).flatten
  | 0 => .nil
  | n + 1 => by
    rw [List.replicate_succ, List.replicate_succ, List.flatten_cons, List.flatten_cons]
    exact r.append (RpA.flat r n)
/-- xs * n, a new list -/
@[simp] def oRep (da db : DE) : DO := fun δ Φ => da δ fun x => db δ fun y => ∃ xs k, x = .list xs ∧ y = .int k ∧ -(2 ^ 63) ≤ k ∧ k < 2 ^ 63 ∧ xs.length * k.toNat ≤ sizeLine ∧ Φ (List.replicate k.toNat xs).flatten
theorem smo_rep (ha : Sm C true ta da) (hb : Sm C f2 tb db) : SmO C (tOp rRep ta tb) (oRep da db) := fun σ δ H0 H Φ Q s w q =>
  ha σ δ H0 H _ _ s w fun H01 H1 v x g1 r1 w1 => hb σ δ H01 H1 _ _ (s.go g1) w1 fun H02 H2 u y g2 r2 ⟨xs, k, e1, e2, h1, h2, h3, p⟩ => by
    subst e1 e2
    cases r2
    have r3 := r1.mono g2.fz
    cases r3 with
    | @lst a us _ h r =>
      refine ⟨a, k, us, rfl, rfl, g2.wf.sub _ _ h, h1, h2, by rw [r.length]; exact h3, fun l hl => ?_⟩
      have g3 := Go.free (o := .lst (List.replicate k.toNat us).flatten) g2.wf hl
      exact q _ _ l _ _ ((g1.trans g2).trans g3) ((g1.trans g2).fresh hl) (g2.wf.none hl) upd_same (r.flat _) p
end
section
variable {C : Ctx} {ta : TE} {da : DE} {f1 : Bool}
/-- list(range(n)), a new list -/
@[simp] def oListRg (da : DE) : DO := fun δ Φ => da δ fun x => ∃ n : Nat, x = .int n ∧ n ≤ 16777216 ∧ Φ (rng 0 n)
theorem rpa_rng {K : PySem.W.Frag} {H : Hp} (n : Nat) : RpA K H (rgV 0 (n : Int)) (rng 0 n) := by
  unfold rgV rng
  rw [show ((n : Int) - 0).toNat = n by omega]
  generalize List.range n = l
  induction l with
  | nil => exact .nil
  | cons a l ih => exact .cons (.int _) ih
theorem smo_listRg (ha : Sm C f1 ta da) : SmO C (tLstRg (tRg1 ta)) (oListRg da) := fun σ δ H0 H Φ Q s w q =>
  ha σ δ H0 H _ _ s w fun H01 H1 v x g1 r1 ⟨n, e, hn, p⟩ => by
    subst e
    cases r1
    refine ⟨(n : Int), rfl, RgOk.of_le (by omega) (by omega) (by omega) (by omega), fun l hl => ?_⟩
    have g2 := Go.free (o := .lst (rgV 0 (n : Int))) g1.wf hl
    exact q _ _ l _ _ (g1.trans g2) (g1.fresh hl) (g1.wf.none hl) upd_same (rpa_rng n) p
end
/-- while: a statement that falls by a number; what the test tells, then the turn, then the end -/
theorem dWhile_by {dt : DT} {db : DS} {E : DEnds} {δ : Dl} (I : Nat → Dl → Prop) (h0 : ∃ m, I m δ)
    (hs : ∀ m δ', I m δ' → ∃ Ok : Bool → Prop, (∀ Ψ : Bool → Prop, (∀ b, Ok b → Ψ b) → dt δ' Ψ) ∧ (Ok true → db { E with nx := fun δ'' => ∃ m', m' < m ∧ I m' δ'', ct := fun δ'' => ∃ m', m' < m ∧ I m' δ'', bk := E.nx } δ') ∧ (Ok false → E.nx δ')) : dWhile dt db E δ := by
  refine ⟨I, h0, fun m δ' hI => ?_⟩
  obtain ⟨Ok, h1, h2, h3⟩ := hs m δ' hI
  refine h1 _ fun b hb => ?_
  cases b with
  | true => rw [if_pos rfl]; exact h2 hb
  | false => rw [if_neg Bool.false_ne_true]; exact h3 hb
/-- what is walked is known by a property -/
theorem dFor_q {di : DI} {dg : DG} {db : DS} {E : DEnds} {δ : Dl} (Q : List PyData → Prop) (h : ∀ Ψ : List PyData → Prop, (∀ xs, Q xs → Ψ xs) → di δ Ψ) (I : Nat → Dl → Prop) (h0 : I 0 δ)
    (hs : ∀ (xs : List PyData) (k : Nat) (y : PyData) (δ' : Dl), Q xs → xs[k]? = some y → I k δ' → dg y δ' fun δ'' => db { E with nx := I (k + 1), ct := I (k + 1), bk := E.nx } δ'') (he : ∀ (xs : List PyData) (δ' : Dl), Q xs → I xs.length δ' → E.nx δ') : dFor di dg db E δ := by
  unfold dFor
  exact h _ fun xs hq => ⟨I, h0, fun k y δ' hy hI => hs xs k y δ' hq hy hI, fun δ' hI => he xs δ' hq hI⟩
section
variable {C : Ctx} {te ta tb td : TE} {de da db dd : DE} {g1 g2 : TG} {dg1 dg2 : DG} {f f1 f2 : Bool}
/-- a = b = e -/
@[simp] def dAsg2 (de : DE) (dg1 dg2 : DG) : DS := fun E δ => de δ fun x => dg1 x δ fun δ1 => dg2 x δ1 E.nx
theorem sms_asg2 (h : Sm C true te de) (k1 : SmG C g1 dg1) (k2 : SmG C g2 dg2) : SmS C (tAsg2 te g1 g2) (dAsg2 de dg1 dg2) := fun σ δ H0 H E D s w e =>
  h σ δ H0 H _ _ s w fun H0' H' v x g r p => k1 v x σ δ H0' H' _ _ (s.go g) r p fun σ1 δ1 s1 w1 => k2 v x σ1 δ1 H0' H' _ _ s1 r w1 fun σ2 δ2 s2 w2 => e.nx H0' H' σ2 δ2 g.fz s2 w2
/-- {k1: a, k2: b}[d], keys and values texts -/
@[simp] def dMenu2 (k1 k2 : Str) (da db dd : DE) : DE := fun δ Φ => da δ fun x => db δ fun y => ∃ i j, x = .str i ∧ y = .str j ∧ ¬ k2 = k1 ∧ dd δ fun t => ∃ s, t = .str s ∧ ((s = k1 ∧ Φ (.str i)) ∨ (s = k2 ∧ Φ (.str j)))
theorem sm_menu2 {k1 k2 : Str} (ha : Sm C f1 ta da) (hb : Sm C f2 tb db) (hd : Sm C false td dd) : Sm C f (tDGet (tDisp [(tC (.str k1), ta), (tC (.str k2), tb)]) td) (dMenu2 k1 k2 da db dd) := fun σ δ H0 H Φ Q s w q => by
  intro p hp
  have gp : Go C H0 H H0 (upd H p (.dK [])) := Go.free s.toWf hp
  have nex := (Go.he s.toWf hp).2
  refine ha σ δ H0 _ _ _ (s.go gp) w fun H01 H1 v x g1 r1 w1 => hb σ δ H01 H1 _ _ ((s.go gp).go g1) w1 fun H02 H2 u y g2 r2 w2 => ?_
  have g12 := g1.trans g2
  have hk : H2 p = some (.dK []) := g12.kp p _ nex upd_same
  have g0 := gp.trans g12
  have hn : H02 p = none := by
    cases e : H02 p with
    | none => rfl
    | some o =>
      rcases g12.nw p o e with h | h
      · rw [s.toWf.none hp] at h; cases h
      · rw [upd_same] at h; cases h
  obtain ⟨i, j, rfl, rfl, n1, w4⟩ := w2
  cases r1
  cases r2
  have m1 : mergeK [] [((.inr k1 : Key), V.str i), (.inr k2, .str j)] = [((.inr k1 : Key), V.str i), (.inr k2, .str j)] := by
    simp [mergeK, putK, Ne.symm n1, n1]
  refine ⟨hk, [((.inr k1 : Key), V.str i), (.inr k2, .str j)], rfl, by simp, ?_⟩
  rw [m1]
  have g4 := Go.wr (o := .dK [((.inr k1 : Key), V.str i), (.inr k2, .str j)]) s.toWf hp g0 hn
  refine hd σ δ H02 _ _ _ (s.go g4) w4 fun H05 H5 v5 x5 g5 r5 ⟨st, e5, p5⟩ => ?_
  subst e5
  cases r5
  have h5 : H5 p = some (.dK [((.inr k1 : Key), V.str i), (.inr k2, .str j)]) := g5.kp p _ nex upd_same
  rcases p5 with ⟨rfl, p5⟩ | ⟨rfl, p5⟩
  · refine ⟨p, .str i, rfl, .inl ⟨_, .inr st, .inl h5, rfl, ?_⟩, q _ _ _ _ (g4.trans g5) (.str i) p5⟩
    simp [valV]
  · refine ⟨p, .str j, rfl, .inl ⟨_, .inr st, .inl h5, rfl, ?_⟩, q _ _ _ _ (g4.trans g5) (.str j) p5⟩
    simp [valV, Ne.symm n1]
end
end VL

namespace Toy
open PySem PySem.Spec PyProof.Rows L2 VL
def topS (i : Nat) : Stmt := PySem.Challenge.pw_burnish_k34_refine_keeps_true_pairs.main.body.getD i (.Pass ⟨0, 0, 0, 0⟩)
abbrev swidth : Stmt := topS 3
theorem sc_width : FnScope ["kind"] ["kind"] (defScope swidth) := ⟨rfl, rfl, rfl, by decide +kernel, rfl, by decide +kernel, by decide +kernel⟩
abbrev sswapped : Stmt := topS 4
theorem sc_swapped : FnScope ["predicate"] ["predicate"] (defScope sswapped) := ⟨rfl, rfl, rfl, by decide +kernel, rfl, by decide +kernel, by decide +kernel⟩
abbrev stop_of : Stmt := topS 6
theorem sc_top_of : FnScope ["kind"] ["kind"] (defScope stop_of) := ⟨rfl, rfl, rfl, by decide +kernel, rfl, by decide +kernel, by decide +kernel⟩
abbrev shalf_of : Stmt := topS 7
theorem sc_half_of : FnScope ["kind"] ["kind"] (defScope shalf_of) := ⟨rfl, rfl, rfl, by decide +kernel, rfl, by decide +kernel, by decide +kernel⟩
abbrev ssingle : Stmt := topS 8
theorem sc_single : FnScope ["kind", "value"] ["kind", "value"] (defScope ssingle) := ⟨rfl, rfl, rfl, by decide +kernel, rfl, by decide +kernel, by decide +kernel⟩
abbrev sis_single : Stmt := topS 9
theorem sc_is_single : FnScope ["bounds"] ["bounds"] (defScope sis_single) := ⟨rfl, rfl, rfl, by decide +kernel, rfl, by decide +kernel, by decide +kernel⟩
abbrev s_tightened : Stmt := topS 10
theorem sc__tightened : FnScope ["kind", "bounds", "top", "fixed", "zeros", "ones", "lo", "hi"] ["kind", "bounds"] (defScope s_tightened) := ⟨rfl, rfl, rfl, by decide +kernel, rfl, by decide +kernel, by decide +kernel⟩
abbrev snormal : Stmt := topS 11
theorem sc_normal : FnScope ["kind", "bounds", "before"] ["kind", "bounds"] (defScope snormal) := ⟨rfl, rfl, rfl, by decide +kernel, rfl, by decide +kernel, by decide +kernel⟩
abbrev srefine : Stmt := topS 12
theorem sc_refine : FnScope ["predicate", "kind", "a", "b", "told", "half"] ["predicate", "kind", "a", "b"] (defScope srefine) := ⟨rfl, rfl, rfl, by decide +kernel, rfl, by decide +kernel, by decide +kernel⟩
abbrev s_ordered : Stmt := topS 13
theorem sc__ordered : FnScope ["relation", "a", "b", "apart", "first", "second"] ["relation", "a", "b"] (defScope s_ordered) := ⟨rfl, rfl, rfl, by decide +kernel, rfl, by decide +kernel, by decide +kernel⟩
abbrev s_without : Stmt := topS 14
theorem sc__without : FnScope ["a", "b", "lo", "hi", "zeros", "ones"] ["a", "b"] (defScope s_without) := ⟨rfl, rfl, rfl, by decide +kernel, rfl, by decide +kernel, by decide +kernel⟩
abbrev s_law_draw : Stmt := topS 16
theorem sc__law_draw : FnScope ["script", "seed", "cell"] ["script"] (defScope s_law_draw) := ⟨rfl, rfl, rfl, by decide +kernel, rfl, by decide +kernel, by decide +kernel⟩
abbrev s_law_take : Stmt := topS 17
theorem sc__law_take : FnScope ["draw", "many", "found"] ["draw", "many"] (defScope s_law_take) := ⟨rfl, rfl, rfl, by decide +kernel, rfl, by decide +kernel, by decide +kernel⟩
abbrev s_law_whole : Stmt := topS 18
theorem sc__law_whole : FnScope ["value"] ["value"] (defScope s_law_whole) := ⟨rfl, rfl, rfl, by decide +kernel, rfl, by decide +kernel, by decide +kernel⟩
abbrev s_law_width : Stmt := topS 19
theorem sc__law_width : FnScope ["kind", "row"] ["kind"] (defScope s_law_width) := ⟨rfl, rfl, rfl, by decide +kernel, rfl, by decide +kernel, by decide +kernel⟩
abbrev s_law_number : Stmt := topS 20
theorem sc__law_number : FnScope ["draw", "w", "top", "k", "found", "part"] ["draw", "w"] (defScope s_law_number) := ⟨rfl, rfl, rfl, by decide +kernel, rfl, by decide +kernel, by decide +kernel⟩
abbrev s_law_signed : Stmt := topS 21
theorem sc__law_signed : FnScope ["w", "x"] ["w", "x"] (defScope s_law_signed) := ⟨rfl, rfl, rfl, by decide +kernel, rfl, by decide +kernel, by decide +kernel⟩
abbrev s_law_compare : Stmt := topS 25
theorem sc__law_compare : FnScope ["predicate", "w", "x", "y", "word"] ["predicate", "w", "x", "y"] (defScope s_law_compare) := ⟨rfl, rfl, rfl, by decide +kernel, rfl, by decide +kernel, by decide +kernel⟩
abbrev s_law_member : Stmt := topS 27
theorem sc__law_member : FnScope ["bounds", "value", "lo", "hi", "zeros", "ones"] ["bounds", "value"] (defScope s_law_member) := ⟨rfl, rfl, rfl, by decide +kernel, rfl, by decide +kernel, by decide +kernel⟩
abbrev s_law_is_range : Stmt := topS 28
theorem sc__law_is_range : FnScope ["bounds", "w", "part"] ["bounds", "w"] (defScope s_law_is_range) := ⟨rfl, rfl, rfl, by decide +kernel, rfl, by decide +kernel, by decide +kernel⟩
abbrev s_law_tight : Stmt := topS 29
theorem sc__law_tight : FnScope ["values", "w", "top", "zeros", "ones", "value"] ["values", "w"] (defScope s_law_tight) := ⟨rfl, rfl, rfl, by decide +kernel, rfl, by decide +kernel, by decide +kernel⟩
abbrev s_law_loose : Stmt := topS 30
theorem sc__law_loose : FnScope ["draw", "bounds", "w", "top", "how", "mask", "lo", "hi", "zeros", "ones"] ["draw", "bounds", "w"] (defScope s_law_loose) := ⟨rfl, rfl, rfl, by decide +kernel, rfl, by decide +kernel, by decide +kernel⟩
abbrev s_law_normal : Stmt := topS 31
theorem sc__law_normal : FnScope ["bounds", "w", "turn", "found"] ["bounds", "w"] (defScope s_law_normal) := ⟨rfl, rfl, rfl, by decide +kernel, rfl, by decide +kernel, by decide +kernel⟩
abbrev s_law_turn : Stmt := topS 32
theorem sc__law_turn : FnScope ["bounds", "w", "top", "k", "lo", "hi", "zeros", "ones"] ["bounds", "w"] (defScope s_law_turn) := ⟨rfl, rfl, rfl, by decide +kernel, rfl, by decide +kernel, by decide +kernel⟩
abbrev s_law_moved : Stmt := topS 33
theorem sc__law_moved : FnScope ["a", "b"] ["a", "b"] (defScope s_law_moved) := ⟨rfl, rfl, rfl, by decide +kernel, rfl, by decide +kernel, by decide +kernel⟩
abbrev s_law_refined : Stmt := topS 34
theorem sc__law_refined : FnScope ["predicate", "w", "a", "b", "top", "word", "x", "y", "pair", "strict"] ["predicate", "w", "a", "b"] (defScope s_law_refined) := ⟨rfl, rfl, rfl, by decide +kernel, rfl, by decide +kernel, by decide +kernel⟩
abbrev s_law_keeps : Stmt := topS 35
theorem sc__law_keeps : FnScope ["found", "given"] ["found", "given"] (defScope s_law_keeps) := ⟨rfl, rfl, rfl, by decide +kernel, rfl, by decide +kernel, by decide +kernel⟩
abbrev s_law_near : Stmt := topS 36
theorem sc__law_near : FnScope ["draw", "first", "w", "k", "value"] ["draw", "first", "w"] (defScope s_law_near) := ⟨rfl, rfl, rfl, by decide +kernel, rfl, by decide +kernel, by decide +kernel⟩
abbrev s_law_signs_known : Stmt := topS 37
theorem sc__law_signs_known : FnScope ["a", "b", "w", "bit"] ["a", "b", "w"] (defScope s_law_signs_known) := ⟨rfl, rfl, rfl, by decide +kernel, rfl, by decide +kernel, by decide +kernel⟩
abbrev s_law_bounds_meet : Stmt := topS 38
theorem sc__law_bounds_meet : FnScope ["predicate", "w", "given", "found", "word", "strict", "a", "b", "x", "y"] ["predicate", "w", "given", "found"] (defScope s_law_bounds_meet) := ⟨rfl, rfl, rfl, by decide +kernel, rfl, by decide +kernel, by decide +kernel⟩
abbrev slaw : Stmt := topS 39
theorem sc_law : FnScope ["script", "draw", "kind", "w", "words", "predicate", "first", "second", "a", "b", "found", "pairs", "x", "y", "k"] ["script"] (defScope slaw) := ⟨rfl, rfl, rfl, by decide +kernel, rfl, by decide +kernel, by decide +kernel⟩
def L__WIDTHS : List (Str × PyData) := [("i1", .int 1), ("i8", .int 8), ("i16", .int 16), ("i32", .int 32), ("i64", .int 64)]
def L__SWAPPED : List (Str × PyData) := [("eq", .str "eq"), ("ne", .str "ne"), ("ult", .str "ugt"), ("ugt", .str "ult"), ("ule", .str "uge"), ("uge", .str "ule"), ("slt", .str "sgt"), ("sgt", .str "slt"), ("sle", .str "sge"), ("sge", .str "sle")]
structure Txt (K : PySem.W.Frag) (mg : Str → Option Value) (w : World) where
  f_width : Addr
  fd_width : FuncData
  F_width : Fun K "width" "width" swidth f_width fd_width
  g_width : mg "width" = some (.ref f_width)
  b_width : Binds K fd_width ["kind"] []
  f_swapped : Addr
  fd_swapped : FuncData
  F_swapped : Fun K "swapped" "swapped" sswapped f_swapped fd_swapped
  g_swapped : mg "swapped" = some (.ref f_swapped)
  b_swapped : Binds K fd_swapped ["predicate"] []
  f_top_of : Addr
  fd_top_of : FuncData
  F_top_of : Fun K "top_of" "top_of" stop_of f_top_of fd_top_of
  g_top_of : mg "top_of" = some (.ref f_top_of)
  b_top_of : Binds K fd_top_of ["kind"] []
  f_half_of : Addr
  fd_half_of : FuncData
  F_half_of : Fun K "half_of" "half_of" shalf_of f_half_of fd_half_of
  g_half_of : mg "half_of" = some (.ref f_half_of)
  b_half_of : Binds K fd_half_of ["kind"] []
  f_single : Addr
  fd_single : FuncData
  F_single : Fun K "single" "single" ssingle f_single fd_single
  g_single : mg "single" = some (.ref f_single)
  b_single : Binds K fd_single ["kind", "value"] []
  f_is_single : Addr
  fd_is_single : FuncData
  F_is_single : Fun K "is_single" "is_single" sis_single f_is_single fd_is_single
  g_is_single : mg "is_single" = some (.ref f_is_single)
  b_is_single : Binds K fd_is_single ["bounds"] []
  f__tightened : Addr
  fd__tightened : FuncData
  F__tightened : Fun K "_tightened" "_tightened" s_tightened f__tightened fd__tightened
  g__tightened : mg "_tightened" = some (.ref f__tightened)
  b__tightened : Binds K fd__tightened ["kind", "bounds"] []
  f_normal : Addr
  fd_normal : FuncData
  F_normal : Fun K "normal" "normal" snormal f_normal fd_normal
  g_normal : mg "normal" = some (.ref f_normal)
  b_normal : Binds K fd_normal ["kind", "bounds"] []
  f_refine : Addr
  fd_refine : FuncData
  F_refine : Fun K "refine" "refine" srefine f_refine fd_refine
  g_refine : mg "refine" = some (.ref f_refine)
  b_refine : Binds K fd_refine ["predicate", "kind", "a", "b"] []
  f__ordered : Addr
  fd__ordered : FuncData
  F__ordered : Fun K "_ordered" "_ordered" s_ordered f__ordered fd__ordered
  g__ordered : mg "_ordered" = some (.ref f__ordered)
  b__ordered : Binds K fd__ordered ["relation", "a", "b"] []
  f__without : Addr
  fd__without : FuncData
  F__without : Fun K "_without" "_without" s_without f__without fd__without
  g__without : mg "_without" = some (.ref f__without)
  b__without : Binds K fd__without ["a", "b"] []
  f__law_draw : Addr
  fd__law_draw : FuncData
  F__law_draw : Fun K "_law_draw" "_law_draw" s_law_draw f__law_draw fd__law_draw
  g__law_draw : mg "_law_draw" = some (.ref f__law_draw)
  b__law_draw : Binds K fd__law_draw ["script"] []
  f__law_take : Addr
  fd__law_take : FuncData
  F__law_take : Fun K "_law_take" "_law_take" s_law_take f__law_take fd__law_take
  g__law_take : mg "_law_take" = some (.ref f__law_take)
  b__law_take : Binds K fd__law_take ["draw", "many"] []
  f__law_whole : Addr
  fd__law_whole : FuncData
  F__law_whole : Fun K "_law_whole" "_law_whole" s_law_whole f__law_whole fd__law_whole
  g__law_whole : mg "_law_whole" = some (.ref f__law_whole)
  b__law_whole : Binds K fd__law_whole ["value"] []
  f__law_width : Addr
  fd__law_width : FuncData
  F__law_width : Fun K "_law_width" "_law_width" s_law_width f__law_width fd__law_width
  g__law_width : mg "_law_width" = some (.ref f__law_width)
  b__law_width : Binds K fd__law_width ["kind"] []
  f__law_number : Addr
  fd__law_number : FuncData
  F__law_number : Fun K "_law_number" "_law_number" s_law_number f__law_number fd__law_number
  g__law_number : mg "_law_number" = some (.ref f__law_number)
  b__law_number : Binds K fd__law_number ["draw", "w"] []
  f__law_signed : Addr
  fd__law_signed : FuncData
  F__law_signed : Fun K "_law_signed" "_law_signed" s_law_signed f__law_signed fd__law_signed
  g__law_signed : mg "_law_signed" = some (.ref f__law_signed)
  b__law_signed : Binds K fd__law_signed ["w", "x"] []
  f__law_compare : Addr
  fd__law_compare : FuncData
  F__law_compare : Fun K "_law_compare" "_law_compare" s_law_compare f__law_compare fd__law_compare
  g__law_compare : mg "_law_compare" = some (.ref f__law_compare)
  b__law_compare : Binds K fd__law_compare ["predicate", "w", "x", "y"] []
  f__law_member : Addr
  fd__law_member : FuncData
  F__law_member : Fun K "_law_member" "_law_member" s_law_member f__law_member fd__law_member
  g__law_member : mg "_law_member" = some (.ref f__law_member)
  b__law_member : Binds K fd__law_member ["bounds", "value"] []
  f__law_is_range : Addr
  fd__law_is_range : FuncData
  F__law_is_range : Fun K "_law_is_range" "_law_is_range" s_law_is_range f__law_is_range fd__law_is_range
  g__law_is_range : mg "_law_is_range" = some (.ref f__law_is_range)
  b__law_is_range : Binds K fd__law_is_range ["bounds", "w"] []
  f__law_tight : Addr
  fd__law_tight : FuncData
  F__law_tight : Fun K "_law_tight" "_law_tight" s_law_tight f__law_tight fd__law_tight
  g__law_tight : mg "_law_tight" = some (.ref f__law_tight)
  b__law_tight : Binds K fd__law_tight ["values", "w"] []
  f__law_loose : Addr
  fd__law_loose : FuncData
  F__law_loose : Fun K "_law_loose" "_law_loose" s_law_loose f__law_loose fd__law_loose
  g__law_loose : mg "_law_loose" = some (.ref f__law_loose)
  b__law_loose : Binds K fd__law_loose ["draw", "bounds", "w"] []
  f__law_normal : Addr
  fd__law_normal : FuncData
  F__law_normal : Fun K "_law_normal" "_law_normal" s_law_normal f__law_normal fd__law_normal
  g__law_normal : mg "_law_normal" = some (.ref f__law_normal)
  b__law_normal : Binds K fd__law_normal ["bounds", "w"] []
  f__law_turn : Addr
  fd__law_turn : FuncData
  F__law_turn : Fun K "_law_turn" "_law_turn" s_law_turn f__law_turn fd__law_turn
  g__law_turn : mg "_law_turn" = some (.ref f__law_turn)
  b__law_turn : Binds K fd__law_turn ["bounds", "w"] []
  f__law_moved : Addr
  fd__law_moved : FuncData
  F__law_moved : Fun K "_law_moved" "_law_moved" s_law_moved f__law_moved fd__law_moved
  g__law_moved : mg "_law_moved" = some (.ref f__law_moved)
  b__law_moved : Binds K fd__law_moved ["a", "b"] []
  f__law_refined : Addr
  fd__law_refined : FuncData
  F__law_refined : Fun K "_law_refined" "_law_refined" s_law_refined f__law_refined fd__law_refined
  g__law_refined : mg "_law_refined" = some (.ref f__law_refined)
  b__law_refined : Binds K fd__law_refined ["predicate", "w", "a", "b"] []
  f__law_keeps : Addr
  fd__law_keeps : FuncData
  F__law_keeps : Fun K "_law_keeps" "_law_keeps" s_law_keeps f__law_keeps fd__law_keeps
  g__law_keeps : mg "_law_keeps" = some (.ref f__law_keeps)
  b__law_keeps : Binds K fd__law_keeps ["found", "given"] []
  f__law_near : Addr
  fd__law_near : FuncData
  F__law_near : Fun K "_law_near" "_law_near" s_law_near f__law_near fd__law_near
  g__law_near : mg "_law_near" = some (.ref f__law_near)
  b__law_near : Binds K fd__law_near ["draw", "first", "w"] []
  f__law_signs_known : Addr
  fd__law_signs_known : FuncData
  F__law_signs_known : Fun K "_law_signs_known" "_law_signs_known" s_law_signs_known f__law_signs_known fd__law_signs_known
  g__law_signs_known : mg "_law_signs_known" = some (.ref f__law_signs_known)
  b__law_signs_known : Binds K fd__law_signs_known ["a", "b", "w"] []
  f__law_bounds_meet : Addr
  fd__law_bounds_meet : FuncData
  F__law_bounds_meet : Fun K "_law_bounds_meet" "_law_bounds_meet" s_law_bounds_meet f__law_bounds_meet fd__law_bounds_meet
  g__law_bounds_meet : mg "_law_bounds_meet" = some (.ref f__law_bounds_meet)
  b__law_bounds_meet : Binds K fd__law_bounds_meet ["predicate", "w", "given", "found"] []
  f_law : Addr
  fd_law : FuncData
  F_law : Fun K "law" "law" slaw f_law fd_law
  g_law : mg "law" = some (.ref f_law)
  b_law : Binds K fd_law ["script"] []
  max : mg "max" = none
  min : mg "min" = none
  int : mg "int" = none
  abs : mg "abs" = none
  len : mg "len" = none
  isinstance : mg "isinstance" = none
  bool : mg "bool" = none
  range : mg "range" = none
  tuple : mg "tuple" = none
  a__WIDTHS : Addr
  g__WIDTHS : mg "_WIDTHS" = some (.ref a__WIDTHS)
  kd__WIDTHS : KdL K w a__WIDTHS L__WIDTHS
  a__SWAPPED : Addr
  g__SWAPPED : mg "_SWAPPED" = some (.ref a__SWAPPED)
  kd__SWAPPED : KdL K w a__SWAPPED L__SWAPPED
section
variable {P : Program} {w : World} {K : PySem.W.Frag} {mg : Str → Option Value} {base : Heap}
/-! ### the numbers that the law draws -/
theorem seed_ok {x y : Int} (h : 0 ≤ x) (h2 : x < 2147483647) (h3 : 0 ≤ y) : 0 ≤ (x * 48271 + y) % 2147483647 ∧ (x * 48271 + y) % 2147483647 < 2147483647 :=
  ⟨Int.emod_nonneg _ (by decide), Int.emod_lt_of_pos _ (by decide)⟩
theorem G__law_take (T : Txt K mg w) : FnOk P w K mg base CX0 1 T.f__law_take T.fd__law_take ["draw", "many"] (toSp K 2 spTake) := by
  refine T.F__law_take.ok sc__law_take (fun vs H Q E h => h.1) (fun cdv A outer s H vs Q E hr h => ?_)
  obtain ⟨_, ex, H0, rs, Φ, wf, ra, ⟨many, rfl, ⟨h0, hm⟩, hΦ⟩, q⟩ := h
  obtain ⟨p, vm, rfl, hp, hvm⟩ : ∃ p vm, vs = [.ref p, vm] ∧ ex = some p ∧ vm = .int many := by
    cases ra with
    | cons a r =>
      cases r with
      | cons b r2 =>
        cases r2
        obtain ⟨p, h1, rfl⟩ := a
        cases b
        exact ⟨p, _, rfl, h1, rfl⟩
  subst hvm
  subst hp
  obtain ⟨c, i, v, sd, cells, hH, hc, hn, hcell, hi, hv, hs0, hs1⟩ := wf.dr p rfl
  have hcH : H c = some (.lst (cells.map V.int)) := wf.sub _ _ hc
  have hcp : c ≠ p := fun z => by rw [z, hn] at hc; cases hc
  have wr : ∀ (i' v' s' : Int), -1 ≤ i' → 0 ≤ v' → 0 ≤ s' → s' < 2147483647 → Wf ⟨K, some p, H, H0⟩ H0 (upd H p (.lst [.ref c, .int i', .int v', .int s'])) := fun i' v' s' a1 a2 a3 a4 =>
    wf.draw (i := i) (v := v) (s := sd) rfl hH a1 a2 a3 a4
  refine ⟨_, (pss_cons (ps_if (pt_cmpR op_eq (pe_ix ix_list (pv 0) pe_int (fun _ _ => rfl)) pe_int (nomark _)) (pss_cons (ps_asg (pe_op op_add (pe_ix ix_list (pv 0) pe_int (fun _ _ => rfl)) pe_int) (pg_sub (pv 0) pe_int set_list))
 (pss_cons (ps_if (pt_cmpR op_lt (pe_ix ix_list (pv 0) pe_int (fun _ _ => rfl)) (pe_callB call_len_seq (by rfl) T.len PySem.boot_len (pa_cons (pe_ix ix_list (pv 0) pe_int (fun _ _ => rfl)) pa_nil)) (nomark _)) (pss_one (ps_asg (pe_ix ix_list (pe_ix ix_list (pv 0) pe_int (fun _ _ => rfl)) (pe_ix ix_list (pv 0) pe_int (fun _ _ => rfl)) (fun _ _ => rfl)) (pg_sub (pv 0) pe_int set_list))) pss_nil)
 (pss_one (ps_if (pt_cmpR op_eq (pe_ix ix_list (pv 0) pe_int (fun _ _ => rfl)) pe_int (nomark _)) (pss_cons (ps_asg (pe_op op_mod (pe_callTy call_int1 (by rfl) T.int (by decide +kernel) (pa_cons (pe_op op_add (pe_op op_mul (pe_ix ix_list (pv 0) pe_int (fun _ _ => rfl)) pe_int) pe_int) pa_nil)) pe_int) (pg_sub (pv 0) pe_int set_list))
 (pss_one (ps_asg (pe_ix ix_list (pv 0) pe_int (fun _ _ => rfl)) (pg_sub (pv 0) pe_int set_list)))) pss_nil)))) pss_nil)
 (pss_cons (ps_set (i := 2) sc__law_take.nd rfl (Or.inl rfl) (pe_op op_mod (pe_callTy call_int1 (by rfl) T.int (by decide +kernel) (pa_cons (pe_ix ix_list (pv 0) pe_int (fun _ _ => rfl)) pa_nil)) (pv 1)))
 (pss_cons (ps_asg (pe_op op_fdivW (pe_ix ix_list (pv 0) pe_int (fun _ _ => rfl)) (pv 1)) (pg_sub (pv 0) pe_int set_list))
 (pss_one (ps_ret (pv 2)))))), ?_⟩
  -- what stands behind the first test
  have rest : ∀ (i' v' s' : Int), -1 ≤ i' → 0 ≤ v' → 0 ≤ s' → s' < 2147483647 → ∀ H', H' p = some (.lst [.ref c, .int i', .int v', .int s']) → (∀ v2 : Int, upd H' p (.lst [.ref c, .int i', .int v2, .int s']) = upd H p (.lst [.ref c, .int i', .int v2, .int s'])) →
      (∀ D : Ends, D.rt = Q → tSeq (tAsg (tOp (rI (fun _ j => 0 < j) fun i j => .int (i % j)) (tCB (fun xs H Q => (∃ i, xs = [.int i] ∧ Q (.int i) H) ∨ ∃ k, xs = [.bl k] ∧ Q (.int (if k then 1 else 0)) H) (tCons (tOp (rIxL K) (tVar 0) (tC (.int 2))) tNil)) (tVar 1)) (gName 2))
        (tSeq (tAsg (tOp (rI CDivW fun i j => .int (i / j)) (tOp (rIxL K) (tVar 0) (tC (.int 2))) (tVar 1)) (gSub (tVar 0) (tC (.int 2)) rSetL)) (tRet (tVar 2))) D [some (.ref p), some (.int many), none] H') := by
    intro i' v' s' a1 a2 a3 a4 H' hp he D hD
    refine ⟨_, rfl, _, _, _, _, rfl, rfl, SqL.of hp, rfl, .inl ⟨v', rfl, _, rfl, v', many, rfl, rfl, h0, ?_⟩⟩
    refine ⟨_, rfl, _, _, _, _, rfl, rfl, SqL.of hp, rfl, _, rfl, v', many, rfl, rfl, wide_div h0 hm (by decide) (by decide), _, rfl, p, _, 2, 2, rfl, rfl, hp, rfl, ?_⟩
    refine ⟨_, rfl, ?_⟩
    show D.rt (.int (v' % many)) (upd H' p (.lst [.ref c, .int i', .int (v' / many), .int s']))
    rw [hD, he]
    exact q H0 _ _ (.d (.int (v' % many))) (wr i' (v' / many) s' a1 (Int.ediv_nonneg a2 (Int.le_of_lt h0)) a3 a4) (.int _) (hΦ _ (Int.emod_nonneg _ (by omega)) (Int.emod_lt_of_pos _ h0))
  refine ⟨_, rfl, _, _, _, _, rfl, rfl, SqL.of hH, rfl, rfl, _, rfl, ite2 (fun e => ?_) (fun e => rest i v sd hi hv hs0 hs1 H hH (fun _ => rfl) _ rfl)⟩
  -- draw[1] = draw[1] + 1
  refine ⟨_, rfl, _, _, _, _, rfl, rfl, SqL.of hH, rfl, _, _, rfl, rfl, _, rfl, p, _, 1, 1, rfl, rfl, hH, rfl, ?_⟩
  have h1 : (upd H p (.lst [.ref c, .int (i + 1), .int v, .int sd])) p = some (.lst [.ref c, .int (i + 1), .int v, .int sd]) := upd_same
  have h1c : (upd H p (.lst [.ref c, .int (i + 1), .int v, .int sd])) c = some (.lst (cells.map V.int)) := by rw [upd_ne hcp]; exact hcH
  -- the last part: a new number, if there is none
  have last : ∀ (v' : Int), 0 ≤ v' → ∀ (H' : Hp) (D : Ends), H' p = some (.lst [.ref c, .int (i + 1), .int v', .int sd]) → (∀ o, upd H' p o = upd H p o) → (∀ v2 s2, 0 ≤ v2 → 0 ≤ s2 → s2 < 2147483647 → ∀ H2, H2 p = some (.lst [.ref c, .int (i + 1), .int v2, .int s2]) → (∀ o, upd H2 p o = upd H p o) → D.nx [some (.ref p), some (.int many), none] H2) →
      tIfS (tTest (tOp rEq (tOp (rIxL K) (tVar 0) (tC (.int 2))) (tC (.int 0)))) (tSeq (tAsg (tOp (rI (fun _ j => 0 < j) fun i j => .int (i % j)) (tCB (fun xs H Q => (∃ i, xs = [.int i] ∧ Q (.int i) H) ∨ ∃ k, xs = [.bl k] ∧ Q (.int (if k then 1 else 0)) H) (tCons (tOp (rI0 fun i j => .int (i + j)) (tOp (rI CMul fun i j => .int (i * j)) (tOp (rIxL K) (tVar 0) (tC (.int 3))) (tC (.int 48271))) (tC (.int 11))) tNil)) (tC (.int 2147483647))) (gSub (tVar 0) (tC (.int 3)) rSetL))
        (tAsg (tOp (rIxL K) (tVar 0) (tC (.int 3))) (gSub (tVar 0) (tC (.int 2)) rSetL))) tNext D [some (.ref p), some (.int many), none] H' := by
    intro v' hv' H' D hp' ho hD
    refine ⟨_, rfl, _, _, _, _, rfl, rfl, SqL.of hp', rfl, rfl, _, rfl, ite2 (fun e => ?_) (fun e => hD v' sd hv' hs0 hs1 H' hp' ho)⟩
    refine ⟨_, rfl, _, _, _, _, rfl, rfl, SqL.of hp', rfl, _, _, rfl, rfl, .inl ⟨by omega, by omega⟩, _, _, rfl, rfl, .inl ⟨_, rfl, _, _, rfl, rfl, (by show (0 : Int) < 2147483647; decide), _, rfl, p, _, 3, 3, rfl, rfl, hp', rfl, ?_⟩⟩
    obtain ⟨g1, g2⟩ := seed_ok (y := 11) hs0 hs1 (by decide)
    refine ⟨_, rfl, _, _, _, _, rfl, rfl, SqL.of upd_same, rfl, _, rfl, p, _, 2, 2, rfl, rfl, upd_same, rfl, ?_⟩
    refine hD _ _ g1 g1 g2 _ upd_same (fun o => ?_)
    rw [upd_upd, upd_upd, ho]
  -- if draw[1] < len(draw[0])
  refine ⟨_, rfl, _, _, _, _, rfl, rfl, SqL.of h1, rfl, _, rfl, _, _, _, _, rfl, rfl, SqL.of h1, rfl, c, _, rfl, .inl (SqL.of h1c), _, _, rfl, rfl, _, rfl, ite2 (fun e2 => ?_) (fun e2 => ?_)⟩
  · have e3 : i + 1 < (cells.length : Int) := by
      have := of_decide_eq_true e2
      rw [List.length_map] at this
      exact this
    obtain ⟨j, hj⟩ : ∃ j : Nat, i + 1 = (j : Int) := ⟨(i + 1).toNat, by omega⟩
    have hjl : j < cells.length := by omega
    have hx : (cells.map V.int)[j]? = some (.int cells[j]) := by rw [List.getElem?_map, List.getElem?_eq_getElem hjl]; rfl
    refine ⟨_, rfl, _, _, _, _, rfl, rfl, SqL.of h1, rfl, _, rfl, _, _, _, _, rfl, rfl, SqL.of h1, rfl, c, _, _, _, rfl, rfl, SqL.of h1c, (by rw [hj]; exact atI_nat hx), _, rfl, p, _, 2, 2, rfl, rfl, h1, rfl, ?_⟩
    refine last cells[j] (hcell _ (List.getElem_mem _)) _ _ upd_same (fun o => by rw [upd_upd, upd_upd]) (fun v2 s2 b1 b2 b3 H2 hp2 ho2 => ?_)
    exact rest (i + 1) v2 s2 (by omega) b1 b2 b3 H2 hp2 (fun _ => ho2 _) _ rfl
  · refine last v hv _ _ h1 (fun o => by rw [upd_upd]) (fun v2 s2 b1 b2 b3 H2 hp2 ho2 => ?_)
    exact rest (i + 1) v2 s2 (by omega) b1 b2 b3 H2 hp2 (fun _ => ho2 _) _ rfl
theorem len__law_take : ∀ rs Φ, spTake rs Φ → rs.length = 2 := spTake_len
theorem G__law_draw (T : Txt K mg w) : FnOk P w K mg base CX0 1 T.f__law_draw T.fd__law_draw ["script"] (spDraw K) := by
  refine T.F__law_draw.ok sc__law_draw (fun vs H Q E h => ?_) (fun cdv A outer s H vs Q E hr h => ?_)
  · obtain ⟨a, ns, rfl, _⟩ := h
    rfl
  · obtain ⟨a, ns, rfl, hS, hlen, k⟩ := h
    refine ⟨_, (pss_cons (ps_set (i := 1) sc__law_draw.nd rfl (Or.inl rfl) pe_int)
 (pss_cons (ps_for PassesOwn.never rfl ((kpi_list (K := K) rfl (pv 0))) (pg_name (i := 2) sc__law_draw.nd rfl (Or.inl rfl)) (pss_one (ps_set (i := 1) sc__law_draw.nd rfl (Or.inl rfl) (pe_op op_mod (pe_callTy call_int1 (by rfl) T.int (by decide +kernel) (pa_cons (pe_op op_add (pe_op op_add (pe_op op_mul (pv 1) pe_int) (pe_op op_mod (pe_callB call_abs (by rfl) T.abs (by decide +kernel) (pa_cons (pe_callTy call_int1 (by rfl) T.int (by decide +kernel) (pa_cons (pv 2) pa_nil)) pa_nil)) pe_int)) pe_int) pa_nil)) pe_int))))
 (pss_one (ps_ret (pe_lst (pa_cons (pe_lc (own := [("cell", 2)]) (g := gName 2) (tt := tYes) rfl sc__law_draw.nd ((kpi_list (K := K) rfl (pv 0))) (blkOk_by (N := ["script", "seed", "cell"]) (sc := defScope s_law_draw) (by decide +kernel)) (fun _ _ _ _ _ => pg_name (i := 2) sc__law_draw.nd rfl (Or.inl rfl)) (fun _ _ _ _ _ => pts_nil) (fun _ _ _ _ _ => (pe_callB call_abs (by rfl) T.abs (by decide +kernel) (pa_cons (pe_callTy call_int1 (by rfl) T.int (by decide +kernel) (pa_cons (pv 2) pa_nil)) pa_nil)))) (pa_cons (pe_un un_neg pe_int) (pa_cons pe_int (pa_cons (pv 1) pa_nil))))))))), ?_⟩
    refine ⟨_, rfl, a, rfl, ⟨_, hS⟩, for_list (K := K) (a := a) (xs := ns.map V.int) (fun i σ H' => ∃ (z : Int) (v : Option V), σ = [some (.ref a), some (.int z), v] ∧ H' = H ∧ 0 ≤ z ∧ z < 2147483647)
      ⟨7, none, rfl, rfl, by decide, by decide⟩ (fun i σ H' _ ⟨_, _, _, e, _⟩ => e ▸ hS) ?_ ?_⟩
    · rintro i y σ H' hi ⟨z, v, rfl, rfl, z0, z1⟩
      obtain ⟨u, rfl⟩ : ∃ u, y = V.int u := by
        rw [List.getElem?_map] at hi
        cases e : ns[i]? with
        | none => rw [e] at hi; cases hi
        | some u => rw [e] at hi; exact ⟨u, (Option.some.inj hi).symm⟩
      refine ⟨_, rfl, _, _, rfl, rfl, .inl ⟨by omega, by omega⟩, _, rfl, .inl ⟨_, rfl, _, rfl, _, _, rfl, rfl, (by show (0 : Int) < 65521; decide), _, _, rfl, rfl, _, _, rfl, rfl, .inl ⟨_, rfl, _, _, rfl, rfl, (by show (0 : Int) < 2147483647; decide), ?_⟩⟩⟩
      exact ⟨_, some (.int u), rfl, rfl, Int.emod_nonneg _ (by decide), Int.emod_lt_of_pos _ (by decide)⟩
    · rintro σ H' ⟨z, v, rfl, rfl, z0, z1⟩
      refine ⟨_, rfl, a, rfl, ⟨_, hS⟩, fun D hD => lc_list (K := K) (a := a) (xs := ns.map V.int) (fun i H2 => ∃ cells : List Int, H2 = upd H' D (.lst (cells.map V.int)) ∧ (∀ x ∈ cells, 0 ≤ x) ∧ cells.length ≤ i)
        ⟨[], rfl, fun _ h => (nomatch h), Nat.le_refl _⟩ (fun i H2 hi ⟨cells, e, _⟩ => ?_) ?_ ?_⟩
      · have sm : Same H' (upd H' D (.lst (cells.map V.int))) := fun b o e => by rw [upd_ne (ne_of_none e hD)]; exact e
        rw [e]
        exact sm.seq hS
      · rintro i y H2 hi ⟨cells, rfl, hc, hl⟩
        have hi63 : i < ns.length := by
          have q := (List.getElem?_eq_some_iff.mp hi).1
          rw [List.length_map] at q
          exact q
        obtain ⟨u, rfl⟩ : ∃ u, y = V.int u := by
          rw [List.getElem?_map] at hi
          cases e : ns[i]? with
          | none => rw [e] at hi; cases hi
          | some u => rw [e] at hi; exact ⟨u, (Option.some.inj hi).symm⟩
        refine ⟨rfl, ?_⟩
        unfold tYes
        dsimp only
        rw [if_pos rfl]
        refine ⟨_, rfl, .inl ⟨_, rfl, _, rfl, cells.map V.int, upd_same, ?_, cells ++ [if u < 0 then -u else u], ?_, ?_, ?_⟩⟩
        · rw [List.length_map]
          exact Nat.lt_of_le_of_lt (Nat.le_trans hl (Nat.le_of_lt (Nat.lt_of_lt_of_le hi63 hlen))) (by decide)
        · rw [upd_upd, List.map_append]
          rfl
        · intro x hx
          rcases List.mem_append.mp hx with hx | hx
          · exact hc x hx
          · rw [List.mem_singleton.mp hx]
            split <;> omega
        · rw [List.length_append]
          exact Nat.add_le_add_right hl 1
      · rintro H2 ⟨cells, rfl, hc, hl⟩
        refine ⟨_, rfl, ?_⟩
        refine ⟨_, rfl, (by show 4 ≤ sizeLine; decide), fun p hp => ?_⟩
        have np : D ≠ p := fun z => by rw [← z, upd_same] at hp; cases hp
        refine k _ p D z cells (fun b o e => ?_) upd_same ?_ np hc z0 z1
        · have e1 : upd H' D (.lst (cells.map V.int)) b = some o := by rw [upd_ne (ne_of_none e hD)]; exact e
          rw [upd_ne (ne_of_none e1 hp)]
          exact e1
        · rw [upd_ne np]
          exact upd_same

/-- the law's own call: how its row is made, then its body by data -/
theorem law_in {Kl : PySem.W.Frag} {a : Addr} {ns : List Int} {H : Hp} {Q : VK} {n : Nat} {t : TS} {d : DS} (hS : SqL Kl H a (ns.map V.int)) (hlen : ns.length ≤ 63) (k : ∀ H', Q (.bl true) H') (hd : ∀ (ex : Option Addr) (He Hf : Hp), SmS ⟨Kl, ex, He, Hf⟩ t d)
    (hp : ∀ raw : V, d { nx := fun _ => False, rt := fun r => r = .d (.bool true) } (some (.raw raw) :: some .drw :: List.replicate n none)) {E : XK} :
    tSeq (tAsg (tCall (spDraw Kl) [] E (tCons (tVar 0) tNil)) (gName 1)) t { nx := fun _ H' => Q .non H', rt := Q } (some (.ref a) :: none :: List.replicate n none) H :=
  ⟨.ref a, rfl, a, ns, rfl, hS, hlen, fun H' p c sd cells sm h1 h2 h3 h4 h5 h6 => law_start h1 h2 h3 h4 h5 h6 hd k hp⟩

def sgn (w : Nat) (x : Int) : Int := if 2 ^ (w - 1) ≤ x then x - 2 ^ w else x
theorem cp1 {j : Int} (h : 0 ≤ j) (h2 : j ≤ 1000) : CPow 1 j := ⟨h, by omega, by decide⟩
def Val (w : Nat) (x : Int) : Prop := 0 ≤ x ∧ x < 2 ^ w
theorem pow_le64 {w : Nat} (h : w ≤ 64) : (2 : Int) ^ w ≤ 18446744073709551616 := by
  have := Nat.pow_le_pow_right (n := 2) (by decide) h
  rw [← PySem.W.kbt_cast]
  exact Int.ofNat_le.mpr this
theorem pow_half {w : Nat} (h1 : 1 ≤ w) : (2 : Int) ^ w = 2 * 2 ^ (w - 1) := by
  obtain ⟨k, rfl⟩ : ∃ k, w = k + 1 := ⟨w - 1, by omega⟩
  rw [Int.pow_succ, Nat.add_sub_cancel, Int.mul_comm]
theorem sgn_bd {w : Nat} {x : Int} (h1 : 1 ≤ w) (h : Val w x) : -(2 ^ (w - 1)) ≤ sgn w x ∧ sgn w x < 2 ^ (w - 1) := by
  have := pow_half h1
  obtain ⟨a, b⟩ := h
  unfold sgn
  split <;> omega
theorem sgn_zero {w : Nat} {x : Int} (h1 : 1 ≤ w) (h : Val w x) (h0 : ¬ x = 0) : ¬ sgn w x = 0 := by
  have := pow_half h1
  obtain ⟨a, b⟩ := h
  unfold sgn
  split <;> omega
theorem pow_pos2 (w : Nat) : (0 : Int) < 2 ^ w := PySem.W.kbt_pos w
theorem minI (a b : Int) : (if b < a then b else a) = min a b := by omega
theorem log2_le {n k : Nat} (h : n < 2 ^ k) (hk : 0 < k) (hk2 : k ≤ 9000) : n.log2 < 9000 := Nat.lt_of_lt_of_le (PySem.Flt.log2_lt_of hk h) hk2
theorem cdw {i j : Int} (h : 0 < j) (h2 : j ≤ 18446744073709551616) : CDivW i j := ⟨h, log2_le (k := 65) (by omega) (by decide) (by decide)⟩

def b2i (b : Bool) : Int := if b then 1 else 0
def preds : List Str := ["eq", "ne", "ult", "ule", "ugt", "uge", "slt", "sle", "sgt", "sge"]
def cmpI (p : Str) (w : Nat) (x y : Int) : Bool := if p = "eq" then decide (x = y) else if p = "ne" then !decide (x = y) else if p = "ult" then decide (x < y) else if p = "ule" then decide (x ≤ y) else if p = "ugt" then decide (y < x) else if p = "uge" then decide (y ≤ x) else if p = "slt" then decide (sgn w x < sgn w y) else if p = "sle" then decide (sgn w x ≤ sgn w y) else if p = "sgt" then decide (sgn w y < sgn w x) else decide (sgn w y ≤ sgn w x)
def oppS (p : Str) : Str := if p = "eq" then "ne" else if p = "ne" then "eq" else if p = "ult" then "uge" else if p = "ule" then "ugt" else if p = "ugt" then "ule" else if p = "uge" then "ult" else if p = "slt" then "sge" else if p = "sle" then "sgt" else if p = "sgt" then "sle" else "slt"
def swpS (p : Str) : Str := if p = "eq" then "eq" else if p = "ne" then "ne" else if p = "ult" then "ugt" else if p = "ule" then "uge" else if p = "ugt" then "ult" else if p = "uge" then "ule" else if p = "slt" then "sgt" else if p = "sle" then "sge" else if p = "sgt" then "slt" else "sle"
theorem preds_cases {p : Str} (h : p ∈ preds) : p = "eq" ∨ p = "ne" ∨ p = "ult" ∨ p = "ule" ∨ p = "ugt" ∨ p = "uge" ∨ p = "slt" ∨ p = "sle" ∨ p = "sgt" ∨ p = "sge" := by
  simpa [preds] using h

def vp_swapped : VSp := fun rs Φ => ∃ (p : Str), rs = [.d (.str p)] ∧ p ∈ preds ∧ Φ (.d (.str (swpS p)))
theorem len_swapped : ∀ rs Φ, vp_swapped rs Φ → rs.length = 1 := fun rs Φ ⟨_, e, _⟩ => by rw [e]; rfl
theorem G_swapped (T : Txt K mg w) : FnOk P w K mg base CX0 1 T.f_swapped T.fd_swapped ["predicate"] (toSp K 1 vp_swapped) := by
  refine fn_ok T.F_swapped sc_swapped fun cdv A outer s H E hr => ⟨_, (pss_one (ps_ret (pe_ix (kx_kdict (K := K) (w := w) rfl rfl) (pe_glob (v := .ref T.a__SWAPPED) rfl T.g__SWAPPED rfl) (pv 0) (fun _ _ => rfl)))), _, fun ex He Hf => (sms_ret (sm_kd (f1 := false) rfl T.kd__SWAPPED (sm_var 0))), ?_⟩
  rintro rs Φ ⟨p, rfl, hp, h⟩
  rcases preds_cases hp with rfl | rfl | rfl | rfl | rfl | rfl | rfl | rfl | rfl | rfl
  · simp [swpS] at h ⊢
    exact ⟨_, by simp [L__SWAPPED], h⟩
  · simp [swpS] at h ⊢
    exact ⟨_, by simp [L__SWAPPED], h⟩
  · simp [swpS] at h ⊢
    exact ⟨_, by simp [L__SWAPPED], h⟩
  · simp [swpS] at h ⊢
    exact ⟨_, by simp [L__SWAPPED], h⟩
  · simp [swpS] at h ⊢
    exact ⟨_, by simp [L__SWAPPED], h⟩
  · simp [swpS] at h ⊢
    exact ⟨_, by simp [L__SWAPPED], h⟩
  · simp [swpS] at h ⊢
    exact ⟨_, by simp [L__SWAPPED], h⟩
  · simp [swpS] at h ⊢
    exact ⟨_, by simp [L__SWAPPED], h⟩
  · simp [swpS] at h ⊢
    exact ⟨_, by simp [L__SWAPPED], h⟩
  · simp [swpS] at h ⊢
    exact ⟨_, by simp [L__SWAPPED], h⟩

def vp_width : VSp := fun rs Φ => ∃ (p : Str) (v : PyData), rs = [.d (.str p)] ∧ (p, v) ∈ L__WIDTHS ∧ Φ (.d v)
theorem len_width : ∀ rs Φ, vp_width rs Φ → rs.length = 1 := fun rs Φ ⟨_, _, e, _⟩ => by rw [e]; rfl
theorem G_width (T : Txt K mg w) : FnOk P w K mg base CX0 1 T.f_width T.fd_width ["kind"] (toSp K 1 vp_width) := by
  refine fn_ok T.F_width sc_width fun cdv A outer s H E hr => ⟨_, (pss_one (ps_ret (pe_ix (kx_kdict (K := K) (w := w) rfl rfl) (pe_glob (v := .ref T.a__WIDTHS) rfl T.g__WIDTHS rfl) (pv 0) (fun _ _ => rfl)))), _, fun ex He Hf => (sms_ret (sm_kd (f1 := false) rfl T.kd__WIDTHS (sm_var 0))), ?_⟩
  rintro rs Φ ⟨p, v, rfl, hp, h⟩
  simp
  exact ⟨v, hp, h⟩

/-! ### ranges -/
structure Rg where
  l : Nat
  h : Nat
  z : Nat
  o : Nat
def rg (a : Rg) : PyData := .tuple [.int a.l, .int a.h, .int a.z, .int a.o]
theorem bA (x y : Nat) : Builtin.bitAnd (x : Int) (y : Int) = ((x &&& y : Nat) : Int) := by
  rw [PyProof.Rows.bitAnd_pp (Int.natCast_nonneg _) (Int.natCast_nonneg _)]
  rfl
theorem bO (x y : Nat) : Builtin.bitOr (x : Int) (y : Int) = ((x ||| y : Nat) : Int) := by
  have e : ∀ n : Nat, ¬ (0 : Int) ≤ -(n : Int) - 1 := fun n => by omega
  have e2 : ∀ n : Nat, - (-(n : Int) - 1) - 1 = (n : Int) := fun n => by omega
  unfold Builtin.bitOr
  rw [PySem.W.kbt_not, PySem.W.kbt_not, PySem.W.kbt_not]
  unfold Builtin.bitAnd
  rw [decide_eq_false (e x), decide_eq_false (e y)]
  dsimp only
  rw [PySem.W.kbt_not, PySem.W.kbt_not, PySem.W.kbt_not, e2, e2, e2]
  rfl

def Mem (v : Nat) (a : Rg) : Prop := a.l ≤ v ∧ v ≤ a.h ∧ v &&& a.z = 0 ∧ v &&& a.o = a.o
def nl (vs : List Nat) : List PyData := (vs.map fun n : Nat => (n : Int)).map PyData.int
theorem and_comp {w v : Nat} (h : v < 2 ^ w) : v &&& (2 ^ w - 1 - v) = 0 := by
  refine Nat.eq_of_testBit_eq fun i => ?_
  rw [show 2 ^ w - 1 - v = 2 ^ w - (v + 1) by omega, Nat.testBit_and, Nat.testBit_two_pow_sub_succ h, Nat.zero_testBit]
  cases v.testBit i <;> simp
theorem and_z {v z y : Nat} (h : v &&& z = 0) : v &&& (z &&& y) = 0 := by
  rw [← Nat.and_assoc, h, Nat.zero_and]
theorem and_o {v o y : Nat} (h : v &&& o = o) : v &&& (o &&& y) = o &&& y := by
  rw [← Nat.and_assoc, h]

/-! ### a range made tight -/
def InW (w : Nat) (a : Rg) : Prop := a.l < 2 ^ w ∧ a.h < 2 ^ w ∧ a.z < 2 ^ w ∧ a.o < 2 ^ w
def bitN (n : Nat) : Nat := Builtin.Int.intBits (n : Int)
def fixN (w l h : Nat) : Nat := 2 ^ w - 1 - (2 ^ bitN (l ^^^ h) - 1)
def zOf (w : Nat) (a : Rg) : Nat := a.z ||| (fixN w a.l a.h &&& (2 ^ w - 1 - a.l))
def oOf (w : Nat) (a : Rg) : Nat := a.o ||| (fixN w a.l a.h &&& a.l)
def tgt (w : Nat) (a : Rg) : Option Rg :=
  if a.h < a.l ∨ a.z &&& a.o ≠ 0 then none else
  if zOf w a &&& oOf w a ≠ 0 then none else
  if min a.h (2 ^ w - 1 - zOf w a) < max a.l (oOf w a) then none else
  if max a.l (oOf w a) = min a.h (2 ^ w - 1 - zOf w a) then
    (if max a.l (oOf w a) &&& zOf w a ≠ 0 ∨ max a.l (oOf w a) &&& oOf w a ≠ oOf w a then none else some ⟨max a.l (oOf w a), max a.l (oOf w a), 2 ^ w - 1 - max a.l (oOf w a), max a.l (oOf w a)⟩)
  else some ⟨max a.l (oOf w a), min a.h (2 ^ w - 1 - zOf w a), zOf w a, oOf w a⟩
theorem bits_bd (n : Nat) : n < 2 ^ bitN n := by
  unfold bitN Builtin.Int.intBits
  by_cases c : n = 0
  · subst c; decide
  · have : ¬ ((n : Int) == 0) = true := by simp [c]
    rw [if_neg this, Int.natAbs_natCast]
    exact Nat.lt_log2_self
theorem bits_le {n w : Nat} (h : n < 2 ^ w) : bitN n ≤ w := by
  unfold bitN Builtin.Int.intBits
  by_cases c : n = 0
  · subst c; exact Nat.zero_le _
  · have : ¬ ((n : Int) == 0) = true := by simp [c]
    rw [if_neg this, Int.natAbs_natCast]
    exact (Nat.log2_lt c).mpr h
theorem comp_bit {w x k : Nat} (h : x < 2 ^ w) : (2 ^ w - 1 - x).testBit k = (decide (k < w) && !x.testBit k) := by
  rw [show 2 ^ w - 1 - x = 2 ^ w - (x + 1) by omega, Nat.testBit_two_pow_sub_succ h]
theorem fix_bit {w l h k : Nat} (hl : l < 2 ^ w) (hh : h < 2 ^ w) : (fixN w l h).testBit k = (decide (k < w) && decide (bitN (l ^^^ h) ≤ k)) := by
  have hb := bits_le (Nat.xor_lt_two_pow hl hh)
  have hp := Nat.pow_le_pow_right (n := 2) (by decide) hb
  have h1 := Nat.two_pow_pos (bitN (l ^^^ h))
  unfold fixN
  rw [comp_bit (by omega), Nat.testBit_two_pow_sub_one]
  by_cases c : bitN (l ^^^ h) ≤ k
  · rw [decide_eq_true c, decide_eq_false (show ¬ k < bitN (l ^^^ h) by omega)]; rfl
  · rw [decide_eq_false c, decide_eq_true (show k < bitN (l ^^^ h) by omega)]; simp
theorem same_high {l h v : Nat} (h1 : l ≤ v) (h2 : v ≤ h) {k : Nat} (hk : bitN (l ^^^ h) ≤ k) : v.testBit k = l.testBit k := by
  have hx := bits_bd (l ^^^ h)
  generalize bitN (l ^^^ h) = n at hx hk
  have e : l >>> n = h >>> n := by
    have : (l ^^^ h) >>> n = 0 := by rw [Nat.shiftRight_eq_div_pow]; exact Nat.div_eq_of_lt hx
    rw [Nat.shiftRight_xor_distrib] at this
    refine Nat.eq_of_testBit_eq fun i => ?_
    have := congrArg (fun n => n.testBit i) this
    simp only [Nat.testBit_xor, Nat.zero_testBit] at this
    revert this
    cases (l >>> n).testBit i <;> cases (h >>> n).testBit i <;> simp
  have e2 : v >>> n = l >>> n := by
    rw [Nat.shiftRight_eq_div_pow] at e ⊢
    rw [Nat.shiftRight_eq_div_pow] at e ⊢
    have a := Nat.div_le_div_right (c := 2 ^ n) h1
    have b := Nat.div_le_div_right (c := 2 ^ n) h2
    omega
  obtain ⟨j, rfl⟩ : ∃ j, k = n + j := ⟨k - n, by omega⟩
  rw [← Nat.testBit_shiftRight, ← Nat.testBit_shiftRight, e2]
theorem dis_iff {x y : Nat} : x &&& y = 0 ↔ ∀ k, x.testBit k = true → y.testBit k = false := by
  constructor
  · intro h k hk
    have := congrArg (fun n => n.testBit k) h
    simp only [Nat.testBit_and, Nat.zero_testBit, hk, Bool.true_and] at this
    exact this
  · intro h
    refine Nat.eq_of_testBit_eq fun k => ?_
    rw [Nat.testBit_and, Nat.zero_testBit]
    cases e : x.testBit k with
    | false => rfl
    | true => rw [h k e]; rfl
theorem sup_iff {x y : Nat} : x &&& y = y ↔ ∀ k, y.testBit k = true → x.testBit k = true := by
  constructor
  · intro h k hk
    have := congrArg (fun n => n.testBit k) h
    simp only [Nat.testBit_and, hk, Bool.and_true] at this
    exact this
  · intro h
    refine Nat.eq_of_testBit_eq fun k => ?_
    rw [Nat.testBit_and]
    cases e : y.testBit k with
    | false => simp
    | true => rw [h k e]; rfl
theorem sup_le {x y : Nat} (h : x &&& y = y) : y ≤ x := by
  rw [← h]
  exact Nat.and_le_left
theorem le_comp {w v z : Nat} (hv : v < 2 ^ w) (hz : z < 2 ^ w) (h : v &&& z = 0) : v ≤ 2 ^ w - 1 - z := by
  refine sup_le (sup_iff.mpr fun k hk => ?_)
  rw [comp_bit hz, dis_iff.mp h k hk]
  have : k < w := by
    refine Nat.lt_of_not_le fun c => ?_
    rw [Nat.testBit_lt_two_pow (Nat.lt_of_lt_of_le hv (Nat.pow_le_pow_right (by decide) c))] at hk
    cases hk
  rw [decide_eq_true this]
  rfl
theorem z_bit {w : Nat} {a : Rg} (ha : InW w a) (k : Nat) : (zOf w a).testBit k = (a.z.testBit k || (decide (k < w) && decide (bitN (a.l ^^^ a.h) ≤ k) && !a.l.testBit k)) := by
  unfold zOf
  rw [Nat.testBit_or, Nat.testBit_and, fix_bit ha.1 ha.2.1, comp_bit ha.1]
  cases a.z.testBit k <;> cases decide (k < w) <;> cases decide (bitN (a.l ^^^ a.h) ≤ k) <;> cases a.l.testBit k <;> rfl
theorem o_bit {w : Nat} {a : Rg} (ha : InW w a) (k : Nat) : (oOf w a).testBit k = (a.o.testBit k || (decide (k < w) && decide (bitN (a.l ^^^ a.h) ≤ k) && a.l.testBit k)) := by
  unfold oOf
  rw [Nat.testBit_or, Nat.testBit_and, fix_bit ha.1 ha.2.1]
theorem z_lt {w : Nat} {a : Rg} (ha : InW w a) : zOf w a < 2 ^ w := by
  have := ha.1
  refine Nat.or_lt_two_pow ha.2.2.1 (Nat.lt_of_le_of_lt Nat.and_le_right (by omega))
theorem o_lt {w : Nat} {a : Rg} (ha : InW w a) : oOf w a < 2 ^ w := Nat.or_lt_two_pow ha.2.2.2 (Nat.lt_of_le_of_lt Nat.and_le_right ha.1)
theorem z_sup (w : Nat) (a : Rg) : zOf w a &&& a.z = a.z := sup_iff.mpr fun k hk => by
  unfold zOf
  rw [Nat.testBit_or, hk, Bool.true_or]
theorem o_sup (w : Nat) (a : Rg) : oOf w a &&& a.o = a.o := sup_iff.mpr fun k hk => by
  unfold oOf
  rw [Nat.testBit_or, hk, Bool.true_or]
theorem mem_z {w v : Nat} {a : Rg} (ha : InW w a) (h : Mem v a) : v &&& zOf w a = 0 := dis_iff.mpr fun k hk => by
  rw [z_bit ha, dis_iff.mp h.2.2.1 k hk, Bool.false_or]
  by_cases c : bitN (a.l ^^^ a.h) ≤ k
  · rw [← same_high h.1 h.2.1 c, hk]
    simp
  · rw [decide_eq_false c]
    simp
theorem mem_o {w v : Nat} {a : Rg} (ha : InW w a) (h : Mem v a) : v &&& oOf w a = oOf w a := sup_iff.mpr fun k hk => by
  rw [o_bit ha] at hk
  cases e : a.o.testBit k with
  | true => exact sup_iff.mp h.2.2.2 k e
  | false =>
    rw [e, Bool.false_or, Bool.and_eq_true, Bool.and_eq_true] at hk
    rw [same_high h.1 h.2.1 (of_decide_eq_true hk.1.2)]
    exact hk.2
/-- b claims no less than a, and keeps a's members -/
structure Cl (w : Nat) (a b : Rg) : Prop where
  l : a.l ≤ b.l
  h : b.h ≤ a.h
  z : b.z &&& a.z = a.z
  o : b.o &&& a.o = a.o
  m : ∀ v, v < 2 ^ w → Mem v a → Mem v b
  i : InW w b
theorem Cl.refl {w : Nat} {a : Rg} (h : InW w a) : Cl w a a := ⟨Nat.le_refl _, Nat.le_refl _, Nat.and_self _, Nat.and_self _, fun _ _ h => h, h⟩
theorem sup_trans {x y z : Nat} (h : x &&& y = y) (k : y &&& z = z) : x &&& z = z := sup_iff.mpr fun i hi => sup_iff.mp h i (sup_iff.mp k i hi)
theorem Cl.trans {w : Nat} {a b c : Rg} (h : Cl w a b) (k : Cl w b c) : Cl w a c := ⟨Nat.le_trans h.l k.l, Nat.le_trans k.h h.h, sup_trans k.z h.z, sup_trans k.o h.o, fun v hv hm => k.m v hv (h.m v hv hm), k.i⟩
/-- the bits that both bounds share are known -/
def Kn (w l h : Nat) (b : Rg) : Prop := ∀ k, k < w → bitN (l ^^^ h) ≤ k → (b.z ||| b.o).testBit k = true
structure Good (w : Nat) (b : Rg) : Prop where
  le : b.l ≤ b.h
  dis : b.z &&& b.o = 0
  one : b.l = b.h → b.z = 2 ^ w - 1 - b.l ∧ b.o = b.l
theorem tgt_none {w : Nat} {a : Rg} (ha : InW w a) (h : tgt w a = none) : ∀ v, v < 2 ^ w → ¬ Mem v a := by
  intro v hv hm
  have hz := mem_z ha hm
  have ho := mem_o ha hm
  have hzo : zOf w a &&& oOf w a = 0 := dis_iff.mpr fun k hk => by
    cases e : (oOf w a).testBit k with
    | false => rfl
    | true => rw [dis_iff.mp hz k (sup_iff.mp ho k e)] at hk; cases hk
  have h0 : ¬ (a.h < a.l ∨ a.z &&& a.o ≠ 0) := by
    rintro (c | c)
    · have := hm.1; have := hm.2.1; omega
    · refine c (dis_iff.mpr fun k hk => ?_)
      cases e : a.o.testBit k with
      | false => rfl
      | true => rw [dis_iff.mp hm.2.2.1 k (sup_iff.mp hm.2.2.2 k e)] at hk; cases hk
  have v1 := sup_le ho
  have v2 := le_comp hv (z_lt ha) hz
  have v3 := hm.1
  have v4 := hm.2.1
  unfold tgt at h
  rw [if_neg h0, if_neg (fun c => c hzo), if_neg (by omega)] at h
  split at h
  · rename_i e
    have ev : max a.l (oOf w a) = v := by omega
    rw [ev, if_neg (by
      rintro (c | c)
      · exact c hz
      · exact c ho)] at h
    cases h
  · cases h
theorem tgt_some {w : Nat} {a b : Rg} (ha : InW w a) (h : tgt w a = some b) : Cl w a b ∧ Good w b ∧ Kn w a.l a.h b := by
  unfold tgt at h
  split at h
  · cases h
  rename_i h0
  split at h
  · cases h
  rename_i hzo
  have hzo : zOf w a &&& oOf w a = 0 := Decidable.not_not.mp hzo
  split at h
  · cases h
  rename_i hle
  have zl := z_lt ha
  have ol := o_lt ha
  have al := ha.1
  have ah := ha.2.1
  have kn : ∀ k, k < w → bitN (a.l ^^^ a.h) ≤ k → (zOf w a ||| oOf w a).testBit k = true := fun k hk hb => by
    rw [Nat.testBit_or, z_bit ha, o_bit ha, decide_eq_true hk, decide_eq_true hb]
    cases a.l.testBit k <;> simp
  split at h
  · rename_i e
    split at h
    · cases h
    rename_i hc
    cases h
    generalize hl : max a.l (oOf w a) = l at e hc hle
    have hlw : l < 2 ^ w := by omega
    have c1 : l &&& zOf w a = 0 := Decidable.not_not.mp fun c => hc (.inl c)
    have c2 : l &&& oOf w a = oOf w a := Decidable.not_not.mp fun c => hc (.inr c)
    refine ⟨⟨by show a.l ≤ l; omega, by show l ≤ a.h; omega, ?_, ?_, fun v hv hm => ?_, hlw, hlw, by show 2 ^ w - 1 - l < 2 ^ w; omega, hlw⟩, ⟨Nat.le_refl _, ?_, fun _ => ⟨rfl, rfl⟩⟩, fun k hk hb => ?_⟩
    · refine sup_iff.mpr fun k hk => ?_
      show (2 ^ w - 1 - l).testBit k = true
      rw [comp_bit hlw]
      have hkz := sup_iff.mp (z_sup w a) k hk
      have : k < w := by
        refine Nat.lt_of_not_le fun c => ?_
        rw [Nat.testBit_lt_two_pow (Nat.lt_of_lt_of_le zl (Nat.pow_le_pow_right (by decide) c))] at hkz
        cases hkz
      rw [decide_eq_true this]
      cases q : l.testBit k with
      | false => rfl
      | true => rw [dis_iff.mp c1 k q] at hkz; cases hkz
    · exact sup_trans c2 (o_sup w a)
    · have v1 := sup_le (mem_o ha hm)
      have v2 := le_comp hv zl (mem_z ha hm)
      have v3 := hm.1
      have v4 := hm.2.1
      obtain rfl : v = l := by omega
      exact ⟨Nat.le_refl _, Nat.le_refl _, and_comp hv, Nat.and_self _⟩
    · show (2 ^ w - 1 - l) &&& l = 0
      rw [Nat.and_comm]
      exact and_comp hlw
    · show ((2 ^ w - 1 - l) ||| l).testBit k = true
      rw [Nat.testBit_or, comp_bit hlw, decide_eq_true hk]
      cases l.testBit k <;> rfl
  · rename_i e
    cases h
    refine ⟨⟨by show a.l ≤ max a.l (oOf w a); omega, by show min a.h _ ≤ a.h; omega, z_sup w a, o_sup w a, fun v hv hm => ?_, by show max a.l (oOf w a) < _; omega, by show min a.h _ < _; omega, zl, ol⟩, ⟨by show max a.l (oOf w a) ≤ min a.h _; omega, hzo, fun c => absurd c e⟩, kn⟩
    have v1 := sup_le (mem_o ha hm)
    have v2 := le_comp hv zl (mem_z ha hm)
    have v3 := hm.1
    have v4 := hm.2.1
    exact ⟨by show max a.l (oOf w a) ≤ v; omega, by show v ≤ min a.h _; omega, mem_z ha hm, mem_o ha hm⟩
def meas (w : Nat) (b : Rg) : Nat := (b.h - b.l) + (2 ^ w - 1 - b.z) + (2 ^ w - 1 - b.o)
theorem meas_lt {w : Nat} {a b : Rg} (h : Cl w a b) (hb : b.l ≤ b.h) (ne : b ≠ a) : meas w b < meas w a := by
  have z1 := sup_le h.z
  have o1 := sup_le h.o
  obtain ⟨i1, i2, i3, i4⟩ := h.i
  have h1 := h.l
  have h2 := h.h
  refine Nat.lt_of_not_le fun c => ne ?_
  unfold meas at c
  have e1 : a.l = b.l := by omega
  have e2 : a.h = b.h := by omega
  have e3 : a.z = b.z := by omega
  have e4 : a.o = b.o := by omega
  cases a
  cases b
  simp only at e1 e2 e3 e4
  rw [e1, e2, e3, e4]


theorem pw_nat (w : Nat) : (2 : Int) ^ w - 1 = ((2 ^ w - 1 : Nat) : Int) := by
  have := Nat.two_pow_pos w
  rw [← PySem.W.kbt_cast]
  omega
def KW (k : Str) (w : Nat) : Prop := (k, .int w) ∈ L__WIDTHS ∧ 1 ≤ w ∧ w ≤ 64
def vp_top_of : VSp := fun rs Φ => ∃ (k : Str) (w : Nat), rs = [.d (.str k)] ∧ KW k w ∧ Φ (.d (.int ((2 ^ w - 1 : Nat) : Int)))
theorem len_top_of : ∀ rs Φ, vp_top_of rs Φ → rs.length = 1 := fun rs Φ ⟨_, _, e, _⟩ => by rw [e]; rfl
theorem G_top_of (T : Txt K mg w) : FnOk P w K mg base CX0 2 T.f_top_of T.fd_top_of ["kind"] (toSp K 1 vp_top_of) := by
  refine fn_ok T.F_top_of sc_top_of fun cdv A outer s H E hr => ⟨_, (pss_one (ps_ret (pe_op op_sub (pe_op op_shl pe_int (pe_call (G_width T) hr (by rfl) T.g_width T.F_width.kp T.b_width .nil pass0 (pa_cons (pv 0) pa_nil))) pe_int))), _, fun ex He Hf => (sms_ret (sm_op (f1 := false) (f2 := false) (opd_I0 (g' := fun i j => .int (i - j)) fun _ _ => rfl) (sm_op (f1 := false) (f2 := false) (opd_I (g' := fun i j => .int (i * 2 ^ j.toNat)) fun _ _ => rfl) (sm_int _) (sm_call len_width (smq_cons (sm_var 0) smq_nil))) (sm_int _))), ?_⟩
  rintro rs Φ ⟨k, w, rfl, hk, h⟩
  simp [startD]
  refine ⟨k, _, rfl, hk.1, ?_⟩
  simp
  rw [pw_nat]
  exact ⟨cp1 (by omega) (by have := hk.2.2; omega), h⟩
def vp_single : VSp := fun rs Φ => ∃ (k : Str) (w v : Nat), rs = [.d (.str k), .d (.int v)] ∧ KW k w ∧ v < 2 ^ w ∧ Φ (.d (rg ⟨v, v, 2 ^ w - 1 - v, v⟩))
theorem len_single : ∀ rs Φ, vp_single rs Φ → rs.length = 2 := fun rs Φ ⟨_, _, _, e, _⟩ => by rw [e]; rfl
theorem G_single (T : Txt K mg w) : FnOk P w K mg base CX0 3 T.f_single T.fd_single ["kind", "value"] (toSp K 2 vp_single) := by
  refine fn_ok T.F_single sc_single fun cdv A outer s H E hr => ⟨_, (pss_one (ps_ret (pe_tup (pa_cons (pv 1) (pa_cons (pv 1) (pa_cons (pe_op op_sub (pe_call (G_top_of T) hr (by rfl) T.g_top_of T.F_top_of.kp T.b_top_of .nil pass0 (pa_cons (pv 0) pa_nil)) (pv 1)) (pa_cons (pv 1) pa_nil))))))), _, fun ex He Hf => (sms_ret (sm_tup (sma_cons (sm_var 1) (sma_cons (sm_var 1) (sma_cons (sm_op (f1 := false) (f2 := false) (opd_I0 (g' := fun i j => .int (i - j)) fun _ _ => rfl) (sm_call len_top_of (smq_cons (sm_var 0) smq_nil)) (sm_var 1)) (sma_cons (sm_var 1) sma_nil)))))), ?_⟩
  rintro rs Φ ⟨k, w, v, rfl, hk, hv, h⟩
  simp [startD, le_size, lt_size, cmul_l, cpow_l, cdiv_l]
  refine ⟨k, w, rfl, hk, _, rfl, ?_⟩
  rw [show ((2 ^ w - 1 : Nat) : Int) - (v : Int) = ((2 ^ w - 1 - v : Nat) : Int) by omega]
  exact h
theorem add_or {x y : Nat} (h : x &&& y = 0) : x + y = x ||| y := by
  have hw : x + y < 2 ^ (x + y) := Nat.lt_two_pow_self
  have hx : x < 2 ^ (x + y) := by omega
  have hy : y < 2 ^ (x + y) := by omega
  have e := BitVec.add_eq_or_of_and_eq_zero (BitVec.ofNat (x + y) x) (BitVec.ofNat (x + y) y) (by
    apply BitVec.eq_of_toNat_eq
    rw [BitVec.toNat_and, BitVec.toNat_ofNat, BitVec.toNat_ofNat, Nat.mod_eq_of_lt hx, Nat.mod_eq_of_lt hy, h]
    rfl)
  have e2 := congrArg BitVec.toNat e
  rw [BitVec.toNat_add, BitVec.toNat_or, BitVec.toNat_ofNat, BitVec.toNat_ofNat, Nat.mod_eq_of_lt hx, Nat.mod_eq_of_lt hy, Nat.mod_eq_of_lt hw] at e2
  exact e2
theorem xor_and (x y : Nat) : (x ^^^ y) + (x &&& y) = x ||| y := by
  rw [add_or (dis_iff.mpr fun k hk => by
    rw [Nat.testBit_xor] at hk
    rw [Nat.testBit_and]
    revert hk
    cases x.testBit k <;> cases y.testBit k <;> simp)]
  refine Nat.eq_of_testBit_eq fun k => ?_
  rw [Nat.testBit_or, Nat.testBit_xor, Nat.testBit_and, Nat.testBit_or]
  cases x.testBit k <;> cases y.testBit k <;> rfl
theorem xorN (x y : Nat) : Builtin.bitXor (x : Int) (y : Int) = ((x ^^^ y : Nat) : Int) := by
  unfold Builtin.bitXor
  rw [bO, bA]
  have := xor_and x y
  omega
theorem neN (n : Nat) : ((n : Int) != 0) = decide (n ≠ 0) := by
  rw [Bool.eq_iff_iff]
  simp

structure Ri where
  l : Int
  h : Int
  z : Nat
  o : Nat
def ri (x : Ri) : PyData := .tuple [.int x.l, .int x.h, .int x.z, .int x.o]
def Rg.ri (a : Rg) : Ri := ⟨a.l, a.h, a.z, a.o⟩
theorem ri_rg (a : Rg) : Toy.ri a.ri = rg a := rfl
def vp__tightened : VSp := fun rs Φ => (∃ (k : Str) (w : Nat) (x : Ri), rs = [.d (.str k), .d (ri x)] ∧ KW k w ∧ x.h < x.l ∧ Φ (.d .none)) ∨ ∃ (k : Str) (w : Nat) (a : Rg), rs = [.d (.str k), .d (rg a)] ∧ KW k w ∧ InW w a ∧ Φ (.d (match tgt w a with | none => .none | some b => rg b))
theorem len__tightened : ∀ rs Φ, vp__tightened rs Φ → rs.length = 2 := fun rs Φ h => by
  rcases h with ⟨_, _, _, e, _⟩ | ⟨_, _, _, e, _⟩ <;> rw [e] <;> rfl
theorem G__tightened (T : Txt K mg w) : FnOk P w K mg base CX0 4 T.f__tightened T.fd__tightened ["kind", "bounds"] (toSp K 2 vp__tightened) := by
  refine fn_ok T.F__tightened sc__tightened fun cdv A outer s H E hr => ⟨_, (pss_cons (ps_asg (pv 1) (pg_tup (n := 4) rfl (pgs_cons (pg_name (i := 6) sc__tightened.nd rfl (Or.inl rfl)) (pgs_cons (pg_name (i := 7) sc__tightened.nd rfl (Or.inl rfl)) (pgs_cons (pg_name (i := 4) sc__tightened.nd rfl (Or.inl rfl)) (pgs_cons (pg_name (i := 5) sc__tightened.nd rfl (Or.inl rfl)) pgs_nil))))))
 (pss_cons (ps_set (i := 2) sc__tightened.nd rfl (Or.inl rfl) (pe_call (G_top_of T) (hr.mono (by decide)) (by rfl) T.g_top_of T.F_top_of.kp T.b_top_of .nil pass0 (pa_cons (pv 0) pa_nil)))
 (pss_cons (ps_if (PW.pt (pw_or (pt_cmpR op_gt (pv 6) (pv 7) (nomark _)) (pw_or1 (pt_truth (pe_op op_and (pv 4) (pv 5)) (by intro _; rfl))))) (pss_one (ps_ret pe_non)) pss_nil)
 (pss_cons (ps_set (i := 3) sc__tightened.nd rfl (Or.inl rfl) (pe_op op_sub (pv 2) (pe_op op_sub (pe_op op_shl pe_int (pe_bits (pe_op op_xor (pv 6) (pv 7)))) pe_int)))
 (pss_cons (ps_aug (i := 4) sc__tightened.nd rfl (Or.inl rfl) (pe_op op_and (pv 3) (pe_op op_sub (pv 2) (pv 6))) ip_orI)
 (pss_cons (ps_aug (i := 5) sc__tightened.nd rfl (Or.inl rfl) (pe_op op_and (pv 3) (pv 6)) ip_orI)
 (pss_cons (ps_if (pt_truth (pe_op op_and (pv 4) (pv 5)) (by intro _; rfl)) (pss_one (ps_ret pe_non)) pss_nil)
 (pss_cons (ps_set (i := 6) sc__tightened.nd rfl (Or.inl rfl) (pe_callB (call_max2 rfl) (by rfl) T.max (by decide +kernel) (pa_cons (pv 6) (pa_cons (pv 5) pa_nil))))
 (pss_cons (ps_set (i := 7) sc__tightened.nd rfl (Or.inl rfl) (pe_callB (call_min2 rfl) (by rfl) T.min (by decide +kernel) (pa_cons (pv 7) (pa_cons (pe_op op_sub (pv 2) (pv 4)) pa_nil))))
 (pss_cons (ps_if (pt_cmpR op_gt (pv 6) (pv 7) (nomark _)) (pss_one (ps_ret pe_non)) pss_nil)
 (pss_cons (ps_if (pt_cmpR op_eq (pv 6) (pv 7) (nomark _)) (pss_cons (ps_if (PW.pt (pw_or (pt_truth (pe_op op_and (pv 6) (pv 4)) (by intro _; rfl)) (pw_or1 (pt_cmpR op_ne (pe_op op_and (pv 6) (pv 5)) (pv 5) (nomark _))))) (pss_one (ps_ret pe_non)) pss_nil)
 (pss_one (ps_ret (pe_call (G_single T) hr (by rfl) T.g_single T.F_single.kp T.b_single .nil pass0 (pa_cons (pv 0) (pa_cons (pv 6) pa_nil)))))) pss_nil)
 (pss_one (ps_ret (pe_tup (pa_cons (pv 6) (pa_cons (pv 7) (pa_cons (pv 4) (pa_cons (pv 5) pa_nil)))))))))))))))))), _, fun ex He Hf => (sms_seq (sms_asg (sm_var 1) (smg_tup (smg_cons (smg_name 6) (smg_cons (smg_name 7) (smg_cons (smg_name 4) (smg_cons (smg_name 5) smg_nil))))))
 (sms_seq (sms_asg (sm_call len_top_of (smq_cons (sm_var 0) smq_nil)) (smg_name 2))
 (sms_seq (sms_if (smt_or (smt_t (f1 := false) (sm_op (f1 := false) (f2 := false) (opd_I0 (g' := fun i j => .bool (decide (j < i))) fun _ _ => rfl) (sm_var 6) (sm_var 7))) (smt_tru (f1 := false) (sm_op (f1 := false) (f2 := false) (opd_I0 (g' := fun i j => .int (Builtin.bitAnd i j)) fun _ _ => rfl) (sm_var 4) (sm_var 5))))
 (sms_ret sm_non)
 sms_next)
 (sms_seq (sms_asg (sm_op (f1 := false) (f2 := false) (opd_I0 (g' := fun i j => .int (i - j)) fun _ _ => rfl) (sm_var 2) (sm_op (f1 := false) (f2 := false) (opd_I0 (g' := fun i j => .int (i - j)) fun _ _ => rfl) (sm_op (f1 := false) (f2 := false) (opd_I (g' := fun i j => .int (i * 2 ^ j.toNat)) fun _ _ => rfl) (sm_int _) (sm_bits (f1 := false) (sm_op (f1 := false) (f2 := false) (opd_I0 (g' := fun i j => .int (Builtin.bitXor i j)) fun _ _ => rfl) (sm_var 6) (sm_var 7)))) (sm_int _))) (smg_name 3))
 (sms_seq (sms_aug (f1 := false) 4 (sm_op (f1 := false) (f2 := false) (opd_I0 (g' := fun i j => .int (Builtin.bitAnd i j)) fun _ _ => rfl) (sm_var 3) (sm_op (f1 := false) (f2 := false) (opd_I0 (g' := fun i j => .int (i - j)) fun _ _ => rfl) (sm_var 2) (sm_var 6))))
 (sms_seq (sms_aug (f1 := false) 5 (sm_op (f1 := false) (f2 := false) (opd_I0 (g' := fun i j => .int (Builtin.bitAnd i j)) fun _ _ => rfl) (sm_var 3) (sm_var 6)))
 (sms_seq (sms_if (smt_tru (f1 := false) (sm_op (f1 := false) (f2 := false) (opd_I0 (g' := fun i j => .int (Builtin.bitAnd i j)) fun _ _ => rfl) (sm_var 4) (sm_var 5)))
 (sms_ret sm_non)
 sms_next)
 (sms_seq (sms_asg (sm_cb (f1 := false) cbd_max (sma_cons (sm_var 6) (sma_cons (sm_var 5) sma_nil))) (smg_name 6))
 (sms_seq (sms_asg (sm_cb (f1 := false) cbd_min (sma_cons (sm_var 7) (sma_cons (sm_op (f1 := false) (f2 := false) (opd_I0 (g' := fun i j => .int (i - j)) fun _ _ => rfl) (sm_var 2) (sm_var 4)) sma_nil))) (smg_name 7))
 (sms_seq (sms_if (smt_t (f1 := false) (sm_op (f1 := false) (f2 := false) (opd_I0 (g' := fun i j => .bool (decide (j < i))) fun _ _ => rfl) (sm_var 6) (sm_var 7)))
 (sms_ret sm_non)
 sms_next)
 (sms_seq (sms_if (smt_t (f1 := false) (sm_op (f1 := false) (f2 := false) opd_eq (sm_var 6) (sm_var 7)))
 (sms_seq (sms_if (smt_or (smt_tru (f1 := false) (sm_op (f1 := false) (f2 := false) (opd_I0 (g' := fun i j => .int (Builtin.bitAnd i j)) fun _ _ => rfl) (sm_var 6) (sm_var 4))) (smt_t (f1 := false) (sm_op (f1 := false) (f2 := false) opd_ne (sm_op (f1 := false) (f2 := false) (opd_I0 (g' := fun i j => .int (Builtin.bitAnd i j)) fun _ _ => rfl) (sm_var 6) (sm_var 5)) (sm_var 5))))
 (sms_ret sm_non)
 sms_next)
 (sms_ret (sm_call len_single (smq_cons (sm_var 0) (smq_cons (sm_var 6) smq_nil)))))
 sms_next)
 (sms_ret (sm_tup (sma_cons (sm_var 6) (sma_cons (sm_var 7) (sma_cons (sm_var 4) (sma_cons (sm_var 5) sma_nil))))))))))))))))), ?_⟩
  rintro rs Φ (⟨k, w, x, rfl, hk, hlt, h⟩ | ⟨k, w, a, rfl, hk, ha, h⟩)
  · refine seq_op fun N hN => ?_
    simp [startD, ri]
    refine hN _ ?_
    clear hN N
    refine seq_op fun N hN => ?_
    simp
    refine ⟨k, w, rfl, hk, hN _ ?_⟩
    clear hN N
    simp only [data_d]
    refine seq_op fun N hN => ?_
    simp [hlt]
    exact h
  refine seq_op fun N hN => ?_
  simp [startD, rg]
  refine hN _ ?_
  clear hN N
  refine seq_op fun N hN => ?_
  simp
  refine ⟨k, w, rfl, hk, hN _ ?_⟩
  clear hN N
  simp only [data_d]
  refine seq_op fun N hN => ?_
  refine dIfS_two (fun b => b = decide (a.h < a.l ∨ a.z &&& a.o ≠ 0)) (fun Ψ hΨ => ?_) (fun hb => ?_) (fun hb => ?_)
  · simp only [dOr, dB, dTru, dOp, dVar, gI0]
    simp [bA]
    by_cases c1 : a.h < a.l
    · simp [c1] at hΨ ⊢
      exact hΨ
    · simp only [if_neg c1]
      refine hΨ _ ?_
      by_cases c2 : a.z &&& a.o = 0
      · simp [c1, c2]
      · simp [c1, c2]
  · have hb : a.h < a.l ∨ a.z &&& a.o ≠ 0 := by simpa using hb
    unfold tgt at h
    rw [if_pos hb] at h
    simpa using h
  have hb : ¬ (a.h < a.l ∨ a.z &&& a.o ≠ 0) := by simpa using hb
  simp only [dNext]
  refine hN _ ?_
  clear hN N
  have h1 := ha.1
  have hw := hk.2.2
  have hbw := bits_le (Nat.xor_lt_two_pow ha.1 ha.2.1)
  have hp1 := Nat.pow_le_pow_right (n := 2) (by decide) hbw
  have hp2 := Nat.two_pow_pos (bitN (a.l ^^^ a.h))
  have hp3 := Nat.two_pow_pos w
  have efix : ((2 ^ w - 1 : Nat) : Int) - ((2 : Int) ^ (bitN (a.l ^^^ a.h)) - 1) = ((fixN w a.l a.h : Nat) : Int) := by
    rw [pw_nat]
    unfold fixN
    omega
  have etl : ((2 ^ w - 1 : Nat) : Int) - (a.l : Int) = ((2 ^ w - 1 - a.l : Nat) : Int) := by omega
  refine seq_op fun N hN => ?_
  simp [xorN]
  rw [show Builtin.Int.intBits ((a.l ^^^ a.h : Nat) : Int) = bitN (a.l ^^^ a.h) from rfl]
  refine ⟨cp1 (by omega) (by omega), ?_⟩
  rw [efix]
  refine hN _ ?_
  clear hN N
  refine seq_op fun N hN => ?_
  simp [etl, bA, bO]
  refine hN _ ?_
  clear hN N
  refine seq_op fun N hN => ?_
  simp [bA, bO]
  refine hN _ ?_
  clear hN N
  rw [show a.z ||| (fixN w a.l a.h &&& (2 ^ w - 1 - a.l)) = zOf w a from rfl, show a.o ||| (fixN w a.l a.h &&& a.l) = oOf w a from rfl]
  have zl := z_lt ha
  have ol := o_lt ha
  unfold tgt at h
  rw [if_neg hb] at h
  refine seq_op fun N hN => ?_
  refine dIfS_two (fun b => b = decide (zOf w a &&& oOf w a ≠ 0)) (fun Ψ hΨ => ?_) (fun hb => ?_) (fun hb => ?_)
  · simp [bA]
    refine hΨ _ ?_
    by_cases c2 : zOf w a &&& oOf w a = 0
    · simp [c2]
    · simp [c2]
  · have hb : zOf w a &&& oOf w a ≠ 0 := by simpa using hb
    rw [if_pos hb] at h
    simpa using h
  have hb2 : ¬ zOf w a &&& oOf w a ≠ 0 := by simpa using hb
  rw [if_neg hb2] at h
  simp only [dNext]
  refine hN _ ?_
  clear hN N
  have emax : (if a.l < oOf w a then ((oOf w a : Nat) : Int) else (a.l : Int)) = ((max a.l (oOf w a) : Nat) : Int) := by split <;> omega
  have emin : (if ((2 ^ w - 1 : Nat) : Int) - ((zOf w a : Nat) : Int) < (a.h : Int) then ((2 ^ w - 1 : Nat) : Int) - ((zOf w a : Nat) : Int) else (a.h : Int)) = ((min a.h (2 ^ w - 1 - zOf w a) : Nat) : Int) := by split <;> omega
  refine seq_op fun N hN => ?_
  simp
  rw [emax]
  refine hN _ ?_
  clear hN N
  refine seq_op fun N hN => ?_
  simp [emin]
  refine hN _ ?_
  clear hN N
  have lw : max a.l (oOf w a) < 2 ^ w := by omega
  have hwv : min a.h (2 ^ w - 1 - zOf w a) < 2 ^ w := by omega
  generalize max a.l (oOf w a) = l at lw h
  generalize min a.h (2 ^ w - 1 - zOf w a) = u at hwv h
  refine seq_op fun N hN => ?_
  refine dIfS_two (fun b => b = decide (u < l)) (fun Ψ hΨ => ?_) (fun hb => ?_) (fun hb => ?_)
  · simp
    exact hΨ _ rfl
  · have hb : u < l := by simpa using hb
    rw [if_pos hb] at h
    simpa using h
  have hb3 : ¬ u < l := by simpa using hb
  rw [if_neg hb3] at h
  simp only [dNext]
  refine hN _ ?_
  clear hN N
  refine seq_op fun N hN => ?_
  refine dIfS_two (fun b => b = decide (l = u)) (fun Ψ hΨ => ?_) (fun hb => ?_) (fun hb => ?_)
  · simp
    refine hΨ _ ?_
    rw [Bool.eq_iff_iff]
    simp
    omega
  · have hb : l = u := by simpa using hb
    rw [if_pos hb] at h
    refine seq_op fun M hM => ?_
    refine dIfS_two (fun b => b = decide (l &&& zOf w a ≠ 0 ∨ l &&& oOf w a ≠ oOf w a)) (fun Ψ hΨ => ?_) (fun hb => ?_) (fun hb => ?_)
    · simp only [dOr, dB, dTru, dOp, dVar, gI0]
      simp [bA]
      by_cases c1 : l &&& zOf w a = 0
      · simp only [if_pos c1]
        by_cases c2 : l &&& oOf w a = oOf w a
        · exact .inl ⟨by rw [c2], hΨ _ (by simp [c1, c2])⟩
        · exact .inr ⟨fun e => c2 (Int.ofNat_inj.mp e), hΨ _ (by simp [c1, c2])⟩
      · simp only [if_neg c1]
        exact hΨ _ (by simp [c1])
    · have hb : l &&& zOf w a ≠ 0 ∨ l &&& oOf w a ≠ oOf w a := by simpa using hb
      rw [if_pos hb] at h
      simpa using h
    have hb4 : ¬ (l &&& zOf w a ≠ 0 ∨ l &&& oOf w a ≠ oOf w a) := by simpa using hb
    rw [if_neg hb4] at h
    simp only [dNext]
    refine hM _ ?_
    simp
    exact ⟨k, w, l, rfl, hk, lw, h⟩
  have hb4 : ¬ l = u := by simpa using hb
  rw [if_neg hb4] at h
  simp only [dNext]
  refine hN _ ?_
  simp [le_size, lt_size, cmul_l, cpow_l, cdiv_l]
  exact h


/-! normal: made tight until nothing changes -/
def NormOk (w : Nat) (a : Rg) : Option Rg → Prop
  | none => ∀ v, v < 2 ^ w → ¬ Mem v a
  | some b => Cl w a b ∧ Good w b ∧ Kn w a.l a.h b
instance rgDec : DecidableEq Rg := fun a b => decidable_of_iff (a.l = b.l ∧ a.h = b.h ∧ a.z = b.z ∧ a.o = b.o) (by
  cases a
  cases b
  simp)
def rgO : Option Rg → PyData
  | none => .none
  | some b => rg b
def nextM (w : Nat) (c : Rg) : Option Rg → Nat
  | none => 0
  | some b => if b = c then 0 else meas w b + 1
theorem rg_okd (a : Rg) : Okd 1 (rg a) := .tuple (fun y hy => by
  simp at hy
  rcases hy with rfl | rfl | rfl | rfl <;> exact .int _) (by simp)
theorem rg_sh (a : Rg) : SeqAt.shaped (rg a) = true := (rg_okd a).shaped (by decide)
theorem rg_eqv (a b : Rg) : PyData.eqv (rg a) (rg b) = decide (a = b) := by
  obtain ⟨a1, a2, a3, a4⟩ := a
  obtain ⟨b1, b2, b3, b4⟩ := b
  rw [Bool.eq_iff_iff]
  simp [rg, PyData.eqv, PyData.eqvAll]
  omega
theorem rg_none (a : Rg) : PyData.eqv (rg a) .none = false := by simp [rg, PyData.eqv]
theorem Kn.mono {w l h : Nat} {a b : Rg} (k : Kn w l h a) (c : Cl w a b) : Kn w l h b := fun i hi hb => by
  have := k i hi hb
  rw [Nat.testBit_or, Bool.or_eq_true] at this ⊢
  rcases this with this | this
  · exact .inl (sup_iff.mp c.z i this)
  · exact .inr (sup_iff.mp c.o i this)

/-- what making tight again and again comes to -/
inductive Nm (w : Nat) : Rg → Option Rg → Prop
  | none {a : Rg} (h : tgt w a = none) : Nm w a none
  | fix {a : Rg} (h : tgt w a = some a) : Nm w a (some a)
  | step {a b : Rg} {r : Option Rg} (h : tgt w a = some b) (n : b ≠ a) (k : Nm w b r) : Nm w a r
theorem Nm.uniq {w : Nat} {a : Rg} {r q : Option Rg} (h : Nm w a r) : Nm w a q → r = q := by
  induction h with
  | none h =>
    intro k
    cases k with
    | none _ => rfl
    | fix h2 => rw [h] at h2; cases h2
    | step h2 _ _ => rw [h] at h2; cases h2
  | fix h =>
    intro k
    cases k with
    | none h2 => rw [h] at h2; cases h2
    | fix _ => rfl
    | step h2 n _ => rw [h] at h2; cases h2; exact absurd rfl n
  | step h n _ ih =>
    intro k
    cases k with
    | none h2 => rw [h] at h2; cases h2
    | fix h2 => rw [h] at h2; cases h2; exact absurd rfl n
    | step h2 _ k => rw [h] at h2; cases h2; exact ih k
theorem Nm.total {w : Nat} : ∀ (m : Nat) (a : Rg), InW w a → meas w a < m → ∃ r, Nm w a r
  | 0, _, _, h => absurd h (Nat.not_lt_zero _)
  | m + 1, a, ha, hm => by
    cases e : tgt w a with
    | none => exact ⟨_, .none e⟩
    | some b =>
      by_cases c : b = a
      · subst c; exact ⟨_, .fix e⟩
      · obtain ⟨t1, t2, _⟩ := tgt_some ha e
        obtain ⟨r, hr⟩ := Nm.total m b t1.i (by have := meas_lt t1 t2.le c; omega)
        exact ⟨r, .step e c hr⟩
theorem Nm.ok {w : Nat} {a : Rg} {r : Option Rg} (h : Nm w a r) : InW w a → NormOk w a r := by
  induction h with
  | none h => exact fun ha => tgt_none ha h
  | fix h =>
    intro ha
    obtain ⟨t1, t2, t3⟩ := tgt_some ha h
    exact ⟨t1, t2, t3⟩
  | @step a b r h n _ ih =>
    intro ha
    obtain ⟨t1, t2, t3⟩ := tgt_some ha h
    have := ih t1.i
    cases r with
    | none => exact fun v hv hm => this v hv (t1.m v hv hm)
    | some c => exact ⟨t1.trans this.1, this.2.1, t3.mono this.1⟩
/-- of a range that may be out of bounds -/
def NXok (w : Nat) (x : Ri) : Prop := x.h < x.l ∨ ∃ a, InW w a ∧ x = a.ri
def NX (w : Nat) (x : Ri) (r : Option Rg) : Prop := (x.h < x.l ∧ r = none) ∨ ∃ a, InW w a ∧ x = a.ri ∧ Nm w a r
theorem ri_inj {a b : Rg} (h : a.ri = b.ri) : a = b := by
  cases a
  cases b
  simp [Rg.ri] at h
  obtain ⟨h1, h2, h3, h4⟩ := h
  have := Int.ofNat_inj.mp h1
  have := Int.ofNat_inj.mp h2
  simp_all
theorem tgt_bad {w : Nat} {a : Rg} (h : a.ri.h < a.ri.l) : tgt w a = none := by
  unfold tgt
  have : a.h < a.l := by
    have h : (a.h : Int) < (a.l : Int) := h
    omega
  rw [if_pos (.inl this)]
theorem NX.uniq {w : Nat} {x : Ri} {r q : Option Rg} (h : NX w x r) (k : NX w x q) : r = q := by
  rcases h with ⟨h1, rfl⟩ | ⟨a, ha, rfl, h⟩ <;> rcases k with ⟨k1, rfl⟩ | ⟨b, hb, e, k⟩
  · rfl
  · rw [e] at h1
    exact (Nm.none (tgt_bad h1)).uniq k
  · exact h.uniq (Nm.none (tgt_bad k1))
  · rw [ri_inj e] at h
    exact h.uniq k
theorem NX.total {w : Nat} {x : Ri} (h : NXok w x) : ∃ r, NX w x r := by
  rcases h with h | ⟨a, ha, rfl⟩
  · exact ⟨none, .inl ⟨h, rfl⟩⟩
  · obtain ⟨r, hr⟩ := Nm.total (meas w a + 1) a ha (by omega)
    exact ⟨r, .inr ⟨a, ha, rfl, hr⟩⟩
def Nxt (w : Nat) (c : Rg) (r q : Option Rg) : Prop := match r with
  | none => q = none
  | some b => if b = c then q = some b else Nm w b q
theorem nxt_nm {w : Nat} {c : Rg} {r q : Option Rg} (h : tgt w c = r) (k : Nxt w c r q) : Nm w c q := by
  cases r with
  | none =>
    have k : q = none := k
    subst k
    exact .none h
  | some b =>
    by_cases e : b = c
    · have k : if b = c then q = some b else Nm w b q := k
      rw [if_pos e] at k
      subst k e
      exact .fix h
    · have k : if b = c then q = some b else Nm w b q := k
      rw [if_neg e] at k
      exact .step h e k
def vp_normal : VSp := fun rs Φ => ∃ (k : Str) (w : Nat) (x : Ri), rs = [.d (.str k), .d (ri x)] ∧ KW k w ∧ NXok w x ∧ ∀ r : Option Rg, NX w x r → Φ (.d (rgO r))
theorem len_normal : ∀ rs Φ, vp_normal rs Φ → rs.length = 2 := fun rs Φ ⟨_, _, _, e, _⟩ => by rw [e]; rfl
theorem ri_sh (x : Ri) : SeqAt.shaped (ri x) = true := (Okd.tuple (n := 0) (xs := [.int x.l, .int x.h, .int x.z, .int x.o]) (fun y hy => by
  simp at hy
  rcases hy with rfl | rfl | rfl | rfl <;> exact .int _) (by simp)).shaped (by decide)
theorem G_normal (T : Txt K mg w) : FnOk P w K mg base CX0 5 T.f_normal T.fd_normal ["kind", "bounds"] (toSp K 2 vp_normal) := by
  refine fn_ok T.F_normal sc_normal fun cdv A outer s H E hr => ⟨_, (pss_cons (ps_set (i := 2) sc_normal.nd rfl (Or.inl rfl) pe_non)
 (pss_cons (ps_while PassesOwn.never (PW.pt (pw_and (pt_cmpR op_notN (pv 1) pe_non (nomark _)) (pw_and1 (pt_cmpR (kx_neD (K := K) rfl hr.units) (pv 1) (pv 2) (nomark _))))) (pss_cons (ps_set (i := 2) sc_normal.nd rfl (Or.inl rfl) (pv 1))
 (pss_one (ps_set (i := 1) sc_normal.nd rfl (Or.inl rfl) (pe_call (G__tightened T) hr (by rfl) T.g__tightened T.F__tightened.kp T.b__tightened .nil pass0 (pa_cons (pv 0) (pa_cons (pv 1) pa_nil)))))))
 (pss_one (ps_ret (pv 1))))), _, fun ex He Hf => (sms_seq (sms_asg sm_non (smg_name 2))
 (sms_seq (sms_while (smt_and (smt_t (f1 := false) (sm_op (f1 := false) (f2 := false) opd_notN (sm_var 1) sm_non)) (smt_t (f1 := false) (sm_op (f1 := false) (f2 := false) opd_neD (sm_var 1) (sm_var 2))))
 (sms_seq (sms_asg (sm_var 1) (smg_name 2))
 (sms_asg (sm_call len__tightened (smq_cons (sm_var 0) (smq_cons (sm_var 1) smq_nil))) (smg_name 1))))
 (sms_ret (sm_var 1)))), ?_⟩
  rintro rs Φ ⟨k, w, x, rfl, hk, hx, h⟩
  refine seq_op fun N hN => ?_
  simp [startD]
  refine hN _ ?_
  clear hN N
  refine seq_op fun N hN => ?_
  rcases hx with hx | ⟨a, ha, rfl⟩
  · -- out of order: none at once
    obtain ⟨I, hI⟩ : ∃ I : Nat → Dl → Prop, ∀ m δ, I m δ ↔ (m = 1 ∧ δ = [some (.d (.str k)), some (.d (ri x)), some (.d .none)]) ∨ (m = 0 ∧ δ = [some (.d (.str k)), some (.d .none), some (.d (ri x))]) := ⟨_, fun _ _ => Iff.rfl⟩
    refine dWhile_by I ⟨_, (hI _ _).mpr (.inl ⟨rfl, rfl⟩)⟩ fun m δ hJ => ?_
    rcases (hI _ _).mp hJ with ⟨rfl, rfl⟩ | ⟨rfl, rfl⟩
    · refine ⟨fun b => b = true, fun Ψ hΨ => ?_, fun _ => ?_, fun z => by cases z⟩
      · have := ri_sh x
        simp only [ri] at this
        simp [ri, this, PyData.eqv]
        exact ⟨rfl, hΨ _ rfl⟩
      · refine seq_op fun M hM => ?_
        simp
        refine hM _ ?_
        clear hM M
        simp
        refine .inl ⟨k, w, x, rfl, hk, hx, (hI _ _).mpr (.inr ⟨rfl, rfl⟩)⟩
    · refine ⟨fun b => b = false, fun Ψ hΨ => ?_, (fun z => by cases z), fun _ => hN _ ?_⟩
      · simp
        exact hΨ _ rfl
      · simp
        exact h none (.inl ⟨hx, rfl⟩)
  rw [ri_rg]
  have h : ∀ r, Nm w a r → Φ (.d (rgO r)) := fun r hr => h r (.inr ⟨a, ha, rfl, hr⟩)
  obtain ⟨I, hI⟩ : ∃ I : Nat → Dl → Prop, ∀ m δ, I m δ ↔ (m = meas w a + 1 ∧ δ = [some (.d (.str k)), some (.d (rg a)), some (.d .none)]) ∨ ∃ (c : Rg) (r : Option Rg), InW w c ∧ tgt w c = r ∧ (∀ q, Nxt w c r q → Nm w a q) ∧ m = nextM w c r ∧ m ≤ meas w a ∧ δ = [some (.d (.str k)), some (.d (rgO r)), some (.d (rg c))] := ⟨_, fun _ _ => Iff.rfl⟩
  refine dWhile_by I ⟨_, (hI _ _).mpr (.inl ⟨rfl, rfl⟩)⟩ fun m δ hJ => ?_
  -- one turn from c
  have turn : ∀ (c : Rg) (y2 : PyData), InW w c → meas w c ≤ meas w a → (∀ q, Nm w c q → Nm w a q) →
      (dSeq (dAsg (dVar 1) (dgName 2)) (dAsg (dCall vp__tightened (qCons (dVar 0) (qCons (dVar 1) qNil))) (dgName 1))) { nx := fun δ'' => ∃ m', m' < meas w c + 1 ∧ I m' δ'', rt := Φ, ct := fun δ'' => ∃ m', m' < meas w c + 1 ∧ I m' δ'', bk := N } [some (.d (.str k)), some (.d (rg c)), some (.d y2)] := by
    intro c y2 hc hm hq
    refine seq_op fun M hM => ?_
    simp
    refine hM _ ?_
    clear hM M
    simp
    refine .inr ⟨k, w, c, rfl, hk, hc, ?_⟩
    cases ht : tgt w c with
    | none =>
      exact ⟨0, by omega, (hI _ _).mpr (.inr ⟨c, none, hc, ht, fun q hn => hq q (nxt_nm ht hn), rfl, by omega, rfl⟩)⟩
    | some b =>
      obtain ⟨t1, t2, t3⟩ := tgt_some hc ht
      by_cases e : b = c
      · exact ⟨0, by omega, (hI _ _).mpr (.inr ⟨c, some b, hc, ht, fun q hn => hq q (nxt_nm ht hn), by rw [nextM, if_pos e], by omega, rfl⟩)⟩
      · have := meas_lt t1 t2.le e
        exact ⟨meas w b + 1, by omega, (hI _ _).mpr (.inr ⟨c, some b, hc, ht, fun q hn => hq q (nxt_nm ht hn), by rw [nextM, if_neg e], by omega, rfl⟩)⟩
  rcases (hI _ _).mp hJ with ⟨rfl, rfl⟩ | ⟨c, r, hc, ht, ok, rfl, hm, rfl⟩
  · refine ⟨fun b => b = true, fun Ψ hΨ => ?_, fun _ => turn a .none ha (Nat.le_refl _) (fun q hq => hq), fun z => by cases z⟩
    have := rg_sh a
    have e := rg_none a
    simp only [rg] at this e
    simp [rg, this, e]
    exact ⟨rfl, hΨ _ rfl⟩
  · cases r with
    | none =>
      refine ⟨fun b => b = false, fun Ψ hΨ => ?_, (fun z => by cases z), fun _ => hN _ ?_⟩
      · simp [rgO]
        exact hΨ _ rfl
      · simp
        exact h none (ok none rfl)
    | some b =>
      by_cases e : b = c
      · have ok' := ok (some b) (by show if b = c then some b = some b else _; rw [if_pos e])
        subst e
        refine ⟨fun b => b = false, fun Ψ hΨ => ?_, (fun z => by cases z), fun _ => hN _ ?_⟩
        · have := rg_sh b
          have e := rg_eqv b b
          rw [decide_eq_true rfl] at e
          simp only [rg] at this e
          simp [rgO, rg, this, e]
          exact hΨ _ rfl
        · simp
          exact h (some b) ok'
      · rw [nextM, if_neg e] at hm ⊢
        refine ⟨fun b => b = true, fun Ψ hΨ => ?_, fun _ => turn b (rg c) (tgt_some hc ht).1.i (by omega) (fun q hq => ok q (by show if b = c then q = some b else Nm w b q; rw [if_neg e]; exact hq)), (fun z => by cases z)⟩
        have s1 := rg_sh b
        have s2 := rg_sh c
        have e := rg_eqv b c
        rw [decide_eq_false ‹_›] at e
        simp only [rg] at s1 s2 e
        simp [rgO, rg, s1, s2, e]
        exact hΨ _ rfl

def vp_half_of : VSp := fun rs Φ => ∃ (k : Str) (w : Nat), rs = [.d (.str k)] ∧ (k, .int w) ∈ L__WIDTHS ∧ 1 ≤ w ∧ w ≤ 64 ∧ Φ (.d (.int ((2 ^ (w - 1) : Nat) : Int)))
theorem len_half_of : ∀ rs Φ, vp_half_of rs Φ → rs.length = 1 := fun rs Φ ⟨_, _, e, _⟩ => by rw [e]; rfl
theorem G_half_of (T : Txt K mg w) : FnOk P w K mg base CX0 2 T.f_half_of T.fd_half_of ["kind"] (toSp K 1 vp_half_of) := by
  refine fn_ok T.F_half_of sc_half_of fun cdv A outer s H E hr => ⟨_, (pss_one (ps_ret (pe_op op_shl pe_int (pe_op op_sub (pe_call (G_width T) hr (by rfl) T.g_width T.F_width.kp T.b_width .nil pass0 (pa_cons (pv 0) pa_nil)) pe_int)))), _, fun ex He Hf => (sms_ret (sm_op (f1 := false) (f2 := false) (opd_I (g' := fun i j => .int (i * 2 ^ j.toNat)) fun _ _ => rfl) (sm_int _) (sm_op (f1 := false) (f2 := false) (opd_I0 (g' := fun i j => .int (i - j)) fun _ _ => rfl) (sm_call len_width (smq_cons (sm_var 0) smq_nil)) (sm_int _)))), ?_⟩
  rintro rs Φ ⟨k, w, rfl, hk, h1, h2, h⟩
  rw [PySem.W.kbt_cast] at h
  have e1 : ((w : Int) - 1).toNat = w - 1 := by omega
  simp
  refine ⟨k, _, rfl, hk, ?_⟩
  simp [e1]
  exact ⟨cp1 (by omega) (by omega), h⟩

def vp_is_single : VSp := fun rs Φ => ∃ a : Rg, rs = [.d (rg a)] ∧ Φ (.d (.bool (decide (a.l = a.h))))
theorem len_is_single : ∀ rs Φ, vp_is_single rs Φ → rs.length = 1 := fun rs Φ ⟨_, e, _⟩ => by rw [e]; rfl
theorem G_is_single (T : Txt K mg w) : FnOk P w K mg base CX0 1 T.f_is_single T.fd_is_single ["bounds"] (toSp K 1 vp_is_single) := by
  refine fn_ok T.F_is_single sc_is_single fun cdv A outer s H E hr => ⟨_, (pss_one (ps_ret (pe_and (pe_cmpR op_notN (pv 0) pe_non (nomark _)) (pe_one (pe_cmpR op_eq (pe_ix (kx_seq (K := K) rfl) (pv 0) pe_int (fun _ _ => rfl)) (pe_ix (kx_seq (K := K) rfl) (pv 0) pe_int (fun _ _ => rfl)) (nomark _)))))), _, fun ex He Hf => (sms_ret (sm_and (f1 := false) (sm_op (f1 := false) (f2 := false) opd_notN (sm_var 0) sm_non) (sm_op (f1 := false) (f2 := false) opd_eq (sm_ix (f2 := false) (sm_var 0) (sm_int _)) (sm_ix (f2 := false) (sm_var 0) (sm_int _))))), ?_⟩
  rintro rs Φ ⟨a, rfl, h⟩
  simp [rg]
  rw [show decide (a.l = a.h) = decide ((a.l : Int) = (a.h : Int)) from decide_eq_decide.mpr Int.ofNat_inj.symm] at h
  exact h

def oS (r : Str) : Int := if r = "lt" then 1 else 0
def ord1 (s : Int) (a b : Rg) : Ri := ⟨a.l, if (b.h : Int) - s < (a.h : Int) then (b.h : Int) - s else (a.h : Int), a.z, a.o⟩
def ord2 (s : Int) (a b : Rg) : Ri := ⟨if (b.l : Int) < (a.l : Int) + s then (a.l : Int) + s else (b.l : Int), b.h, b.z, b.o⟩
def wo (a b : Rg) : Ri := if b.l = b.h then ⟨(a.l : Int) + (if a.l = b.l then 1 else 0), (a.h : Int) - (if a.h = b.l then 1 else 0), a.z, a.o⟩ else a.ri
def eqi (a b : Rg) : Ri := ⟨(max a.l b.l : Nat), (min a.h b.h : Nat), a.z ||| b.z, a.o ||| b.o⟩
theorem ri_mk (l h : Int) (z o : Nat) : ri ⟨l, h, z, o⟩ = .tuple [.int l, .int h, .int z, .int o] := rfl
def vp__ordered : VSp := fun rs Φ => ∃ (r : Str) (a b : Rg), rs = [.d (.str r), .d (rg a), .d (rg b)] ∧ Φ (.d (.tuple [ri (ord1 (oS r) a b), ri (ord2 (oS r) a b)]))
theorem len__ordered : ∀ rs Φ, vp__ordered rs Φ → rs.length = 3 := fun rs Φ ⟨_, _, _, e, _⟩ => by rw [e]; rfl
theorem G__ordered (T : Txt K mg w) : FnOk P w K mg base CX0 1 T.f__ordered T.fd__ordered ["relation", "a", "b"] (toSp K 3 vp__ordered) := by
  refine fn_ok T.F__ordered sc__ordered fun cdv A outer s H E hr => ⟨_, (pss_cons (ps_set (i := 3) sc__ordered.nd rfl (Or.inl rfl) (pe_ifExp (pt_cmpR op_eq (pv 0) pe_str (nomark _)) pe_int pe_int))
 (pss_cons (ps_set (i := 4) sc__ordered.nd rfl (Or.inl rfl) (pe_tup (pa_cons (pe_ix (kx_seq (K := K) rfl) (pv 1) pe_int (fun _ _ => rfl)) (pa_cons (pe_callB (call_min2 rfl) (by rfl) T.min (by decide +kernel) (pa_cons (pe_ix (kx_seq (K := K) rfl) (pv 1) pe_int (fun _ _ => rfl)) (pa_cons (pe_op op_sub (pe_ix (kx_seq (K := K) rfl) (pv 2) pe_int (fun _ _ => rfl)) (pv 3)) pa_nil))) (pa_cons (pe_ix (kx_seq (K := K) rfl) (pv 1) pe_int (fun _ _ => rfl)) (pa_cons (pe_ix (kx_seq (K := K) rfl) (pv 1) pe_int (fun _ _ => rfl)) pa_nil))))))
 (pss_cons (ps_set (i := 5) sc__ordered.nd rfl (Or.inl rfl) (pe_tup (pa_cons (pe_callB (call_max2 rfl) (by rfl) T.max (by decide +kernel) (pa_cons (pe_ix (kx_seq (K := K) rfl) (pv 2) pe_int (fun _ _ => rfl)) (pa_cons (pe_op op_add (pe_ix (kx_seq (K := K) rfl) (pv 1) pe_int (fun _ _ => rfl)) (pv 3)) pa_nil))) (pa_cons (pe_ix (kx_seq (K := K) rfl) (pv 2) pe_int (fun _ _ => rfl)) (pa_cons (pe_ix (kx_seq (K := K) rfl) (pv 2) pe_int (fun _ _ => rfl)) (pa_cons (pe_ix (kx_seq (K := K) rfl) (pv 2) pe_int (fun _ _ => rfl)) pa_nil))))))
 (pss_one (ps_ret (pe_tup (pa_cons (pv 4) (pa_cons (pv 5) pa_nil)))))))), _, fun ex He Hf => (sms_seq (sms_asg (sm_if (smt_t (f1 := false) (sm_op (f1 := false) (f2 := false) opd_eq (sm_var 0) (sm_str _))) (sm_int _) (sm_int _)) (smg_name 3))
 (sms_seq (sms_asg (sm_tup (sma_cons (sm_ix (f2 := false) (sm_var 1) (sm_int _)) (sma_cons (sm_cb (f1 := false) cbd_min (sma_cons (sm_ix (f2 := false) (sm_var 1) (sm_int _)) (sma_cons (sm_op (f1 := false) (f2 := false) (opd_I0 (g' := fun i j => .int (i - j)) fun _ _ => rfl) (sm_ix (f2 := false) (sm_var 2) (sm_int _)) (sm_var 3)) sma_nil))) (sma_cons (sm_ix (f2 := false) (sm_var 1) (sm_int _)) (sma_cons (sm_ix (f2 := false) (sm_var 1) (sm_int _)) sma_nil))))) (smg_name 4))
 (sms_seq (sms_asg (sm_tup (sma_cons (sm_cb (f1 := false) cbd_max (sma_cons (sm_ix (f2 := false) (sm_var 2) (sm_int _)) (sma_cons (sm_op (f1 := false) (f2 := false) (opd_I0 (g' := fun i j => .int (i + j)) fun _ _ => rfl) (sm_ix (f2 := false) (sm_var 1) (sm_int _)) (sm_var 3)) sma_nil))) (sma_cons (sm_ix (f2 := false) (sm_var 2) (sm_int _)) (sma_cons (sm_ix (f2 := false) (sm_var 2) (sm_int _)) (sma_cons (sm_ix (f2 := false) (sm_var 2) (sm_int _)) sma_nil))))) (smg_name 5))
 (sms_ret (sm_tup (sma_cons (sm_var 4) (sma_cons (sm_var 5) sma_nil))))))), ?_⟩
  rintro rs Φ ⟨r, a, b, rfl, h⟩
  refine seq_op fun N hN => ?_
  simp only [dAsg, dIf]
  have : N [some (.d (.str r)), some (.d (rg a)), some (.d (rg b)), some (.d (.int (oS r))), none, none] := by
    refine hN _ ?_
    clear hN N
    refine seq_op fun N hN => ?_
    simp [rg, le_size, lt_size, cmul_l, cpow_l, cdiv_l]
    refine hN _ ?_
    clear hN N
    refine seq_op fun N hN => ?_
    simp [rg, le_size, lt_size, cmul_l, cpow_l, cdiv_l]
    refine hN _ ?_
    clear hN N
    simp [le_size, lt_size, cmul_l, cpow_l, cdiv_l]
    exact h
  by_cases c : r = "lt"
  · simp [oS, c] at this
    simp [startD, c]
    exact this
  · simp [oS, c] at this
    simp [startD, c]
    exact this
def vp__without : VSp := fun rs Φ => ∃ (a b : Rg), rs = [.d (rg a), .d (rg b)] ∧ Φ (.d (ri (wo a b)))
theorem len__without : ∀ rs Φ, vp__without rs Φ → rs.length = 2 := fun rs Φ ⟨_, _, e, _⟩ => by rw [e]; rfl
theorem G__without (T : Txt K mg w) : FnOk P w K mg base CX0 2 T.f__without T.fd__without ["a", "b"] (toSp K 2 vp__without) := by
  refine fn_ok T.F__without sc__without fun cdv A outer s H E hr => ⟨_, (pss_cons (ps_asg (pv 0) (pg_tup (n := 4) rfl (pgs_cons (pg_name (i := 2) sc__without.nd rfl (Or.inl rfl)) (pgs_cons (pg_name (i := 3) sc__without.nd rfl (Or.inl rfl)) (pgs_cons (pg_name (i := 4) sc__without.nd rfl (Or.inl rfl)) (pgs_cons (pg_name (i := 5) sc__without.nd rfl (Or.inl rfl)) pgs_nil))))))
 (pss_cons (ps_if (pt_val (pe_call (G_is_single T) hr (by rfl) T.g_is_single T.F_is_single.kp T.b_is_single .nil pass0 (pa_cons (pv 1) pa_nil))) (pss_cons (ps_if (pt_cmpR op_eq (pv 2) (pe_ix (kx_seq (K := K) rfl) (pv 1) pe_int (fun _ _ => rfl)) (nomark _)) (pss_one (ps_aug (i := 2) sc__without.nd rfl (Or.inl rfl) pe_int ip_add)) pss_nil)
 (pss_one (ps_if (pt_cmpR op_eq (pv 3) (pe_ix (kx_seq (K := K) rfl) (pv 1) pe_int (fun _ _ => rfl)) (nomark _)) (pss_one (ps_aug (i := 3) sc__without.nd rfl (Or.inl rfl) pe_int ip_sub)) pss_nil))) pss_nil)
 (pss_one (ps_ret (pe_tup (pa_cons (pv 2) (pa_cons (pv 3) (pa_cons (pv 4) (pa_cons (pv 5) pa_nil))))))))), _, fun ex He Hf => (sms_seq (sms_asg (sm_var 0) (smg_tup (smg_cons (smg_name 2) (smg_cons (smg_name 3) (smg_cons (smg_name 4) (smg_cons (smg_name 5) smg_nil))))))
 (sms_seq (sms_if (smt_b (f1 := false) (sm_call len_is_single (smq_cons (sm_var 1) smq_nil)))
 (sms_seq (sms_if (smt_t (f1 := false) (sm_op (f1 := false) (f2 := false) opd_eq (sm_var 2) (sm_ix (f2 := false) (sm_var 1) (sm_int _))))
 (sms_aug (f1 := false) 2 (sm_int _))
 sms_next)
 (sms_if (smt_t (f1 := false) (sm_op (f1 := false) (f2 := false) opd_eq (sm_var 3) (sm_ix (f2 := false) (sm_var 1) (sm_int _))))
 (sms_aug (f1 := false) 3 (sm_int _))
 sms_next))
 sms_next)
 (sms_ret (sm_tup (sma_cons (sm_var 2) (sma_cons (sm_var 3) (sma_cons (sm_var 4) (sma_cons (sm_var 5) sma_nil)))))))), ?_⟩
  rintro rs Φ ⟨a, b, rfl, h⟩
  have inj : ∀ x y : Nat, ((x : Int) = (y : Int)) = (x = y) := fun x y => propext Int.ofNat_inj
  refine seq_op fun N hN => ?_
  simp [startD, rg]
  refine hN _ ?_
  clear hN N
  refine seq_op fun N hN => ?_
  refine dIfS_two (fun c => c = decide (b.l = b.h)) (fun Ψ hΨ => ?_) (fun hc => ?_) (fun hc => ?_)
  · simp
    refine ⟨b, rfl, ?_⟩
    by_cases c : b.l = b.h <;> simp [c] at hΨ ⊢ <;> exact hΨ
  · have hc : b.l = b.h := by simpa using hc
    simp only [wo, if_pos hc, ri] at h
    refine seq_op fun M hM => ?_
    by_cases c1 : a.l = b.l
    · simp [inj, c1]
      refine hM _ ?_
      clear hM M
      by_cases c2 : a.h = b.l
      · simp [inj, c2]
        refine hN _ ?_
        simp [le_size, lt_size, cmul_l, cpow_l, cdiv_l]
        simpa [c1, c2] using h
      · simp [inj, c2]
        refine hN _ ?_
        simp [le_size, lt_size, cmul_l, cpow_l, cdiv_l]
        simpa [c1, c2] using h
    · simp [inj, c1]
      refine hM _ ?_
      clear hM M
      by_cases c2 : a.h = b.l
      · simp [inj, c2]
        refine hN _ ?_
        simp [le_size, lt_size, cmul_l, cpow_l, cdiv_l]
        simpa [c1, c2] using h
      · simp [inj, c2]
        refine hN _ ?_
        simp [le_size, lt_size, cmul_l, cpow_l, cdiv_l]
        simpa [c1, c2] using h
  · have hc : ¬ b.l = b.h := by simpa using hc
    simp only [wo, if_neg hc, ri, Rg.ri] at h
    simp only [dNext]
    refine hN _ ?_
    simp [le_size, lt_size, cmul_l, cpow_l, cdiv_l]
    exact h


def stO (p : Str) : Int := if p = "ult" ∨ p = "slt" ∨ p = "ugt" ∨ p = "sgt" then 1 else 0
def oO (s : Int) (a b : Rg) : Ri × Ri := (ord1 s a b, ord2 s a b)
def pre (p : Str) (w : Nat) (a b : Rg) : Ri × Ri :=
  if p = "eq" then (eqi a b, eqi a b) else if p = "ne" then (wo a b, wo b a)
  else if p = "ult" then oO 1 a b else if p = "ule" then oO 0 a b
  else if a.z &&& 2 ^ (w - 1) = 0 ∨ b.z &&& 2 ^ (w - 1) = 0 then (a.ri, b.ri)
  else if p = "slt" then oO 1 a b else oO 0 a b
def both : Option Rg → Option Rg → Option (Rg × Rg)
  | some u, some v => some (u, v)
  | _, _ => none
def Res (w : Nat) (x : Ri × Ri) (r : Option (Rg × Rg)) : Prop := ∃ r1 r2, NX w x.1 r1 ∧ NX w x.2 r2 ∧ r = both r1 r2
def swO : Option (Rg × Rg) → Option (Rg × Rg)
  | some (u, v) => some (v, u)
  | none => none
def isG (p : Str) : Prop := p = "ugt" ∨ p = "uge" ∨ p = "sgt" ∨ p = "sge"
def RefR (p : Str) (w : Nat) (a b : Rg) (r : Option (Rg × Rg)) : Prop := (¬ isG p ∧ Res w (pre p w a b) r) ∨ (isG p ∧ ∃ q, Res w (pre (swpS p) w b a) q ∧ r = swO q)
theorem Res.uniq {w : Nat} {x : Ri × Ri} {r q : Option (Rg × Rg)} (h : Res w x r) (k : Res w x q) : r = q := by
  obtain ⟨r1, r2, h1, h2, rfl⟩ := h
  obtain ⟨q1, q2, k1, k2, rfl⟩ := k
  rw [h1.uniq k1, h2.uniq k2]
theorem RefR.uniq {p : Str} {w : Nat} {a b : Rg} {r q : Option (Rg × Rg)} (h : RefR p w a b r) (k : RefR p w a b q) : r = q := by
  rcases h with ⟨h0, h⟩ | ⟨h0, r', h, rfl⟩ <;> rcases k with ⟨k0, k⟩ | ⟨k0, q', k, rfl⟩
  · exact h.uniq k
  · exact absurd k0 h0
  · exact absurd h0 k0
  · rw [h.uniq k]
theorem NXok_of {w : Nat} {x : Ri} (h : 0 ≤ x.l) (h2 : x.h < ((2 ^ w : Nat) : Int)) (z : x.z < 2 ^ w) (o : x.o < 2 ^ w) : NXok w x := by
  by_cases c : x.h < x.l
  · exact .inl c
  · obtain ⟨l, u, z', o'⟩ := x
    obtain ⟨l, rfl⟩ := Int.eq_ofNat_of_zero_le h
    obtain ⟨u, rfl⟩ := Int.eq_ofNat_of_zero_le (show 0 ≤ u by
      have h : (0 : Int) ≤ (l : Int) := h
      have c : ¬ u < (l : Int) := c
      omega)
    refine .inr ⟨⟨l, u, z', o'⟩, ⟨?_, Int.ofNat_lt.mp h2, z, o⟩, rfl⟩
    have h2 : (u : Int) < _ := h2
    have c : ¬ (u : Int) < (l : Int) := c
    show l < _
    omega
theorem ok_ri {w : Nat} {a : Rg} (ha : InW w a) : NXok w a.ri := .inr ⟨a, ha, rfl⟩
theorem ok_ord {w : Nat} {a b : Rg} {s : Int} (hs : 0 ≤ s) (ha : InW w a) (hb : InW w b) : NXok w (ord1 s a b) ∧ NXok w (ord2 s a b) := by
  obtain ⟨a1, a2, a3, a4⟩ := ha
  obtain ⟨b1, b2, b3, b4⟩ := hb
  refine ⟨NXok_of ?_ ?_ a3 a4, NXok_of ?_ ?_ b3 b4⟩
  · show (0 : Int) ≤ (a.l : Int); omega
  · show (if (b.h : Int) - s < (a.h : Int) then (b.h : Int) - s else (a.h : Int)) < _
    split <;> omega
  · show (0 : Int) ≤ (if (b.l : Int) < (a.l : Int) + s then (a.l : Int) + s else (b.l : Int))
    split <;> omega
  · show (b.h : Int) < _; omega
theorem ok_wo {w : Nat} {a b : Rg} (ha : InW w a) : NXok w (wo a b) := by
  unfold wo
  split
  · obtain ⟨a1, a2, a3, a4⟩ := ha
    refine NXok_of ?_ ?_ a3 a4
    · show (0 : Int) ≤ (a.l : Int) + (if a.l = b.l then 1 else 0)
      split <;> omega
    · show (a.h : Int) - (if a.h = b.l then 1 else 0) < _
      split <;> omega
  · exact ok_ri ha
theorem ok_eqi {w : Nat} {a b : Rg} (ha : InW w a) (hb : InW w b) : NXok w (eqi a b) := by
  obtain ⟨a1, a2, a3, a4⟩ := ha
  obtain ⟨b1, b2, b3, b4⟩ := hb
  refine NXok_of ?_ ?_ (Nat.or_lt_two_pow a3 b3) (Nat.or_lt_two_pow a4 b4)
  · show (0 : Int) ≤ ((max a.l b.l : Nat) : Int); omega
  · show ((min a.h b.h : Nat) : Int) < _; omega
theorem ok_pre {p : Str} {w : Nat} {a b : Rg} (ha : InW w a) (hb : InW w b) : NXok w (pre p w a b).1 ∧ NXok w (pre p w a b).2 := by
  unfold pre
  repeat' split
  · exact ⟨ok_eqi ha hb, ok_eqi ha hb⟩
  · exact ⟨ok_wo ha, ok_wo hb⟩
  · exact ok_ord (by decide) ha hb
  · exact ok_ord (by decide) ha hb
  · exact ⟨ok_ri ha, ok_ri hb⟩
  · exact ok_ord (by decide) ha hb
  · exact ok_ord (by decide) ha hb
theorem Res.total {w : Nat} {x : Ri × Ri} (h : NXok w x.1 ∧ NXok w x.2) : ∃ r, Res w x r := by
  obtain ⟨r1, h1⟩ := NX.total h.1
  obtain ⟨r2, h2⟩ := NX.total h.2
  exact ⟨_, r1, r2, h1, h2, rfl⟩
instance (p : Str) : Decidable (isG p) := by unfold isG; infer_instance
theorem RefR.total {p : Str} {w : Nat} {a b : Rg} (ha : InW w a) (hb : InW w b) : ∃ r, RefR p w a b r := by
  by_cases c : isG p
  · obtain ⟨q, hq⟩ := Res.total (ok_pre (p := swpS p) hb ha)
    exact ⟨_, .inr ⟨c, q, hq, rfl⟩⟩
  · obtain ⟨q, hq⟩ := Res.total (ok_pre (p := p) ha hb)
    exact ⟨_, .inl ⟨c, hq⟩⟩
def prD : Option (Rg × Rg) → PyData
  | none => .none
  | some (u, v) => .tuple [rg u, rg v]
/-! ### what refining keeps -/
def MemI (v : Nat) (x : Ri) : Prop := x.l ≤ (v : Int) ∧ (v : Int) ≤ x.h ∧ v &&& x.z = 0 ∧ v &&& x.o = x.o
theorem memI_ri {v : Nat} {a : Rg} : MemI v a.ri ↔ Mem v a := by
  unfold MemI Mem Rg.ri
  simp
theorem nx_mem {w v : Nat} {x : Ri} {r : Option Rg} (h : NX w x r) (hv : v < 2 ^ w) (hm : MemI v x) : ∃ u, r = some u ∧ Mem v u := by
  rcases h with ⟨h, rfl⟩ | ⟨a, ha, rfl, h⟩
  · have := hm.1
    have := hm.2.1
    omega
  · have ok := h.ok ha
    have hm := memI_ri.mp hm
    cases r with
    | none => exact absurd hm (ok v hv)
    | some u => exact ⟨u, rfl, ok.1.m v hv hm⟩
structure Kp (w : Nat) (x : Ri) (u : Rg) : Prop where
  l : x.l ≤ (u.l : Int)
  h : (u.h : Int) ≤ x.h
  z : u.z &&& x.z = x.z
  o : u.o &&& x.o = x.o
  i : InW w u
  le : u.l ≤ u.h
  dis : u.z &&& u.o = 0
theorem nx_kp {w : Nat} {x : Ri} {u : Rg} (h : NX w x (some u)) : Kp w x u := by
  rcases h with ⟨h, e⟩ | ⟨a, ha, rfl, h⟩
  · cases e
  · obtain ⟨c, g, _⟩ := h.ok ha
    exact ⟨Int.ofNat_le.mpr c.l, Int.ofNat_le.mpr c.h, c.z, c.o, c.i, g.le, g.dis⟩
/-- what x says is no less than what a says -/
def Fr (a : Rg) (x : Ri) : Prop := (a.l : Int) ≤ x.l ∧ x.h ≤ (a.h : Int) ∧ x.z &&& a.z = a.z ∧ x.o &&& a.o = a.o
theorem fr_ri (a : Rg) : Fr a a.ri := ⟨Int.le_refl _, Int.le_refl _, Nat.and_self _, Nat.and_self _⟩
theorem fr_wo (a b : Rg) : Fr a (wo a b) := by
  unfold wo
  split
  · refine ⟨?_, ?_, Nat.and_self _, Nat.and_self _⟩
    · show (a.l : Int) ≤ (a.l : Int) + (if a.l = b.l then 1 else 0)
      split <;> omega
    · show (a.h : Int) - (if a.h = b.l then 1 else 0) ≤ _
      split <;> omega
  · exact fr_ri a
theorem fr_ord (s : Int) (a b : Rg) : Fr a (ord1 s a b) ∧ Fr b (ord2 s a b) := by
  refine ⟨⟨Int.le_refl _, ?_, Nat.and_self _, Nat.and_self _⟩, ?_, Int.le_refl _, Nat.and_self _, Nat.and_self _⟩
  · show (if (b.h : Int) - s < (a.h : Int) then (b.h : Int) - s else (a.h : Int)) ≤ _
    split <;> omega
  · show _ ≤ (if (b.l : Int) < (a.l : Int) + s then (a.l : Int) + s else (b.l : Int))
    split <;> omega
theorem or_sup (x y : Nat) : (x ||| y) &&& x = x := sup_iff.mpr fun k hk => by rw [Nat.testBit_or, hk, Bool.true_or]
theorem or_sup' (x y : Nat) : (x ||| y) &&& y = y := sup_iff.mpr fun k hk => by rw [Nat.testBit_or, hk, Bool.or_true]
theorem fr_eqi (a b : Rg) : Fr a (eqi a b) ∧ Fr b (eqi a b) := by
  refine ⟨⟨?_, ?_, or_sup _ _, or_sup _ _⟩, ?_, ?_, or_sup' _ _, or_sup' _ _⟩
  · show (a.l : Int) ≤ ((max a.l b.l : Nat) : Int); omega
  · show ((min a.h b.h : Nat) : Int) ≤ (a.h : Int); omega
  · show (b.l : Int) ≤ ((max a.l b.l : Nat) : Int); omega
  · show ((min a.h b.h : Nat) : Int) ≤ (b.h : Int); omega
theorem fr_pre (p : Str) (w : Nat) (a b : Rg) : Fr a (pre p w a b).1 ∧ Fr b (pre p w a b).2 := by
  unfold pre
  repeat' split
  · exact fr_eqi a b
  · exact ⟨fr_wo a b, fr_wo b a⟩
  · exact fr_ord 1 a b
  · exact fr_ord 0 a b
  · exact ⟨fr_ri a, fr_ri b⟩
  · exact fr_ord 1 a b
  · exact fr_ord 0 a b
theorem kp_fr {w : Nat} {a u : Rg} {x : Ri} (h : Kp w x u) (k : Fr a x) : Kp w a.ri u := ⟨Int.le_trans k.1 h.l, Int.le_trans h.h k.2.1, sup_trans h.z k.2.2.1, sup_trans h.o k.2.2.2, h.i, h.le, h.dis⟩
theorem both_some {r1 r2 : Option Rg} {u v : Rg} (h : some (u, v) = both r1 r2) : r1 = some u ∧ r2 = some v := by
  cases r1 <;> cases r2 <;> simp [both] at h
  rw [h.1, h.2]
  exact ⟨rfl, rfl⟩
theorem ref_kp {p : Str} {w : Nat} {a b u v : Rg} (h : RefR p w a b (some (u, v))) : Kp w a.ri u ∧ Kp w b.ri v := by
  rcases h with ⟨_, r1, r2, h1, h2, e⟩ | ⟨_, q, ⟨r1, r2, h1, h2, rfl⟩, e⟩
  · obtain ⟨rfl, rfl⟩ := both_some e
    exact ⟨kp_fr (nx_kp h1) (fr_pre p w a b).1, kp_fr (nx_kp h2) (fr_pre p w a b).2⟩
  · have e2 : some (v, u) = both r1 r2 := by
      cases eb : both r1 r2 with
      | none => rw [eb] at e; cases e
      | some q => rw [eb] at e; cases e; rfl
    obtain ⟨rfl, rfl⟩ := both_some e2
    exact ⟨kp_fr (nx_kp h2) (fr_pre (swpS p) w b a).2, kp_fr (nx_kp h1) (fr_pre (swpS p) w b a).1⟩
/-! ### true comparisons keep both -/
theorem sgn_low {w x : Nat} (h1 : 1 ≤ w) (hx : x < 2 ^ w) {z : Nat} (hz : x &&& z = 0) (c : ¬ z &&& 2 ^ (w - 1) = 0) : sgn w (x : Int) = x := by
  obtain ⟨k, rfl⟩ : ∃ k, w = k + 1 := ⟨w - 1, by omega⟩
  rw [Nat.add_sub_cancel] at c
  have : z.testBit k = true := by
    have hp := Nat.two_pow_pos k
    cases e : z.testBit k with
    | true => rfl
    | false =>
      refine absurd (dis_iff.mpr fun i hi => ?_) c
      rw [Nat.testBit_two_pow]
      refine decide_eq_false fun q => ?_
      subst q
      rw [e] at hi
      cases hi
  have hb : x.testBit k = false := by
    cases e : x.testBit k with
    | false => rfl
    | true => rw [dis_iff.mp hz k e] at this; cases this
  have hlt : x < 2 ^ k := by
    refine Nat.lt_of_not_le fun q => ?_
    have : x / 2 ^ k = 1 := by
      rw [Nat.pow_succ] at hx
      rw [Nat.div_eq_iff (Nat.two_pow_pos k)]
      omega
    rw [Nat.testBit_eq_decide_div_mod_eq, this] at hb
    cases hb
  unfold sgn
  rw [Nat.add_sub_cancel, if_neg]
  rw [← PySem.W.kbt_cast]
  omega
theorem mem_eqi {x : Nat} {a b : Rg} (hx : Mem x a) (hy : Mem x b) : MemI x (eqi a b) := by
  obtain ⟨x1, x2, x3, x4⟩ := hx
  obtain ⟨y1, y2, y3, y4⟩ := hy
  refine ⟨?_, ?_, ?_, ?_⟩
  · show ((max a.l b.l : Nat) : Int) ≤ _; omega
  · show _ ≤ ((min a.h b.h : Nat) : Int); omega
  · show x &&& (a.z ||| b.z) = 0
    rw [Nat.and_or_distrib_left, x3, y3]; rfl
  · show x &&& (a.o ||| b.o) = a.o ||| b.o
    rw [Nat.and_or_distrib_left, x4, y4]
theorem mem_wo {x y : Nat} {a b : Rg} (hx : Mem x a) (hy : Mem y b) (h : ¬ x = y) : MemI x (wo a b) := by
  unfold wo
  split
  · obtain ⟨x1, x2, x3, x4⟩ := hx
    obtain ⟨y1, y2, y3, y4⟩ := hy
    refine ⟨?_, ?_, x3, x4⟩
    · show (a.l : Int) + (if a.l = b.l then 1 else 0) ≤ _
      split <;> omega
    · show _ ≤ (a.h : Int) - (if a.h = b.l then 1 else 0)
      split <;> omega
  · exact memI_ri.mpr hx
theorem mem_ord {s : Int} {x y : Nat} {a b : Rg} (hx : Mem x a) (hy : Mem y b) (h : (x : Int) + s ≤ (y : Int)) : MemI x (ord1 s a b) ∧ MemI y (ord2 s a b) := by
  obtain ⟨x1, x2, x3, x4⟩ := hx
  obtain ⟨y1, y2, y3, y4⟩ := hy
  refine ⟨⟨?_, ?_, x3, x4⟩, ?_, ?_, y3, y4⟩
  · show (a.l : Int) ≤ _; omega
  · show _ ≤ (if (b.h : Int) - s < (a.h : Int) then (b.h : Int) - s else (a.h : Int))
    split <;> omega
  · show (if (b.l : Int) < (a.l : Int) + s then (a.l : Int) + s else (b.l : Int)) ≤ _
    split <;> omega
  · show _ ≤ (b.h : Int); omega
theorem pre_mem {p : Str} {w x y : Nat} {a b : Rg} (hp : p ∈ preds) (hg : ¬ isG p) (h1 : 1 ≤ w) (xw : x < 2 ^ w) (yw : y < 2 ^ w) (hx : Mem x a) (hy : Mem y b) (h : cmpI p w (x : Int) (y : Int) = true) : MemI x (pre p w a b).1 ∧ MemI y (pre p w a b).2 := by
  rcases preds_cases hp with rfl | rfl | rfl | rfl | rfl | rfl | rfl | rfl | rfl | rfl
  · have h : x = y := by simpa [cmpI, Int.ofNat_inj] using h
    subst h
    simpa [pre] using mem_eqi hx hy
  · have h : ¬ x = y := by simpa [cmpI, Int.ofNat_inj] using h
    have := mem_wo hx hy h
    have h' := mem_wo hy hx fun e => h e.symm
    simpa [pre] using And.intro this h'
  · have h : x < y := by simpa [cmpI] using h
    simpa [pre, oO] using mem_ord (s := 1) hx hy (by omega)
  · have h : x ≤ y := by simpa [cmpI] using h
    simpa [pre, oO] using mem_ord (s := 0) hx hy (by omega)
  · exact absurd (show isG "ugt" by decide) hg
  · exact absurd (show isG "uge" by decide) hg
  · have h : sgn w (x : Int) < sgn w (y : Int) := by simpa [cmpI] using h
    by_cases c : a.z &&& 2 ^ (w - 1) = 0 ∨ b.z &&& 2 ^ (w - 1) = 0
    · simpa [pre, c] using And.intro (memI_ri.mpr hx) (memI_ri.mpr hy)
    · rw [sgn_low h1 xw hx.2.2.1 fun e => c (.inl e), sgn_low h1 yw hy.2.2.1 fun e => c (.inr e)] at h
      simpa [pre, c, oO] using mem_ord (s := 1) hx hy (by omega)
  · have h : sgn w (x : Int) ≤ sgn w (y : Int) := by simpa [cmpI] using h
    by_cases c : a.z &&& 2 ^ (w - 1) = 0 ∨ b.z &&& 2 ^ (w - 1) = 0
    · simpa [pre, c] using And.intro (memI_ri.mpr hx) (memI_ri.mpr hy)
    · rw [sgn_low h1 xw hx.2.2.1 fun e => c (.inl e), sgn_low h1 yw hy.2.2.1 fun e => c (.inr e)] at h
      simpa [pre, c, oO] using mem_ord (s := 0) hx hy (by omega)
  · exact absurd (show isG "sgt" by decide) hg
  · exact absurd (show isG "sge" by decide) hg
theorem swp_pred {p : Str} (hp : p ∈ preds) (hg : isG p) : swpS p ∈ preds ∧ ¬ isG (swpS p) := by
  rcases hg with rfl | rfl | rfl | rfl <;> decide
theorem swp_cmp {p : Str} {w : Nat} {x y : Int} (hg : isG p) : cmpI (swpS p) w y x = cmpI p w x y := by
  rcases hg with rfl | rfl | rfl | rfl <;> simp [cmpI, swpS]
theorem ref_mem {p : Str} {w x y : Nat} {a b : Rg} {r : Option (Rg × Rg)} (hr : RefR p w a b r) (hp : p ∈ preds) (h1 : 1 ≤ w) (xw : x < 2 ^ w) (yw : y < 2 ^ w) (hx : Mem x a) (hy : Mem y b) (h : cmpI p w (x : Int) (y : Int) = true) : ∃ u v, r = some (u, v) ∧ Mem x u ∧ Mem y v := by
  rcases hr with ⟨hg, r1, r2, n1, n2, rfl⟩ | ⟨hg, q, ⟨r1, r2, n1, n2, rfl⟩, rfl⟩
  · obtain ⟨m1, m2⟩ := pre_mem hp hg h1 xw yw hx hy h
    obtain ⟨u, rfl, k1⟩ := nx_mem n1 xw m1
    obtain ⟨v, rfl, k2⟩ := nx_mem n2 yw m2
    exact ⟨u, v, rfl, k1, k2⟩
  · obtain ⟨p1, p2⟩ := swp_pred hp hg
    obtain ⟨m1, m2⟩ := pre_mem p1 p2 h1 yw xw hy hx (by rw [swp_cmp hg]; exact h)
    obtain ⟨u, rfl, k1⟩ := nx_mem n1 yw m1
    obtain ⟨v, rfl, k2⟩ := nx_mem n2 xw m2
    exact ⟨v, u, rfl, k2, k1⟩


def rk34 (p : Str) : Nat := if isG p then 1 else 0
def vp_refine (n : Nat) : VSp := fun rs Φ => ∃ (p k : Str) (w : Nat) (a b : Rg), rs = [.d (.str p), .d (.str k), .d (rg a), .d (rg b)] ∧ p ∈ preds ∧ rk34 p < n ∧ KW k w ∧ InW w a ∧ InW w b ∧ ∀ r, RefR p w a b r → Φ (.d (prD r))
theorem len_refine {n : Nat} : ∀ rs Φ, vp_refine n rs Φ → rs.length = 4 := fun rs Φ ⟨_, _, _, _, _, e, _⟩ => by rw [e]; rfl
theorem rgO_eqv (r : Option Rg) : PyData.eqv (rgO r) .none = decide (r = none) := by cases r <;> simp [rgO, rg, PyData.eqv]
theorem rgO_sh (r : Option Rg) : SeqAt.shaped (rgO r) = true := by
  cases r with
  | none => rfl
  | some a => exact rg_sh a
theorem q1_ult : cutS (Str.ofString "ult") (some 1) none = Str.ofString "lt" := by decide +kernel
theorem q1_ule : cutS (Str.ofString "ule") (some 1) none = Str.ofString "le" := by decide +kernel
theorem q1_slt : cutS (Str.ofString "slt") (some 1) none = Str.ofString "lt" := by decide +kernel
theorem q1_sle : cutS (Str.ofString "sle") (some 1) none = Str.ofString "le" := by decide +kernel
theorem ql_ult : (Str.ofString "ult").length ≤ sizeLine := by decide
theorem ql_ule : (Str.ofString "ule").length ≤ sizeLine := by decide
theorem ql_slt : (Str.ofString "slt").length ≤ sizeLine := by decide
theorem ql_sle : (Str.ofString "sle").length ≤ sizeLine := by decide
theorem tup4 {d1 d2 d3 d4 : DE} {g1 g2 : DG} {E : DEnds} {δ : Dl} (h : d1 δ fun x1 => d2 δ fun x2 => d3 δ fun x3 => d4 δ fun x4 => 4 ≤ sizeLine ∧ g1 (.tuple [x1, x2, x3, x4]) δ fun δ1 => g2 (.tuple [x1, x2, x3, x4]) δ1 E.nx) : dAsg2 (dTup (dCons d1 (dCons d2 (dCons d3 (dCons d4 dNil))))) g1 g2 E δ := h
theorem rg_ix {i : Nat} {k : Int} {δ : Dl} {a : Rg} {z : PyData} (h : δ[i]? = some (some (.d (rg a)))) (e : atI [.int a.l, .int a.h, .int a.z, .int a.o] k = some z) : ∀ Φ : PyData → Prop, Φ z → dOp gIx (dVar i) (dC (.int k)) δ Φ := fun Φ q => by
  unfold dOp dVar dC gIx
  exact ⟨rg a, h, k, rfl, z, e, q⟩
theorem mx_at {d1 d2 : DE} {δ : Dl} {x y : Int} {Φ : PyData → Prop} (h1 : ∀ Ψ : PyData → Prop, Ψ (.int x) → d1 δ Ψ) (h2 : ∀ Ψ : PyData → Prop, Ψ (.int y) → d2 δ Ψ) (q : Φ (.int (if y > x then y else x))) : dCB gMax (dCons d1 (dCons d2 dNil)) δ Φ := h1 _ (h2 _ ⟨x, y, rfl, q⟩)
theorem mn_at {d1 d2 : DE} {δ : Dl} {x y : Int} {Φ : PyData → Prop} (h1 : ∀ Ψ : PyData → Prop, Ψ (.int x) → d1 δ Ψ) (h2 : ∀ Ψ : PyData → Prop, Ψ (.int y) → d2 δ Ψ) (q : Φ (.int (if y < x then y else x))) : dCB gMin (dCons d1 (dCons d2 dNil)) δ Φ := h1 _ (h2 _ ⟨x, y, rfl, q⟩)
theorem or_at {d1 d2 : DE} {δ : Dl} {x y : Int} {Φ : PyData → Prop} {f : Int → Int → PyData} (h1 : ∀ Ψ : PyData → Prop, Ψ (.int x) → d1 δ Ψ) (h2 : ∀ Ψ : PyData → Prop, Ψ (.int y) → d2 δ Ψ) (q : Φ (f x y)) : dOp (gI0 f) d1 d2 δ Φ := h1 _ (h2 _ ⟨x, y, rfl, rfl, q⟩)
theorem ref_at {n : Nat} (T : Txt K mg w) : FnOk P w K mg base CX0 (n + 7) T.f_refine T.fd_refine ["predicate", "kind", "a", "b"] (toSp K 4 (vp_refine n)) := by
  induction n with
  | zero => exact ⟨fun vs H Q E h => h.1, fun A outer s H args us vs Q E _ _ _ _ h => by
      obtain ⟨_, _, _, _, _, _, _, ⟨_, _, _, _, _, _, _, h, _⟩, _⟩ := h
      exact absurd h (Nat.not_lt_zero _)⟩
  | succ n ih =>
    refine fn_ok T.F_refine sc_refine fun cdv A outer s H E hr => ⟨_, (pss_cons (ps_if (pt_cmpR (kx_in (K := K) rfl) (pv 0) (pe_tup (pa_cons pe_str (pa_cons pe_str (pa_cons pe_str (pa_cons pe_str pa_nil))))) (by rfl)) (pss_cons (ps_set (i := 4) sc_refine.nd rfl (Or.inl rfl) (pe_call ih hr (by rfl) T.g_refine T.F_refine.kp T.b_refine .nil pass0 (pa_cons (pe_call (G_swapped T) (hr.mono (by omega)) (by rfl) T.g_swapped T.F_swapped.kp T.b_swapped .nil pass0 (pa_cons (pv 0) pa_nil)) (pa_cons (pv 1) (pa_cons (pv 3) (pa_cons (pv 2) pa_nil))))))
 (pss_one (ps_ret (pe_ifExp (pt_cmpR op_isN (pv 4) pe_non (nomark _)) pe_non (pe_tup (pa_cons (pe_ix (kx_seq (K := K) rfl) (pv 4) pe_int (fun _ _ => rfl)) (pa_cons (pe_ix (kx_seq (K := K) rfl) (pv 4) pe_int (fun _ _ => rfl)) pa_nil))))))) pss_nil)
 (pss_cons (ps_if (pt_cmpR (kx_in (K := K) rfl) (pv 0) (pe_tup (pa_cons pe_str (pa_cons pe_str pa_nil))) (by rfl)) (pss_cons (ps_set (i := 5) sc_refine.nd rfl (Or.inl rfl) (pe_call (G_half_of T) (hr.mono (by omega)) (by rfl) T.g_half_of T.F_half_of.kp T.b_half_of .nil pass0 (pa_cons (pv 1) pa_nil)))
 (pss_one (ps_if (PW.pt (pw_and (pt_truth (pe_op op_and (pe_ix (kx_seq (K := K) rfl) (pv 2) pe_int (fun _ _ => rfl)) (pv 5)) (by intro _; rfl)) (pw_and1 (pt_truth (pe_op op_and (pe_ix (kx_seq (K := K) rfl) (pv 3) pe_int (fun _ _ => rfl)) (pv 5)) (by intro _; rfl))))) (pss_one (ps_asg (pe_call (G__ordered T) (hr.mono (by omega)) (by rfl) T.g__ordered T.F__ordered.kp T.b__ordered .nil pass0 (pa_cons (pe_slice sl_str (pv 0) (po_some pe_int) po_none) (pa_cons (pv 2) (pa_cons (pv 3) pa_nil)))) (pg_tup (n := 2) rfl (pgs_cons (pg_name (i := 2) sc_refine.nd rfl (Or.inl rfl)) (pgs_cons (pg_name (i := 3) sc_refine.nd rfl (Or.inl rfl)) pgs_nil))))) pss_nil))) (pss_one (ps_if (pt_cmpR op_eq (pv 0) pe_str (nomark _)) (pss_one (ps_asg2 (pe_tup (pa_cons (pe_callB (call_max2 rfl) (by rfl) T.max (by decide +kernel) (pa_cons (pe_ix (kx_seq (K := K) rfl) (pv 2) pe_int (fun _ _ => rfl)) (pa_cons (pe_ix (kx_seq (K := K) rfl) (pv 3) pe_int (fun _ _ => rfl)) pa_nil))) (pa_cons (pe_callB (call_min2 rfl) (by rfl) T.min (by decide +kernel) (pa_cons (pe_ix (kx_seq (K := K) rfl) (pv 2) pe_int (fun _ _ => rfl)) (pa_cons (pe_ix (kx_seq (K := K) rfl) (pv 3) pe_int (fun _ _ => rfl)) pa_nil))) (pa_cons (pe_op op_or (pe_ix (kx_seq (K := K) rfl) (pv 2) pe_int (fun _ _ => rfl)) (pe_ix (kx_seq (K := K) rfl) (pv 3) pe_int (fun _ _ => rfl))) (pa_cons (pe_op op_or (pe_ix (kx_seq (K := K) rfl) (pv 2) pe_int (fun _ _ => rfl)) (pe_ix (kx_seq (K := K) rfl) (pv 3) pe_int (fun _ _ => rfl))) pa_nil))))) (pg_name (i := 2) sc_refine.nd rfl (Or.inl rfl)) (pg_name (i := 3) sc_refine.nd rfl (Or.inl rfl)))) (pss_one (ps_if (pt_cmpR op_eq (pv 0) pe_str (nomark _)) (pss_one (ps_par (by rfl) sc_refine.nd rfl rfl (by decide) rfl rfl (pa_cons (pe_call (G__without T) (hr.mono (by omega)) (by rfl) T.g__without T.F__without.kp T.b__without .nil pass0 (pa_cons (pv 2) (pa_cons (pv 3) pa_nil))) (pa_cons (pe_call (G__without T) (hr.mono (by omega)) (by rfl) T.g__without T.F__without.kp T.b__without .nil pass0 (pa_cons (pv 3) (pa_cons (pv 2) pa_nil))) pa_nil)) (by rfl))) (pss_one (ps_asg (pe_call (G__ordered T) (hr.mono (by omega)) (by rfl) T.g__ordered T.F__ordered.kp T.b__ordered .nil pass0 (pa_cons (pe_slice sl_str (pv 0) (po_some pe_int) po_none) (pa_cons (pv 2) (pa_cons (pv 3) pa_nil)))) (pg_tup (n := 2) rfl (pgs_cons (pg_name (i := 2) sc_refine.nd rfl (Or.inl rfl)) (pgs_cons (pg_name (i := 3) sc_refine.nd rfl (Or.inl rfl)) pgs_nil))))))))))
 (pss_cons (ps_par (by rfl) sc_refine.nd rfl rfl (by decide) rfl rfl (pa_cons (pe_call (G_normal T) (hr.mono (by omega)) (by rfl) T.g_normal T.F_normal.kp T.b_normal .nil pass0 (pa_cons (pv 1) (pa_cons (pv 2) pa_nil))) (pa_cons (pe_call (G_normal T) (hr.mono (by omega)) (by rfl) T.g_normal T.F_normal.kp T.b_normal .nil pass0 (pa_cons (pv 1) (pa_cons (pv 3) pa_nil))) pa_nil)) (by rfl))
 (pss_one (ps_ret (pe_ifExp (PW.pt (pw_or (pt_cmpR op_isN (pv 2) pe_non (nomark _)) (pw_or1 (pt_cmpR op_isN (pv 3) pe_non (nomark _))))) pe_non (pe_tup (pa_cons (pv 2) (pa_cons (pv 3) pa_nil))))))))), _, fun ex He Hf => (sms_seq (sms_if (smt_t (f1 := false) (sm_op (f1 := false) (f2 := false) (opd_in false) (sm_var 0) (sm_tup (sma_cons (sm_str _) (sma_cons (sm_str _) (sma_cons (sm_str _) (sma_cons (sm_str _) sma_nil)))))))
 (sms_seq (sms_asg (sm_call len_refine (smq_cons (sm_call len_swapped (smq_cons (sm_var 0) smq_nil)) (smq_cons (sm_var 1) (smq_cons (sm_var 3) (smq_cons (sm_var 2) smq_nil))))) (smg_name 4))
 (sms_ret (sm_if (smt_t (f1 := false) (sm_op (f1 := false) (f2 := false) opd_isN (sm_var 4) sm_non)) sm_non (sm_tup (sma_cons (sm_ix (f2 := false) (sm_var 4) (sm_int _)) (sma_cons (sm_ix (f2 := false) (sm_var 4) (sm_int _)) sma_nil))))))
 sms_next)
 (sms_seq (sms_if (smt_t (f1 := false) (sm_op (f1 := false) (f2 := false) (opd_in false) (sm_var 0) (sm_tup (sma_cons (sm_str _) (sma_cons (sm_str _) sma_nil)))))
 (sms_seq (sms_asg (sm_call len_half_of (smq_cons (sm_var 1) smq_nil)) (smg_name 5))
 (sms_if (smt_and (smt_tru (f1 := false) (sm_op (f1 := false) (f2 := false) (opd_I0 (g' := fun i j => .int (Builtin.bitAnd i j)) fun _ _ => rfl) (sm_ix (f2 := false) (sm_var 2) (sm_int _)) (sm_var 5))) (smt_tru (f1 := false) (sm_op (f1 := false) (f2 := false) (opd_I0 (g' := fun i j => .int (Builtin.bitAnd i j)) fun _ _ => rfl) (sm_ix (f2 := false) (sm_var 3) (sm_int _)) (sm_var 5))))
 (sms_asg (sm_call len__ordered (smq_cons (sm_sl_str (f1 := false) (sm_var 0) (smp_some (f1 := false) (sm_int _)) smp_none) (smq_cons (sm_var 2) (smq_cons (sm_var 3) smq_nil)))) (smg_tup (smg_cons (smg_name 2) (smg_cons (smg_name 3) smg_nil))))
 sms_next))
 (sms_if (smt_t (f1 := false) (sm_op (f1 := false) (f2 := false) opd_eq (sm_var 0) (sm_str _)))
 (sms_asg2 (sm_tup (sma_cons (sm_cb (f1 := false) cbd_max (sma_cons (sm_ix (f2 := false) (sm_var 2) (sm_int _)) (sma_cons (sm_ix (f2 := false) (sm_var 3) (sm_int _)) sma_nil))) (sma_cons (sm_cb (f1 := false) cbd_min (sma_cons (sm_ix (f2 := false) (sm_var 2) (sm_int _)) (sma_cons (sm_ix (f2 := false) (sm_var 3) (sm_int _)) sma_nil))) (sma_cons (sm_op (f1 := false) (f2 := false) (opd_I0 (g' := fun i j => .int (Builtin.bitOr i j)) fun _ _ => rfl) (sm_ix (f2 := false) (sm_var 2) (sm_int _)) (sm_ix (f2 := false) (sm_var 3) (sm_int _))) (sma_cons (sm_op (f1 := false) (f2 := false) (opd_I0 (g' := fun i j => .int (Builtin.bitOr i j)) fun _ _ => rfl) (sm_ix (f2 := false) (sm_var 2) (sm_int _)) (sm_ix (f2 := false) (sm_var 3) (sm_int _))) sma_nil))))) (smg_name 2) (smg_name 3))
 (sms_if (smt_t (f1 := false) (sm_op (f1 := false) (f2 := false) opd_eq (sm_var 0) (sm_str _)))
 (sms_par 2 3 (sm_call len__without (smq_cons (sm_var 2) (smq_cons (sm_var 3) smq_nil))) (sm_call len__without (smq_cons (sm_var 3) (smq_cons (sm_var 2) smq_nil))))
 (sms_asg (sm_call len__ordered (smq_cons (sm_sl_str (f1 := false) (sm_var 0) (smp_some (f1 := false) (sm_int _)) smp_none) (smq_cons (sm_var 2) (smq_cons (sm_var 3) smq_nil)))) (smg_tup (smg_cons (smg_name 2) (smg_cons (smg_name 3) smg_nil)))))))
 (sms_seq (sms_par 2 3 (sm_call len_normal (smq_cons (sm_var 1) (smq_cons (sm_var 2) smq_nil))) (sm_call len_normal (smq_cons (sm_var 1) (smq_cons (sm_var 3) smq_nil))))
 (sms_ret (sm_if (smt_or (smt_t (f1 := false) (sm_op (f1 := false) (f2 := false) opd_isN (sm_var 2) sm_non)) (smt_t (f1 := false) (sm_op (f1 := false) (f2 := false) opd_isN (sm_var 3) sm_non))) sm_non (sm_tup (sma_cons (sm_var 2) (sma_cons (sm_var 3) sma_nil)))))))), ?_⟩
    rintro rs Φ ⟨p, k, w, a, b, rfl, hp, hn, hk, ha, hb, h⟩
    have l2 : (2 : Nat) ≤ sizeLine := by decide
    have l4 : (4 : Nat) ≤ sizeLine := by decide
    refine seq_op fun N hN => ?_
    refine dIfS_two (fun c => c = decide (isG p)) (fun Ψ hΨ => ?_) (fun hc => ?_) (fun hc => ?_)
    · have hΨ := hΨ _ rfl
      clear hN h hn
      rcases preds_cases hp with rfl | rfl | rfl | rfl | rfl | rfl | rfl | rfl | rfl | rfl <;> simp [startD, inD, isG, l4] at hΨ ⊢ <;> exact hΨ
    · have hg : isG p := by simpa using hc
      clear hN
      obtain ⟨p1, p2⟩ := swp_pred hp hg
      refine seq_op fun M hM => ?_
      simp [startD]
      refine ⟨p, rfl, hp, swpS p, k, w, b, a, rfl, p1, by rw [rk34, if_neg p2]; rw [rk34, if_pos hg] at hn; omega, hk, hb, ha, fun r hr => hM _ ?_⟩
      have hr : Res w (pre (swpS p) w b a) r := by
        rcases hr with ⟨_, hr⟩ | ⟨g, _⟩
        · exact hr
        · exact absurd g p2
      have h := h _ (.inr ⟨hg, r, hr, rfl⟩)
      cases r with
      | none => simpa [prD, swO] using h
      | some q =>
        obtain ⟨u, v⟩ := q
        simp [prD, swO]
        exact ⟨l2, h⟩
    · have hg : ¬ isG p := by simpa using hc
      simp only [dNext]
      refine hN _ ?_
      clear hN N
      refine seq_op fun N hN => ?_
      have h : ∀ r, Res w (pre p w a b) r → Φ (.d (prD r)) := fun r hr => h r (.inl ⟨hg, hr⟩)
      have tail : ∀ (x y : Ri) (y4 y5 : Option R), NXok w x ∧ NXok w y → (∀ r, Res w (x, y) r → Φ (.d (prD r))) → N [some (.d (.str p)), some (.d (.str k)), some (.d (ri x)), some (.d (ri y)), y4, y5] := by
        intro x y y4 y5 ok h
        refine hN _ ?_
        clear hN N
        refine seq_op fun N hN => ?_
        simp
        refine ⟨k, w, x, rfl, hk, ok.1, fun r1 n1 => ⟨k, w, y, rfl, hk, ok.2, fun r2 n2 => hN _ ?_⟩⟩
        have h := h _ ⟨r1, r2, n1, n2, rfl⟩
        cases r1 with
        | none => simpa [rgO, both, prD] using h
        | some u =>
          cases r2 with
          | none => simpa [rgO, rg, both, prD] using h
          | some v =>
            simp [rgO, rg]
            exact ⟨l2, h⟩
      have t2 := tail _ _ none none (ok_pre (p := p) ha hb) h
      have t3 := fun y5 => tail _ _ none y5 (ok_pre (p := p) ha hb) h
      clear tail h hN
      have hsl : p = "slt" ∨ p = "sle" ∨ p = "eq" ∨ p = "ne" ∨ p = "ult" ∨ p = "ule" := by
        rcases preds_cases hp with c | c | c | c | c | c | c | c | c | c
        · exact .inr (.inr (.inl c))
        · exact .inr (.inr (.inr (.inl c)))
        · exact .inr (.inr (.inr (.inr (.inl c))))
        · exact .inr (.inr (.inr (.inr (.inr c))))
        · exact absurd (.inl c) hg
        · exact absurd (.inr (.inl c)) hg
        · exact .inl c
        · exact .inr (.inl c)
        · exact absurd (.inr (.inr (.inl c))) hg
        · exact absurd (.inr (.inr (.inr c))) hg
      refine dIfS_two (fun c => c = decide (p = "slt" ∨ p = "sle")) (fun Ψ hΨ => ?_) (fun hc => ?_) (fun hc => ?_)
      · have hΨ := hΨ _ rfl
        clear t2 t3
        rcases hsl with rfl | rfl | rfl | rfl | rfl | rfl <;> simp [startD, inD, l2] at hΨ ⊢ <;> exact hΨ
      · have hc : p = "slt" ∨ p = "sle" := by simpa using hc
        refine seq_op fun M hM => ?_
        simp [startD]
        refine ⟨k, w, rfl, hk.1, hk.2.1, hk.2.2, hM _ ?_⟩
        clear hM M
        refine dIfS_two (fun c => c = decide (¬ (a.z &&& 2 ^ (w - 1) = 0 ∨ b.z &&& 2 ^ (w - 1) = 0))) (fun Ψ hΨ => ?_) (fun hc2 => ?_) (fun hc2 => ?_)
        · have hΨ := hΨ _ rfl
          clear t2 t3
          generalize 2 ^ (w - 1) = hf at hΨ ⊢
          simp [rg, bA]
          by_cases c1 : a.z &&& hf = 0
          · simpa [c1] using hΨ
          · by_cases c2 : b.z &&& hf = 0
            · simpa [c1, c2] using hΨ
            · have e : (((b.z &&& hf : Nat) : Int) != 0) = true := by simp [c2]
              rw [if_neg c1, e]
              simpa [c1, c2] using hΨ
        · have hc2 : ¬ (a.z &&& 2 ^ (w - 1) = 0 ∨ b.z &&& 2 ^ (w - 1) = 0) := by simpa using hc2
          rcases hc with rfl | rfl
          · simp [q1_slt, ql_slt]
            refine ⟨"lt", a, b, rfl, ?_⟩
            simp
            have := t3 (some (.d (.int ((2 ^ (w - 1) : Nat) : Int))))
            simpa [pre, hc2, oO, oS, ri] using this
          · simp [q1_sle, ql_sle]
            refine ⟨"le", a, b, rfl, ?_⟩
            simp
            have := t3 (some (.d (.int ((2 ^ (w - 1) : Nat) : Int))))
            simpa [pre, hc2, oO, oS, ri] using this
        · have hc2 : (a.z &&& 2 ^ (w - 1) = 0 ∨ b.z &&& 2 ^ (w - 1) = 0) := Decidable.not_not.mp (of_decide_eq_false hc2.symm)
          simp only [dNext]
          have := t3 (some (.d (.int ((2 ^ (w - 1) : Nat) : Int))))
          rcases hc with rfl | rfl
          · simpa [pre, hc2, ri_rg] using this
          · simpa [pre, hc2, ri_rg] using this
      have hc : ¬ (p = "slt" ∨ p = "sle") := by simpa using hc
      clear t3
      refine dIfS_two (fun c => c = decide (p = "eq")) (fun Ψ hΨ => ?_) (fun hc => ?_) (fun hc2 => ?_)
      · have hΨ := hΨ _ rfl
        simp [startD]
        by_cases c : p = "eq" <;> simpa [c] using hΨ
      · obtain rfl : p = "eq" := by simpa using hc
        clear hsl hc hg hp hn
        have t2 := t2
        simp only [pre, if_pos] at t2
        generalize N = N' at t2 ⊢
        have am : (if (b.l : Int) > (a.l : Int) then (b.l : Int) else (a.l : Int)) = ((max a.l b.l : Nat) : Int) := by split <;> omega
        have an : (if (b.h : Int) < (a.h : Int) then (b.h : Int) else (a.h : Int)) = ((min a.h b.h : Nat) : Int) := by split <;> omega
        refine tup4 ?_
        refine mx_at (x := (a.l : Int)) (y := (b.l : Int)) (rg_ix (a := a) rfl rfl) (rg_ix (a := b) rfl rfl) ?_
        refine mn_at (x := (a.h : Int)) (y := (b.h : Int)) (rg_ix (a := a) rfl rfl) (rg_ix (a := b) rfl rfl) ?_
        refine or_at (x := (a.z : Int)) (y := (b.z : Int)) (rg_ix (a := a) rfl rfl) (rg_ix (a := b) rfl rfl) ?_
        refine or_at (x := (a.o : Int)) (y := (b.o : Int)) (rg_ix (a := a) rfl rfl) (rg_ix (a := b) rfl rfl) ?_
        rw [am, an, bO, bO]
        exact ⟨l4, t2⟩
      have hc2 : ¬ p = "eq" := by simpa using hc2
      refine dIfS_two (fun c => c = decide (p = "ne")) (fun Ψ hΨ => ?_) (fun hc => ?_) (fun hc3 => ?_)
      · have hΨ := hΨ _ rfl
        simp [startD]
        by_cases c : p = "ne" <;> simpa [c] using hΨ
      · obtain rfl : p = "ne" := by simpa using hc
        simp [startD]
        refine ⟨a, b, rfl, b, a, rfl, ?_⟩
        simpa [pre] using t2
      have hc3 : ¬ p = "ne" := by simpa using hc3
      rcases hsl with rfl | rfl | rfl | rfl | rfl | rfl
      · exact absurd (.inl rfl) hc
      · exact absurd (.inr rfl) hc
      · exact absurd rfl hc2
      · exact absurd rfl hc3
      · simp [startD, q1_ult, ql_ult]
        refine ⟨"lt", a, b, rfl, ?_⟩
        simp
        simpa [pre, oO, oS, ri] using t2
      · simp [startD, q1_ule, ql_ule]
        refine ⟨"le", a, b, rfl, ?_⟩
        simp
        simpa [pre, oO, oS, ri] using t2
theorem rk34_lt (p : Str) : rk34 p < 2 := by
  unfold rk34
  split <;> decide
theorem G_refine (T : Txt K mg w) : FnOk P w K mg base CX0 9 T.f_refine T.fd_refine ["predicate", "kind", "a", "b"] (toSp K 4 (vp_refine 2)) := ref_at T


def vp__law_whole : VSp := fun rs Φ => ∃ i : Int, rs = [.d (.int i)] ∧ Φ (.d (.bool true))
theorem len__law_whole : ∀ rs Φ, vp__law_whole rs Φ → rs.length = 1 := fun rs Φ ⟨_, e, _⟩ => by rw [e]; rfl
theorem G__law_whole (T : Txt K mg w) : FnOk P w K mg base CX0 1 T.f__law_whole T.fd__law_whole ["value"] (toSp K 1 vp__law_whole) := by
  refine fn_ok T.F__law_whole sc__law_whole fun cdv A outer s H E hr => ⟨_, (pss_one (ps_ret (pe_and (pe_callB (kx_isi (K := K) rfl) (by rfl) T.isinstance (by decide +kernel) (pa_cons (pv 0) (pa_cons (pe_bltn (v := .ty "int") (by rfl) T.int (by decide +kernel) rfl) pa_nil))) (pe_one (pe_not (pe_callB (kx_isi (K := K) rfl) (by rfl) T.isinstance (by decide +kernel) (pa_cons (pv 0) (pa_cons (pe_bltn (v := .ty "bool") (by rfl) T.bool (by decide +kernel) rfl) pa_nil)))))))), _, fun ex He Hf => (sms_ret (sm_and (f1 := false) (sm_isi (f1 := false) "int" (sm_var 0)) (sm_not (f1 := false) (sm_isi (f1 := false) "bool" (sm_var 0))))), ?_⟩
  rintro rs Φ ⟨i, rfl, h⟩
  simpa [tyD] using h
theorem wid_cases {k : Str} {v : PyData} (h : (k, v) ∈ L__WIDTHS) : (k = "i1" ∧ v = .int 1) ∨ (k = "i8" ∧ v = .int 8) ∨ (k = "i16" ∧ v = .int 16) ∨ (k = "i32" ∧ v = .int 32) ∨ (k = "i64" ∧ v = .int 64) := by
  simpa [L__WIDTHS] using h
def vp__law_width : VSp := fun rs Φ => ∃ (k : Str) (v : PyData), rs = [.d (.str k)] ∧ (k, v) ∈ L__WIDTHS ∧ Φ (.d v)
theorem len__law_width : ∀ rs Φ, vp__law_width rs Φ → rs.length = 1 := fun rs Φ ⟨_, _, e, _⟩ => by rw [e]; rfl
theorem G__law_width (T : Txt K mg w) : FnOk P w K mg base CX0 1 T.f__law_width T.fd__law_width ["kind"] (toSp K 1 vp__law_width) := by
  refine fn_ok T.F__law_width sc__law_width fun cdv A outer s H E hr => ⟨_, (pss_cons (ps_for PassesOwn.never rfl ((kpi_list (K := K) rfl (pe_lst (pa_cons (pe_tup (pa_cons pe_str (pa_cons pe_int pa_nil))) (pa_cons (pe_tup (pa_cons pe_str (pa_cons pe_int pa_nil))) (pa_cons (pe_tup (pa_cons pe_str (pa_cons pe_int pa_nil))) (pa_cons (pe_tup (pa_cons pe_str (pa_cons pe_int pa_nil))) (pa_cons (pe_tup (pa_cons pe_str (pa_cons pe_int pa_nil))) pa_nil)))))))) (pg_name (i := 1) sc__law_width.nd rfl (Or.inl rfl)) (pss_one (ps_if (pt_cmpR op_eq (pe_ix (kx_seq (K := K) rfl) (pv 1) pe_int (fun _ _ => rfl)) (pv 0) (nomark _)) (pss_one (ps_ret (pe_ix (kx_seq (K := K) rfl) (pv 1) pe_int (fun _ _ => rfl)))) pss_nil)))
 (pss_one (ps_ret pe_int))), _, fun ex He Hf => (sms_seq (sms_for (smi_list (SmO.sm (smo_lst (sma_cons (sm_tup (sma_cons (sm_str _) (sma_cons (sm_int _) sma_nil))) (sma_cons (sm_tup (sma_cons (sm_str _) (sma_cons (sm_int _) sma_nil))) (sma_cons (sm_tup (sma_cons (sm_str _) (sma_cons (sm_int _) sma_nil))) (sma_cons (sm_tup (sma_cons (sm_str _) (sma_cons (sm_int _) sma_nil))) (sma_cons (sm_tup (sma_cons (sm_str _) (sma_cons (sm_int _) sma_nil))) sma_nil)))))))) (smg_name 1)
 (sms_if (smt_t (f1 := false) (sm_op (f1 := false) (f2 := false) opd_eq (sm_ix (f2 := false) (sm_var 1) (sm_int _)) (sm_var 0)))
 (sms_ret (sm_ix (f2 := false) (sm_var 1) (sm_int _)))
 sms_next))
 (sms_ret (sm_int _))), ?_⟩
  rintro rs Φ ⟨k, v, rfl, hk, h⟩
  have l2 : (2 : Nat) ≤ sizeLine := by decide
  have l5 : (5 : Nat) ≤ sizeLine := by decide
  rcases wid_cases hk with ⟨rfl, rfl⟩ | ⟨rfl, rfl⟩ | ⟨rfl, rfl⟩ | ⟨rfl, rfl⟩ | ⟨rfl, rfl⟩
  · simp [dFor, l2, l5]
    refine ⟨fun j δ => ∃ y, j ≤ 0 ∧ δ = [some (.d (.str "i1")), y], ⟨_, Nat.zero_le _, rfl⟩, fun j z δ hj hI => ?_, fun δ hI => ?_⟩
    · obtain ⟨y, hy, rfl⟩ := hI
      rcases (show j = 0 by omega) with rfl
      · have e := Option.some.inj hj
        subst e
        simp
        exact h
    · obtain ⟨y, hy, rfl⟩ := hI
      exact absurd hy (by simp)
  · simp [dFor, l2, l5]
    refine ⟨fun j δ => ∃ y, j ≤ 1 ∧ δ = [some (.d (.str "i8")), y], ⟨_, Nat.zero_le _, rfl⟩, fun j z δ hj hI => ?_, fun δ hI => ?_⟩
    · obtain ⟨y, hy, rfl⟩ := hI
      rcases (show j = 0 ∨ j = 1 by omega) with rfl | rfl
      · have e := Option.some.inj hj
        subst e
        simp
      · have e := Option.some.inj hj
        subst e
        simp
        exact h
    · obtain ⟨y, hy, rfl⟩ := hI
      exact absurd hy (by simp)
  · simp [dFor, l2, l5]
    refine ⟨fun j δ => ∃ y, j ≤ 2 ∧ δ = [some (.d (.str "i16")), y], ⟨_, Nat.zero_le _, rfl⟩, fun j z δ hj hI => ?_, fun δ hI => ?_⟩
    · obtain ⟨y, hy, rfl⟩ := hI
      rcases (show j = 0 ∨ j = 1 ∨ j = 2 by omega) with rfl | rfl | rfl
      · have e := Option.some.inj hj
        subst e
        simp
      · have e := Option.some.inj hj
        subst e
        simp
      · have e := Option.some.inj hj
        subst e
        simp
        exact h
    · obtain ⟨y, hy, rfl⟩ := hI
      exact absurd hy (by simp)
  · simp [dFor, l2, l5]
    refine ⟨fun j δ => ∃ y, j ≤ 3 ∧ δ = [some (.d (.str "i32")), y], ⟨_, Nat.zero_le _, rfl⟩, fun j z δ hj hI => ?_, fun δ hI => ?_⟩
    · obtain ⟨y, hy, rfl⟩ := hI
      rcases (show j = 0 ∨ j = 1 ∨ j = 2 ∨ j = 3 by omega) with rfl | rfl | rfl | rfl
      · have e := Option.some.inj hj
        subst e
        simp
      · have e := Option.some.inj hj
        subst e
        simp
      · have e := Option.some.inj hj
        subst e
        simp
      · have e := Option.some.inj hj
        subst e
        simp
        exact h
    · obtain ⟨y, hy, rfl⟩ := hI
      exact absurd hy (by simp)
  · simp [dFor, l2, l5]
    refine ⟨fun j δ => ∃ y, j ≤ 4 ∧ δ = [some (.d (.str "i64")), y], ⟨_, Nat.zero_le _, rfl⟩, fun j z δ hj hI => ?_, fun δ hI => ?_⟩
    · obtain ⟨y, hy, rfl⟩ := hI
      rcases (show j = 0 ∨ j = 1 ∨ j = 2 ∨ j = 3 ∨ j = 4 by omega) with rfl | rfl | rfl | rfl | rfl
      · have e := Option.some.inj hj
        subst e
        simp
      · have e := Option.some.inj hj
        subst e
        simp
      · have e := Option.some.inj hj
        subst e
        simp
      · have e := Option.some.inj hj
        subst e
        simp
      · have e := Option.some.inj hj
        subst e
        simp
        exact h
    · obtain ⟨y, hy, rfl⟩ := hI
      exact absurd hy (by simp)
def vp__law_number : VSp := fun rs Φ => ∃ w : Nat, rs = [.drw, .d (.int w)] ∧ 1 ≤ w ∧ w ≤ 64 ∧ ∀ n : Nat, n < 2 ^ w → Φ (.d (.int n))
theorem len__law_number : ∀ rs Φ, vp__law_number rs Φ → rs.length = 2 := fun rs Φ ⟨_, e, _⟩ => by rw [e]; rfl
theorem G__law_number (T : Txt K mg w) : FnOk P w K mg base CX0 2 T.f__law_number T.fd__law_number ["draw", "w"] (toSp K 2 vp__law_number) := by
  refine fn_ok T.F__law_number sc__law_number fun cdv A outer s H E hr => ⟨_, (pss_cons (ps_set (i := 2) sc__law_number.nd rfl (Or.inl rfl) (pe_op op_sub (pe_op op_shl pe_int (pv 1)) pe_int))
 (pss_cons (ps_set (i := 3) sc__law_number.nd rfl (Or.inl rfl) (pe_call (G__law_take T) hr (by rfl) T.g__law_take T.F__law_take.kp T.b__law_take .nil pass0 (pa_cons (pv 0) (pa_cons pe_int pa_nil))))
 (pss_cons (ps_if (pt_cmpR op_lt (pv 3) pe_int (nomark _)) (pss_one (ps_ret (pe_callB (call_min2 rfl) (by rfl) T.min (by decide +kernel) (pa_cons (pv 2) (pa_cons (pe_call (G__law_take T) hr (by rfl) T.g__law_take T.F__law_take.kp T.b__law_take .nil pass0 (pa_cons (pv 0) (pa_cons pe_int pa_nil))) pa_nil))))) pss_nil)
 (pss_cons (ps_if (pt_cmpR op_eq (pv 3) pe_int (nomark _)) (pss_one (ps_ret (pe_op op_sub (pv 2) (pe_callB (call_min2 rfl) (by rfl) T.min (by decide +kernel) (pa_cons (pv 2) (pa_cons (pe_call (G__law_take T) hr (by rfl) T.g__law_take T.F__law_take.kp T.b__law_take .nil pass0 (pa_cons (pv 0) (pa_cons pe_int pa_nil))) pa_nil)))))) pss_nil)
 (pss_cons (ps_if (pt_cmpR op_eq (pv 3) pe_int (nomark _)) (pss_one (ps_ret (pe_op op_and (pe_callTy call_int1 (by rfl) T.int (by decide +kernel) (pa_cons (pe_op op_sub (pe_op op_add (pe_op op_shl pe_int (pe_call (G__law_take T) hr (by rfl) T.g__law_take T.F__law_take.kp T.b__law_take .nil pass0 (pa_cons (pv 0) (pa_cons (pv 1) pa_nil)))) (pe_call (G__law_take T) hr (by rfl) T.g__law_take T.F__law_take.kp T.b__law_take .nil pass0 (pa_cons (pv 0) (pa_cons pe_int pa_nil)))) pe_int) pa_nil)) (pv 2)))) pss_nil)
 (pss_cons (ps_if (pt_cmpR op_eq (pv 3) pe_int (nomark _)) (pss_one (ps_ret (pe_op op_shl pe_int (pe_op op_sub (pv 1) pe_int)))) pss_nil)
 (pss_cons (ps_set (i := 4) sc__law_number.nd rfl (Or.inl rfl) pe_int)
 (pss_cons (ps_for PassesOwn.never rfl (pi_range1 rfl T.range (pa_cons pe_int pa_nil)) (pg_name (i := 5) sc__law_number.nd rfl (Or.inl rfl)) (pss_one (ps_set (i := 4) sc__law_number.nd rfl (Or.inl rfl) (pe_op op_add (pe_op op_mul (pv 4) pe_int) (pe_call (G__law_take T) hr (by rfl) T.g__law_take T.F__law_take.kp T.b__law_take .nil pass0 (pa_cons (pv 0) (pa_cons pe_int pa_nil)))))))
 (pss_one (ps_ret (pe_op op_and (pv 4) (pv 2)))))))))))), _, fun ex He Hf => (sms_seq (sms_asg (sm_op (f1 := false) (f2 := false) (opd_I0 (g' := fun i j => .int (i - j)) fun _ _ => rfl) (sm_op (f1 := false) (f2 := false) (opd_I (g' := fun i j => .int (i * 2 ^ j.toNat)) fun _ _ => rfl) (sm_int _) (sm_var 1)) (sm_int _)) (smg_name 2))
 (sms_seq (sms_asg (sm_call len__law_take (smq_drw 0 (smq_cons (sm_int _) smq_nil))) (smg_name 3))
 (sms_seq (sms_if (smt_t (f1 := false) (sm_op (f1 := false) (f2 := false) (opd_I0 (g' := fun i j => .bool (decide (i < j))) fun _ _ => rfl) (sm_var 3) (sm_int _)))
 (sms_ret (sm_cb (f1 := false) cbd_min (sma_cons (sm_var 2) (sma_cons (sm_call len__law_take (smq_drw 0 (smq_cons (sm_int _) smq_nil))) sma_nil))))
 sms_next)
 (sms_seq (sms_if (smt_t (f1 := false) (sm_op (f1 := false) (f2 := false) opd_eq (sm_var 3) (sm_int _)))
 (sms_ret (sm_op (f1 := false) (f2 := false) (opd_I0 (g' := fun i j => .int (i - j)) fun _ _ => rfl) (sm_var 2) (sm_cb (f1 := false) cbd_min (sma_cons (sm_var 2) (sma_cons (sm_call len__law_take (smq_drw 0 (smq_cons (sm_int _) smq_nil))) sma_nil)))))
 sms_next)
 (sms_seq (sms_if (smt_t (f1 := false) (sm_op (f1 := false) (f2 := false) opd_eq (sm_var 3) (sm_int _)))
 (sms_ret (sm_op (f1 := false) (f2 := false) (opd_I0 (g' := fun i j => .int (Builtin.bitAnd i j)) fun _ _ => rfl) (sm_cb (f1 := false) cbd_int (sma_cons (sm_op (f1 := false) (f2 := false) (opd_I0 (g' := fun i j => .int (i - j)) fun _ _ => rfl) (sm_op (f1 := false) (f2 := false) (opd_I0 (g' := fun i j => .int (i + j)) fun _ _ => rfl) (sm_op (f1 := false) (f2 := false) (opd_I (g' := fun i j => .int (i * 2 ^ j.toNat)) fun _ _ => rfl) (sm_int _) (sm_call len__law_take (smq_drw 0 (smq_cons (sm_var 1) smq_nil)))) (sm_call len__law_take (smq_drw 0 (smq_cons (sm_int _) smq_nil)))) (sm_int _)) sma_nil)) (sm_var 2)))
 sms_next)
 (sms_seq (sms_if (smt_t (f1 := false) (sm_op (f1 := false) (f2 := false) opd_eq (sm_var 3) (sm_int _)))
 (sms_ret (sm_op (f1 := false) (f2 := false) (opd_I (g' := fun i j => .int (i * 2 ^ j.toNat)) fun _ _ => rfl) (sm_int _) (sm_op (f1 := false) (f2 := false) (opd_I0 (g' := fun i j => .int (i - j)) fun _ _ => rfl) (sm_var 1) (sm_int _))))
 sms_next)
 (sms_seq (sms_asg (sm_int _) (smg_name 4))
 (sms_seq (sms_for (smi_rng1 (f1 := false) (sm_int _)) (smg_name 5)
 (sms_asg (sm_op (f1 := false) (f2 := false) (opd_I0 (g' := fun i j => .int (i + j)) fun _ _ => rfl) (sm_op (f1 := false) (f2 := false) (opd_I (g' := fun i j => .int (i * j)) fun _ _ => rfl) (sm_var 4) (sm_int _)) (sm_call len__law_take (smq_drw 0 (smq_cons (sm_int _) smq_nil)))) (smg_name 4)))
 (sms_ret (sm_op (f1 := false) (f2 := false) (opd_I0 (g' := fun i j => .int (Builtin.bitAnd i j)) fun _ _ => rfl) (sm_var 4) (sm_var 2))))))))))), ?_⟩
  rintro rs Φ ⟨w, rfl, h1, h2, h⟩
  have p64 := pow_le64 h2
  have p0 := pow_pos2 w
  have ph := pow_half h1
  have p1 := pow_pos2 (w - 1)
  have hI : ∀ x : Int, 0 ≤ x → x < 2 ^ w → Φ (.d (.int x)) := fun x a b => by
    obtain ⟨n, rfl⟩ := Int.eq_ofNat_of_zero_le a
    refine h n ?_
    rw [← PySem.W.kbt_cast] at b
    exact Int.ofNat_lt.mp b
  simp
  refine ⟨cp1 (by omega) (by omega), fun k _ _ => ?_⟩
  split
  · exact fun r r0 r1 => hI _ (by split <;> omega) (by split <;> omega)
  split
  · exact fun r r0 r1 => hI _ (by split <;> omega) (by split <;> omega)
  split
  · refine ⟨⟨by omega, by omega⟩, fun r r0 r1 => ⟨cp1 (by omega) (by omega), fun q q0 q1 => ?_⟩⟩
    rw [PySem.W.kbt_mask]
    exact hI _ (Int.emod_nonneg _ (by omega)) (Int.emod_lt_of_pos _ p0)
  split
  · have e1 : ((w : Int) - 1).toNat = w - 1 := by omega
    exact ⟨cp1 (by omega) (by omega), hI _ (by omega) (by omega)⟩
  simp only [dFor, iR1, dC]
  refine ⟨3, rfl, by decide, by decide, fun j δ => ∃ (f : Int) (y5 : Option R), 0 ≤ f ∧ f < 4194301 ^ j ∧ δ = [some .drw, some (.d (.int w)), some (.d (.int (2 ^ w - 1))), some (.d (.int k)), some (.d (.int f)), y5], ⟨0, none, by decide, by decide, rfl⟩, fun j z δ hj hI2 => ?_, fun δ hI2 => ?_⟩
  · obtain ⟨f, y5, f0, f1, rfl⟩ := hI2
    obtain ⟨hj', rfl⟩ := rng_get hj
    have hj3 : j < 3 := hj'
    have fb : f < 20000000000000 := by
      rcases (show j = 0 ∨ j = 1 ∨ j = 2 by omega) with rfl | rfl | rfl <;> simp at f1 <;> omega
    simp
    refine ⟨.inl ⟨by omega, by omega⟩, fun r r0 r1 => ⟨by omega, ?_⟩⟩
    rw [Int.pow_succ]
    generalize (4194301 : Int) ^ j = q at *
    omega
  · obtain ⟨f, y5, f0, f1, rfl⟩ := hI2
    simp
    rw [PySem.W.kbt_mask]
    exact hI _ (Int.emod_nonneg _ (by omega)) (Int.emod_lt_of_pos _ p0)

def vp__law_signed : VSp := fun rs Φ => ∃ (w : Nat) (x : Int), rs = [.d (.int w), .d (.int x)] ∧ 1 ≤ w ∧ w ≤ 64 ∧ Φ (.d (.int (sgn w x)))
theorem len__law_signed : ∀ rs Φ, vp__law_signed rs Φ → rs.length = 2 := fun rs Φ ⟨_, _, e, _⟩ => by rw [e]; rfl
theorem G__law_signed (T : Txt K mg w) : FnOk P w K mg base CX0 1 T.f__law_signed T.fd__law_signed ["w", "x"] (toSp K 2 vp__law_signed) := by
  refine fn_ok T.F__law_signed sc__law_signed fun cdv A outer s H E hr => ⟨_, (pss_cons (ps_if (pt_cmpR op_ge (pv 1) (pe_op op_shl pe_int (pe_op op_sub (pv 0) pe_int)) (nomark _)) (pss_one (ps_ret (pe_op op_sub (pv 1) (pe_op op_shl pe_int (pv 0))))) pss_nil)
 (pss_one (ps_ret (pv 1)))), _, fun ex He Hf => (sms_seq (sms_if (smt_t (f1 := false) (sm_op (f1 := false) (f2 := false) (opd_I0 (g' := fun i j => .bool (decide (j ≤ i))) fun _ _ => rfl) (sm_var 1) (sm_op (f1 := false) (f2 := false) (opd_I (g' := fun i j => .int (i * 2 ^ j.toNat)) fun _ _ => rfl) (sm_int _) (sm_op (f1 := false) (f2 := false) (opd_I0 (g' := fun i j => .int (i - j)) fun _ _ => rfl) (sm_var 0) (sm_int _)))))
 (sms_ret (sm_op (f1 := false) (f2 := false) (opd_I0 (g' := fun i j => .int (i - j)) fun _ _ => rfl) (sm_var 1) (sm_op (f1 := false) (f2 := false) (opd_I (g' := fun i j => .int (i * 2 ^ j.toNat)) fun _ _ => rfl) (sm_int _) (sm_var 0))))
 sms_next)
 (sms_ret (sm_var 1))), ?_⟩
  rintro rs Φ ⟨w, x, rfl, h1, h2, h⟩
  have e1 : ((w : Int) - 1).toNat = w - 1 := by omega
  simp [e1]
  refine ⟨cp1 (by omega) (by omega), ?_⟩
  unfold sgn at h
  split
  · rename_i hc
    rw [if_pos hc] at h
    exact ⟨cp1 (by omega) (by omega), h⟩
  · rename_i hc
    rw [if_neg hc] at h
    exact h
theorem nos_e : ¬ (⟨#[101]⟩ : Str) = Str.ofString "s" := by decide +kernel
theorem nos_n : ¬ (⟨#[110]⟩ : Str) = Str.ofString "s" := by decide +kernel
theorem nos_u : ¬ (⟨#[117]⟩ : Str) = Str.ofString "s" := by decide +kernel
theorem yes_s : (⟨#[115]⟩ : Str) = Str.ofString "s" := rfl
theorem pl_eq : (Str.ofString "eq").length ≤ sizeLine := by decide
theorem pc_eq : (Str.ofString "eq").cps.toList = [101, 113] := rfl
theorem pw_eq : cutS (Str.ofString "eq") (some (((Str.ofString "eq").length : Int) - 2)) none = Str.ofString "eq" := by decide +kernel
theorem p1_eq : cutS (Str.ofString "eq") (some 1) none = Str.ofString "q" := by decide +kernel
theorem pl_ne : (Str.ofString "ne").length ≤ sizeLine := by decide
theorem pc_ne : (Str.ofString "ne").cps.toList = [110, 101] := rfl
theorem pw_ne : cutS (Str.ofString "ne") (some (((Str.ofString "ne").length : Int) - 2)) none = Str.ofString "ne" := by decide +kernel
theorem p1_ne : cutS (Str.ofString "ne") (some 1) none = Str.ofString "e" := by decide +kernel
theorem pl_ult : (Str.ofString "ult").length ≤ sizeLine := by decide
theorem pc_ult : (Str.ofString "ult").cps.toList = [117, 108, 116] := rfl
theorem pw_ult : cutS (Str.ofString "ult") (some (((Str.ofString "ult").length : Int) - 2)) none = Str.ofString "lt" := by decide +kernel
theorem p1_ult : cutS (Str.ofString "ult") (some 1) none = Str.ofString "lt" := by decide +kernel
theorem pl_ule : (Str.ofString "ule").length ≤ sizeLine := by decide
theorem pc_ule : (Str.ofString "ule").cps.toList = [117, 108, 101] := rfl
theorem pw_ule : cutS (Str.ofString "ule") (some (((Str.ofString "ule").length : Int) - 2)) none = Str.ofString "le" := by decide +kernel
theorem p1_ule : cutS (Str.ofString "ule") (some 1) none = Str.ofString "le" := by decide +kernel
theorem pl_ugt : (Str.ofString "ugt").length ≤ sizeLine := by decide
theorem pc_ugt : (Str.ofString "ugt").cps.toList = [117, 103, 116] := rfl
theorem pw_ugt : cutS (Str.ofString "ugt") (some (((Str.ofString "ugt").length : Int) - 2)) none = Str.ofString "gt" := by decide +kernel
theorem p1_ugt : cutS (Str.ofString "ugt") (some 1) none = Str.ofString "gt" := by decide +kernel
theorem pl_uge : (Str.ofString "uge").length ≤ sizeLine := by decide
theorem pc_uge : (Str.ofString "uge").cps.toList = [117, 103, 101] := rfl
theorem pw_uge : cutS (Str.ofString "uge") (some (((Str.ofString "uge").length : Int) - 2)) none = Str.ofString "ge" := by decide +kernel
theorem p1_uge : cutS (Str.ofString "uge") (some 1) none = Str.ofString "ge" := by decide +kernel
theorem pl_slt : (Str.ofString "slt").length ≤ sizeLine := by decide
theorem pc_slt : (Str.ofString "slt").cps.toList = [115, 108, 116] := rfl
theorem pw_slt : cutS (Str.ofString "slt") (some (((Str.ofString "slt").length : Int) - 2)) none = Str.ofString "lt" := by decide +kernel
theorem p1_slt : cutS (Str.ofString "slt") (some 1) none = Str.ofString "lt" := by decide +kernel
theorem pl_sle : (Str.ofString "sle").length ≤ sizeLine := by decide
theorem pc_sle : (Str.ofString "sle").cps.toList = [115, 108, 101] := rfl
theorem pw_sle : cutS (Str.ofString "sle") (some (((Str.ofString "sle").length : Int) - 2)) none = Str.ofString "le" := by decide +kernel
theorem p1_sle : cutS (Str.ofString "sle") (some 1) none = Str.ofString "le" := by decide +kernel
theorem pl_sgt : (Str.ofString "sgt").length ≤ sizeLine := by decide
theorem pc_sgt : (Str.ofString "sgt").cps.toList = [115, 103, 116] := rfl
theorem pw_sgt : cutS (Str.ofString "sgt") (some (((Str.ofString "sgt").length : Int) - 2)) none = Str.ofString "gt" := by decide +kernel
theorem p1_sgt : cutS (Str.ofString "sgt") (some 1) none = Str.ofString "gt" := by decide +kernel
theorem pl_sge : (Str.ofString "sge").length ≤ sizeLine := by decide
theorem pc_sge : (Str.ofString "sge").cps.toList = [115, 103, 101] := rfl
theorem pw_sge : cutS (Str.ofString "sge") (some (((Str.ofString "sge").length : Int) - 2)) none = Str.ofString "ge" := by decide +kernel
theorem p1_sge : cutS (Str.ofString "sge") (some 1) none = Str.ofString "ge" := by decide +kernel
def vp__law_compare : VSp := fun rs Φ => ∃ (p : Str) (w : Nat) (x y : Int), rs = [.d (.str p), .d (.int w), .d (.int x), .d (.int y)] ∧ p ∈ preds ∧ 1 ≤ w ∧ w ≤ 64 ∧ Φ (.d (.int (b2i (cmpI p w x y))))
theorem len__law_compare : ∀ rs Φ, vp__law_compare rs Φ → rs.length = 4 := fun rs Φ ⟨_, _, _, _, e, _⟩ => by rw [e]; rfl
theorem G__law_compare (T : Txt K mg w) : FnOk P w K mg base CX0 2 T.f__law_compare T.fd__law_compare ["predicate", "w", "x", "y"] (toSp K 4 vp__law_compare) := by
  refine fn_ok T.F__law_compare sc__law_compare fun cdv A outer s H E hr => ⟨_, (pss_cons (ps_if (pt_cmpR op_eq (pe_ix (kx_seq (K := K) rfl) (pv 0) pe_int (fun _ _ => rfl)) pe_str (nomark _)) (pss_cons (ps_set (i := 2) sc__law_compare.nd rfl (Or.inl rfl) (pe_call (G__law_signed T) hr (by rfl) T.g__law_signed T.F__law_signed.kp T.b__law_signed .nil pass0 (pa_cons (pv 1) (pa_cons (pv 2) pa_nil))))
 (pss_one (ps_set (i := 3) sc__law_compare.nd rfl (Or.inl rfl) (pe_call (G__law_signed T) hr (by rfl) T.g__law_signed T.F__law_signed.kp T.b__law_signed .nil pass0 (pa_cons (pv 1) (pa_cons (pv 3) pa_nil)))))) pss_nil)
 (pss_cons (ps_set (i := 4) sc__law_compare.nd rfl (Or.inl rfl) (pe_slice sl_str (pv 0) (po_some (pe_op op_sub (pe_callB (kx_len (K := K) rfl) (by rfl) T.len PySem.boot_len (pa_cons (pv 0) pa_nil)) pe_int)) po_none))
 (pss_cons (ps_if (pt_cmpR op_eq (pv 4) pe_str (nomark _)) (pss_one (ps_ret (pe_callTy call_int1 (by rfl) T.int (by decide +kernel) (pa_cons (pe_cmpR op_eq (pv 2) (pv 3) (nomark _)) pa_nil)))) pss_nil)
 (pss_cons (ps_if (pt_cmpR op_eq (pv 4) pe_str (nomark _)) (pss_one (ps_ret (pe_callTy call_int1 (by rfl) T.int (by decide +kernel) (pa_cons (pe_cmpR op_ne (pv 2) (pv 3) (nomark _)) pa_nil)))) pss_nil)
 (pss_cons (ps_if (pt_cmpR op_eq (pv 4) pe_str (nomark _)) (pss_one (ps_ret (pe_callTy call_int1 (by rfl) T.int (by decide +kernel) (pa_cons (pe_cmpR op_lt (pv 2) (pv 3) (nomark _)) pa_nil)))) pss_nil)
 (pss_cons (ps_if (pt_cmpR op_eq (pv 4) pe_str (nomark _)) (pss_one (ps_ret (pe_callTy call_int1 (by rfl) T.int (by decide +kernel) (pa_cons (pe_cmpR op_le (pv 2) (pv 3) (nomark _)) pa_nil)))) pss_nil)
 (pss_cons (ps_if (pt_cmpR op_eq (pv 4) pe_str (nomark _)) (pss_one (ps_ret (pe_callTy call_int1 (by rfl) T.int (by decide +kernel) (pa_cons (pe_cmpR op_gt (pv 2) (pv 3) (nomark _)) pa_nil)))) pss_nil)
 (pss_one (ps_ret (pe_callTy call_int1 (by rfl) T.int (by decide +kernel) (pa_cons (pe_cmpR op_ge (pv 2) (pv 3) (nomark _)) pa_nil))))))))))), _, fun ex He Hf => (sms_seq (sms_if (smt_t (f1 := false) (sm_op (f1 := false) (f2 := false) opd_eq (sm_ix (f2 := false) (sm_var 0) (sm_int _)) (sm_str _)))
 (sms_seq (sms_asg (sm_call len__law_signed (smq_cons (sm_var 1) (smq_cons (sm_var 2) smq_nil))) (smg_name 2))
 (sms_asg (sm_call len__law_signed (smq_cons (sm_var 1) (smq_cons (sm_var 3) smq_nil))) (smg_name 3)))
 sms_next)
 (sms_seq (sms_asg (sm_sl_str (f1 := false) (sm_var 0) (smp_some (f1 := false) (sm_op (f1 := false) (f2 := false) (opd_I0 (g' := fun i j => .int (i - j)) fun _ _ => rfl) (sm_cb (f1 := false) cbd_len (sma_cons (sm_var 0) sma_nil)) (sm_int _))) smp_none) (smg_name 4))
 (sms_seq (sms_if (smt_t (f1 := false) (sm_op (f1 := false) (f2 := false) opd_eq (sm_var 4) (sm_str _)))
 (sms_ret (sm_cb (f1 := false) cbd_int (sma_cons (sm_op (f1 := false) (f2 := false) opd_eq (sm_var 2) (sm_var 3)) sma_nil)))
 sms_next)
 (sms_seq (sms_if (smt_t (f1 := false) (sm_op (f1 := false) (f2 := false) opd_eq (sm_var 4) (sm_str _)))
 (sms_ret (sm_cb (f1 := false) cbd_int (sma_cons (sm_op (f1 := false) (f2 := false) opd_ne (sm_var 2) (sm_var 3)) sma_nil)))
 sms_next)
 (sms_seq (sms_if (smt_t (f1 := false) (sm_op (f1 := false) (f2 := false) opd_eq (sm_var 4) (sm_str _)))
 (sms_ret (sm_cb (f1 := false) cbd_int (sma_cons (sm_op (f1 := false) (f2 := false) (opd_I0 (g' := fun i j => .bool (decide (i < j))) fun _ _ => rfl) (sm_var 2) (sm_var 3)) sma_nil)))
 sms_next)
 (sms_seq (sms_if (smt_t (f1 := false) (sm_op (f1 := false) (f2 := false) opd_eq (sm_var 4) (sm_str _)))
 (sms_ret (sm_cb (f1 := false) cbd_int (sma_cons (sm_op (f1 := false) (f2 := false) (opd_I0 (g' := fun i j => .bool (decide (i ≤ j))) fun _ _ => rfl) (sm_var 2) (sm_var 3)) sma_nil)))
 sms_next)
 (sms_seq (sms_if (smt_t (f1 := false) (sm_op (f1 := false) (f2 := false) opd_eq (sm_var 4) (sm_str _)))
 (sms_ret (sm_cb (f1 := false) cbd_int (sma_cons (sm_op (f1 := false) (f2 := false) (opd_I0 (g' := fun i j => .bool (decide (j < i))) fun _ _ => rfl) (sm_var 2) (sm_var 3)) sma_nil)))
 sms_next)
 (sms_ret (sm_cb (f1 := false) cbd_int (sma_cons (sm_op (f1 := false) (f2 := false) (opd_I0 (g' := fun i j => .bool (decide (j ≤ i))) fun _ _ => rfl) (sm_var 2) (sm_var 3)) sma_nil)))))))))), ?_⟩
  rintro rs Φ ⟨p, w, x, y, rfl, hp, h1, h2, h⟩
  rcases preds_cases hp with rfl | rfl | rfl | rfl | rfl | rfl | rfl | rfl | rfl | rfl
  · simp [pl_eq, pc_eq, pw_eq, nos_e]
    simpa [cmpI, b2i] using h
  · simp [pl_ne, pc_ne, pw_ne, nos_n]
    simpa [cmpI, b2i] using h
  · simp [pl_ult, pc_ult, pw_ult, nos_u]
    simpa [cmpI, b2i] using h
  · simp [pl_ule, pc_ule, pw_ule, nos_u]
    simpa [cmpI, b2i] using h
  · simp [pl_ugt, pc_ugt, pw_ugt, nos_u]
    simpa [cmpI, b2i] using h
  · simp [pl_uge, pc_uge, pw_uge, nos_u]
    simpa [cmpI, b2i] using h
  · simp [pl_slt, pc_slt, pw_slt, yes_s]
    refine ⟨w, x, rfl, h1, h2, w, y, rfl, h1, h2, ?_⟩
    simp [pl_slt, pc_slt, pw_slt, yes_s]
    simpa [cmpI, b2i] using h
  · simp [pl_sle, pc_sle, pw_sle, yes_s]
    refine ⟨w, x, rfl, h1, h2, w, y, rfl, h1, h2, ?_⟩
    simp [pl_sle, pc_sle, pw_sle, yes_s]
    simpa [cmpI, b2i] using h
  · simp [pl_sgt, pc_sgt, pw_sgt, yes_s]
    refine ⟨w, x, rfl, h1, h2, w, y, rfl, h1, h2, ?_⟩
    simp [pl_sgt, pc_sgt, pw_sgt, yes_s]
    simpa [cmpI, b2i] using h
  · simp [pl_sge, pc_sge, pw_sge, yes_s]
    refine ⟨w, x, rfl, h1, h2, w, y, rfl, h1, h2, ?_⟩
    simp [pl_sge, pc_sge, pw_sge, yes_s]
    simpa [cmpI, b2i] using h


theorem and_bit (x k : Nat) : x &&& 2 ^ k = (x.testBit k).toNat * 2 ^ k := by
  rw [PySem.W.kbt_nat, Nat.testBit_eq_decide_div_mod_eq]
  rcases Nat.mod_two_eq_zero_or_one (x / 2 ^ k) with e | e <;> simp [e]
theorem bit_zero (x k : Nat) : x &&& 2 ^ k = 0 ↔ x.testBit k = false := by
  have := Nat.two_pow_pos k
  rw [and_bit]
  cases x.testBit k <;> simp
theorem bit_same (x y k : Nat) : x &&& 2 ^ k = y &&& 2 ^ k ↔ x.testBit k = y.testBit k := by
  have := Nat.two_pow_pos k
  rw [and_bit, and_bit]
  cases x.testBit k <;> cases y.testBit k <;> simp <;> (try omega)

theorem oLc_q {Q : Nat → Prop} {da : DE} {i : Nat} {de : DE} {δ : Dl} {Φ : List PyData → Prop} (h : ∀ Ψ : PyData → Prop, (∀ n : Nat, n < 1000000 → Q n → Ψ (.int n)) → da δ Ψ) (P : List PyData → Prop) (h0 : P [])
    (hs : ∀ (k : Nat) (acc : List PyData) (Ψ : PyData → Prop), acc.length = k → P acc → (∀ z, P (acc ++ [z]) → Ψ z) → de (δ.set i (some (.d (.int k)))) Ψ) (hΦ : ∀ n acc, Q n → acc.length = n → P acc → Φ acc) : oLc (iR1 da) i dYes de δ Φ := by
  unfold oLc
  refine h _ fun n hn hq => ⟨n, rfl, by omega, by omega, fun k acc => acc.length = k ∧ P acc, ⟨rfl, h0⟩, fun k y acc hy ha => ?_, fun acc ha => ?_⟩
  · obtain ⟨hk, rfl⟩ := rng_get hy
    have hk : k < n := hk
    unfold dYes
    dsimp only
    rw [if_pos rfl]
    rw [show (0 : Int) + (k : Int) = (k : Int) from Int.zero_add _]
    refine hs k acc _ ha.1 ha.2 fun z hz => ⟨?_, ?_, hz⟩
    · rw [ha.1]
      exact Nat.lt_of_lt_of_le (show k < 1000000 by omega) (by decide)
    · rw [List.length_append, ha.1]; rfl
  · rw [rng_len] at ha
    exact hΦ n acc hq ha.1 ha.2
theorem oLc_w {di : DI} {i : Nat} {de : DE} {δ : Dl} {Φ : List PyData → Prop} {xs : List PyData} (hn : xs.length < 1000000) (h : ∀ Ψ : List PyData → Prop, Ψ xs → di δ Ψ) (P : List PyData → Prop) (h0 : P [])
    (hs : ∀ (k : Nat) (y : PyData) (acc : List PyData) (Ψ : PyData → Prop), xs[k]? = some y → acc.length = k → P acc → (∀ z, P (acc ++ [z]) → Ψ z) → de (δ.set i (some (.d y))) Ψ) (hΦ : ∀ acc, acc.length = xs.length → P acc → Φ acc) : oLc di i dYes de δ Φ := by
  unfold oLc
  refine h _ ⟨fun k acc => acc.length = k ∧ P acc, ⟨rfl, h0⟩, fun k y acc hy ha => ?_, fun acc ha => hΦ acc ha.1 ha.2⟩
  unfold dYes
  dsimp only
  rw [if_pos rfl]
  have hk := (List.getElem?_eq_some_iff.mp hy).1
  refine hs k y acc _ hy ha.1 ha.2 fun z hz => ⟨?_, ?_, hz⟩
  · rw [ha.1]
    exact Nat.lt_of_lt_of_le (show k < 1000000 by omega) (by decide)
  · rw [List.length_append, ha.1]; rfl
theorem nl_len (vs : List Nat) : (nl vs).length = vs.length := by simp [nl]
theorem nl_snoc (vs : List Nat) (n : Nat) : nl (vs ++ [n]) = nl vs ++ [.int n] := by simp [nl]
theorem nl_at {vs : List Nat} {k : Nat} {y : PyData} (h : (nl vs)[k]? = some y) : ∃ v ∈ vs, y = .int (v : Int) := by
  rw [nl, List.getElem?_map, List.getElem?_map] at h
  cases e : vs[k]? with
  | none => rw [e] at h; cases h
  | some v => rw [e] at h; exact ⟨v, List.mem_of_getElem? e, (Option.some.inj h).symm⟩
def Ps (w : Nat) (acc : List PyData) : Prop := ∃ vs : List Nat, (∀ v ∈ vs, v < 2 ^ w) ∧ acc = nl vs
theorem ps_snoc {w n : Nat} {acc : List PyData} (h : Ps w acc) (hn : n < 2 ^ w) : Ps w (acc ++ [.int n]) := by
  obtain ⟨vs, hv, rfl⟩ := h
  refine ⟨vs ++ [n], fun v hm => ?_, (nl_snoc vs n).symm⟩
  rcases List.mem_append.mp hm with hm | hm
  · exact hv v hm
  · rw [List.mem_singleton.mp hm]; exact hn
theorem ite_t {p : Prop} {d : Decidable p} {a b : Prop} (h : p) (ha : a) : @ite Prop p d a b := by rw [if_pos h]; exact ha
theorem ite_f {p : Prop} {d : Decidable p} {a b : Prop} (h : ¬ p) (ha : b) : @ite Prop p d a b := by rw [if_neg h]; exact ha

theorem tk_of100 {m : Int} (h : 0 < m) (h2 : m ≤ 100) : Tk m := ⟨h, Nat.lt_of_lt_of_le (show m.natAbs < 2 ^ 7 by omega) (Nat.pow_le_pow_right (by decide) (by decide))⟩
def vp__law_loose : VSp := fun rs Φ => ∃ (r : Rg) (w : Nat), rs = [.drw, .d (rg r), .d (.int w)] ∧ r.l < 2 ^ w ∧ r.h < 2 ^ w ∧ 1 ≤ w ∧ w ≤ 64 ∧ ∀ l h m n : Nat, l ≤ r.l → r.h ≤ h → h < 2 ^ w → Φ (.d (rg ⟨l, h, r.z &&& m, r.o &&& n⟩))
theorem len__law_loose : ∀ rs Φ, vp__law_loose rs Φ → rs.length = 3 := fun rs Φ ⟨_, _, e, _⟩ => by rw [e]; rfl
theorem G__law_loose (T : Txt K mg w) : FnOk P w K mg base CX0 3 T.f__law_loose T.fd__law_loose ["draw", "bounds", "w"] (toSp K 3 vp__law_loose) := by
  refine fn_ok T.F__law_loose sc__law_loose fun cdv A outer s H E hr => ⟨_, (pss_cons (ps_set (i := 3) sc__law_loose.nd rfl (Or.inl rfl) (pe_op op_sub (pe_op op_shl pe_int (pv 2)) pe_int))
 (pss_cons (ps_asg (pv 1) (pg_tup (n := 4) rfl (pgs_cons (pg_name (i := 6) sc__law_loose.nd rfl (Or.inl rfl)) (pgs_cons (pg_name (i := 7) sc__law_loose.nd rfl (Or.inl rfl)) (pgs_cons (pg_name (i := 8) sc__law_loose.nd rfl (Or.inl rfl)) (pgs_cons (pg_name (i := 9) sc__law_loose.nd rfl (Or.inl rfl)) pgs_nil))))))
 (pss_cons (ps_set (i := 4) sc__law_loose.nd rfl (Or.inl rfl) (pe_call (G__law_take T) (hr.mono (by decide)) (by rfl) T.g__law_take T.F__law_take.kp T.b__law_take .nil pass0 (pa_cons (pv 0) (pa_cons pe_int pa_nil))))
 (pss_cons (ps_if (pt_cmpR op_eq (pv 4) pe_int (nomark _)) (pss_one (ps_ret (pv 1))) pss_nil)
 (pss_cons (ps_if (pt_cmpR op_gt (pv 4) pe_int (nomark _)) (pss_cons (ps_set (i := 6) sc__law_loose.nd rfl (Or.inl rfl) (pe_op op_sub (pv 6) (pe_call (G__law_take T) (hr.mono (by decide)) (by rfl) T.g__law_take T.F__law_take.kp T.b__law_take .nil pass0 (pa_cons (pv 0) (pa_cons (pe_op op_add (pe_callB (call_min2 rfl) (by rfl) T.min (by decide +kernel) (pa_cons (pv 6) (pa_cons pe_int pa_nil))) pe_int) pa_nil)))))
 (pss_one (ps_set (i := 7) sc__law_loose.nd rfl (Or.inl rfl) (pe_op op_add (pv 7) (pe_call (G__law_take T) (hr.mono (by decide)) (by rfl) T.g__law_take T.F__law_take.kp T.b__law_take .nil pass0 (pa_cons (pv 0) (pa_cons (pe_op op_add (pe_callB (call_min2 rfl) (by rfl) T.min (by decide +kernel) (pa_cons (pe_op op_sub (pv 3) (pv 7)) (pa_cons pe_int pa_nil))) pe_int) pa_nil))))))) pss_nil)
 (pss_cons (ps_if (pt_cmpR op_eq (pv 4) pe_int (nomark _)) (pss_one (ps_set (i := 6) sc__law_loose.nd rfl (Or.inl rfl) (pe_op op_fdivW (pv 6) (pe_op op_add pe_int (pe_call (G__law_take T) (hr.mono (by decide)) (by rfl) T.g__law_take T.F__law_take.kp T.b__law_take .nil pass0 (pa_cons (pv 0) (pa_cons pe_int pa_nil))))))) pss_nil)
 (pss_cons (ps_set (i := 5) sc__law_loose.nd rfl (Or.inl rfl) (pe_call (G__law_number T) hr (by rfl) T.g__law_number T.F__law_number.kp T.b__law_number .nil pass0 (pa_cons (pv 0) (pa_cons (pv 2) pa_nil))))
 (pss_one (ps_ret (pe_tup (pa_cons (pv 6) (pa_cons (pv 7) (pa_cons (pe_op op_and (pv 8) (pv 5)) (pa_cons (pe_op op_and (pv 9) (pe_op op_shr (pv 5) (pe_call (G__law_take T) (hr.mono (by decide)) (by rfl) T.g__law_take T.F__law_take.kp T.b__law_take .nil pass0 (pa_cons (pv 0) (pa_cons pe_int pa_nil))))) pa_nil)))))))))))))), _, fun ex He Hf => (sms_seq (sms_asg (sm_op (f1 := false) (f2 := false) (opd_I0 (g' := fun i j => .int (i - j)) fun _ _ => rfl) (sm_op (f1 := false) (f2 := false) (opd_I (g' := fun i j => .int (i * 2 ^ j.toNat)) fun _ _ => rfl) (sm_int _) (sm_var 2)) (sm_int _)) (smg_name 3))
 (sms_seq (sms_asg (sm_var 1) (smg_tup (smg_cons (smg_name 6) (smg_cons (smg_name 7) (smg_cons (smg_name 8) (smg_cons (smg_name 9) smg_nil))))))
 (sms_seq (sms_asg (sm_call len__law_take (smq_drw 0 (smq_cons (sm_int _) smq_nil))) (smg_name 4))
 (sms_seq (sms_if (smt_t (f1 := false) (sm_op (f1 := false) (f2 := false) opd_eq (sm_var 4) (sm_int _)))
 (sms_ret (sm_var 1))
 sms_next)
 (sms_seq (sms_if (smt_t (f1 := false) (sm_op (f1 := false) (f2 := false) (opd_I0 (g' := fun i j => .bool (decide (j < i))) fun _ _ => rfl) (sm_var 4) (sm_int _)))
 (sms_seq (sms_asg (sm_op (f1 := false) (f2 := false) (opd_I0 (g' := fun i j => .int (i - j)) fun _ _ => rfl) (sm_var 6) (sm_call len__law_take (smq_drw 0 (smq_cons (sm_op (f1 := false) (f2 := false) (opd_I0 (g' := fun i j => .int (i + j)) fun _ _ => rfl) (sm_cb (f1 := false) cbd_min (sma_cons (sm_var 6) (sma_cons (sm_int _) sma_nil))) (sm_int _)) smq_nil)))) (smg_name 6))
 (sms_asg (sm_op (f1 := false) (f2 := false) (opd_I0 (g' := fun i j => .int (i + j)) fun _ _ => rfl) (sm_var 7) (sm_call len__law_take (smq_drw 0 (smq_cons (sm_op (f1 := false) (f2 := false) (opd_I0 (g' := fun i j => .int (i + j)) fun _ _ => rfl) (sm_cb (f1 := false) cbd_min (sma_cons (sm_op (f1 := false) (f2 := false) (opd_I0 (g' := fun i j => .int (i - j)) fun _ _ => rfl) (sm_var 3) (sm_var 7)) (sma_cons (sm_int _) sma_nil))) (sm_int _)) smq_nil)))) (smg_name 7)))
 sms_next)
 (sms_seq (sms_if (smt_t (f1 := false) (sm_op (f1 := false) (f2 := false) opd_eq (sm_var 4) (sm_int _)))
 (sms_asg (sm_op (f1 := false) (f2 := false) (opd_I (g' := fun i j => .int (i / j)) fun _ _ => rfl) (sm_var 6) (sm_op (f1 := false) (f2 := false) (opd_I0 (g' := fun i j => .int (i + j)) fun _ _ => rfl) (sm_int _) (sm_call len__law_take (smq_drw 0 (smq_cons (sm_int _) smq_nil))))) (smg_name 6))
 sms_next)
 (sms_seq (sms_asg (sm_call len__law_number (smq_drw 0 (smq_cons (sm_var 2) smq_nil))) (smg_name 5))
 (sms_ret (sm_tup (sma_cons (sm_var 6) (sma_cons (sm_var 7) (sma_cons (sm_op (f1 := false) (f2 := false) (opd_I0 (g' := fun i j => .int (Builtin.bitAnd i j)) fun _ _ => rfl) (sm_var 8) (sm_var 5)) (sma_cons (sm_op (f1 := false) (f2 := false) (opd_I0 (g' := fun i j => .int (Builtin.bitAnd i j)) fun _ _ => rfl) (sm_var 9) (sm_op (f1 := false) (f2 := false) (opd_I (g' := fun i j => .int (i / 2 ^ j.toNat)) fun _ _ => rfl) (sm_var 5) (sm_call len__law_take (smq_drw 0 (smq_cons (sm_int _) smq_nil))))) sma_nil))))))))))))), ?_⟩
  rintro rs Φ ⟨r, w, rfl, hrl, hrh, h1, h2, h⟩
  have pw : 0 < 2 ^ w := Nat.two_pow_pos w
  obtain ⟨top, htop⟩ : ∃ top : Nat, top = 2 ^ w - 1 := ⟨_, rfl⟩
  have etop : (2 : Int) ^ w - 1 = (top : Int) := by
    rw [← PySem.W.kbt_cast]
    omega
  have cw : CPow 1 (w : Int) := cp1 (by omega) (by omega)
  have fin : ∀ (L U : Int), 0 ≤ L → L ≤ r.l → (r.h : Int) ≤ U → U ≤ (top : Int) → vp__law_number [R.drw, R.d (.int w)] fun rr => ∃ x, rr.data = .int x ∧ ∀ q : Int, 0 ≤ q → q < 3 → ∃ i, rr.data = .int i ∧ 0 ≤ q ∧ 4 ≤ sizeLine ∧ Φ (RX.d (.tuple [.int L, .int U, .int (Builtin.bitAnd (r.z : Int) x), .int (Builtin.bitAnd (r.o : Int) (i / 2 ^ q.toNat))])) := by
    intro L U hL hL2 hU hU2
    obtain ⟨l, rfl⟩ := Int.eq_ofNat_of_zero_le hL
    obtain ⟨u, rfl⟩ := Int.eq_ofNat_of_zero_le (show 0 ≤ U by omega)
    refine ⟨w, rfl, h1, h2, fun n hn => ⟨n, rfl, fun q q0 q1 => ⟨n, rfl, q0, by decide, ?_⟩⟩⟩
    have e : (n : Int) / 2 ^ q.toNat = ((n / 2 ^ q.toNat : Nat) : Int) := by
      rw [← PySem.W.kbt_cast]
      rfl
    rw [e, bA, bA]
    exact h l u n (n / 2 ^ q.toNat) (by omega) (by omega) (by omega)
  simp [rg, etop]
  first | refine ⟨cw, rfl, _, _, ⟨rfl, rfl⟩, rfl, fun how h0 h5 => ?_⟩ | refine ⟨cw, fun how h0 h5 => ?_⟩
  split
  · have := h r.l r.h r.z r.o (Nat.le_refl _) (Nat.le_refl _) hrh
    rw [Nat.and_self, Nat.and_self] at this
    exact this
  split
  · refine ⟨tk_of100 (by split <;> omega) (by split <;> omega), fun a a0 a1 => ⟨tk_of100 (by split <;> omega) (by split <;> omega), fun b b0 b1 => ?_⟩⟩
    have a2 : a ≤ r.l := by
      split at a1 <;> omega
    have b2 : b ≤ top - r.h := by
      split at b1 <;> omega
    split
    · exact fun c c0 c1 => ⟨cdw (by omega) (by omega), fin _ _ (Int.ediv_nonneg (by omega) (by omega)) (Int.le_trans (Int.ediv_le_self _ (by omega)) (by omega)) (by omega) (by omega)⟩
    · exact fin _ _ (by omega) (by omega) (by omega) (by omega)
  split
  · exact fun c c0 c1 => ⟨cdw (by omega) (by omega), fin _ _ (Int.ediv_nonneg (by omega) (by omega)) (Int.ediv_le_self _ (by omega)) (by omega) (by omega)⟩
  · exact fin _ _ (by omega) (by omega) (by omega) (by omega)

instance memDec (v : Nat) (a : Rg) : Decidable (Mem v a) := by unfold Mem; infer_instance
def vp__law_member : VSp := fun rs Φ => ∃ (a : Rg) (v : Nat), rs = [.d (rg a), .d (.int v)] ∧ Φ (.d (.bool (decide (Mem v a))))
theorem len__law_member : ∀ rs Φ, vp__law_member rs Φ → rs.length = 2 := fun rs Φ ⟨_, _, e, _⟩ => by rw [e]; rfl
theorem G__law_member (T : Txt K mg w) : FnOk P w K mg base CX0 1 T.f__law_member T.fd__law_member ["bounds", "value"] (toSp K 2 vp__law_member) := by
  refine fn_ok T.F__law_member sc__law_member fun cdv A outer s H E hr => ⟨_, (pss_cons (ps_asg (pv 0) (pg_tup (n := 4) rfl (pgs_cons (pg_name (i := 2) sc__law_member.nd rfl (Or.inl rfl)) (pgs_cons (pg_name (i := 3) sc__law_member.nd rfl (Or.inl rfl)) (pgs_cons (pg_name (i := 4) sc__law_member.nd rfl (Or.inl rfl)) (pgs_cons (pg_name (i := 5) sc__law_member.nd rfl (Or.inl rfl)) pgs_nil))))))
 (pss_one (ps_ret (pe_and (pe_chain op_le op_le (pv 2) (pv 1) (pv 3)) (pe_and (pe_cmpR op_eq (pe_op op_and (pv 1) (pv 4)) pe_int (nomark _)) (pe_one (pe_cmpR op_eq (pe_op op_and (pv 1) (pv 5)) (pv 5) (nomark _)))))))), _, fun ex He Hf => (sms_seq (sms_asg (sm_var 0) (smg_tup (smg_cons (smg_name 2) (smg_cons (smg_name 3) (smg_cons (smg_name 4) (smg_cons (smg_name 5) smg_nil))))))
 (sms_ret (sm_and (f1 := false) (sm_chain (f1 := false) (f2 := false) (f3 := false) (opd_I0 (g' := fun i j => .bool (decide (i ≤ j))) fun _ _ => rfl) (opd_I0 (g' := fun i j => .bool (decide (i ≤ j))) fun _ _ => rfl) (sm_var 2) (sm_var 1) (sm_var 3)) (sm_and (f1 := false) (sm_op (f1 := false) (f2 := false) opd_eq (sm_op (f1 := false) (f2 := false) (opd_I0 (g' := fun i j => .int (Builtin.bitAnd i j)) fun _ _ => rfl) (sm_var 1) (sm_var 4)) (sm_int _)) (sm_op (f1 := false) (f2 := false) opd_eq (sm_op (f1 := false) (f2 := false) (opd_I0 (g' := fun i j => .int (Builtin.bitAnd i j)) fun _ _ => rfl) (sm_var 1) (sm_var 5)) (sm_var 5)))))), ?_⟩
  rintro rs Φ ⟨a, v, rfl, h⟩
  have inj : ∀ x y : Nat, ((x : Int) = (y : Int)) = (x = y) := fun x y => propext Int.ofNat_inj
  simp [startD, rg, bA, inj]
  by_cases c1 : a.l ≤ v
  · by_cases c2 : v ≤ a.h
    · by_cases c3 : v &&& a.z = 0
      · by_cases c4 : v &&& a.o = a.o
        · rw [decide_eq_true ⟨c1, c2, c3, c4⟩] at h
          simpa [c1, c2, c3, c4] using h
        · rw [decide_eq_false (fun c => c4 c.2.2.2)] at h
          simpa [c1, c2, c3, c4] using h
      · rw [decide_eq_false (fun c => c3 c.2.2.1)] at h
        simpa [c1, c2, c3] using h
    · rw [decide_eq_false (fun c => c2 c.2.1)] at h
      simpa [c1, c2] using h
  · rw [decide_eq_false (fun c => c1 c.1)] at h
    simpa [c1] using h


def vp__law_is_range : VSp := fun rs Φ => ∃ (a : Rg) (w : Nat), rs = [.d (rg a), .d (.int w)] ∧ InW w a ∧ w ≤ 64 ∧ a.l ≤ a.h ∧ a.z &&& a.o = 0 ∧ Φ (.d (.bool true))
theorem len__law_is_range : ∀ rs Φ, vp__law_is_range rs Φ → rs.length = 2 := fun rs Φ ⟨_, _, e, _⟩ => by rw [e]; rfl
theorem pw_cast (w : Nat) : (2 : Int) ^ w = ((2 ^ w : Nat) : Int) := (PySem.W.kbt_cast w).symm
theorem G__law_is_range (T : Txt K mg w) : FnOk P w K mg base CX0 2 T.f__law_is_range T.fd__law_is_range ["bounds", "w"] (toSp K 2 vp__law_is_range) := by
  refine fn_ok T.F__law_is_range sc__law_is_range fun cdv A outer s H E hr => ⟨_, (pss_cons (ps_if (PW.pt (pw_or (pt_not (pt_val (pe_callB (kx_isi (K := K) rfl) (by rfl) T.isinstance (by decide +kernel) (pa_cons (pv 0) (pa_cons (pe_bltn (v := .ty "tuple") (by rfl) T.tuple (by decide +kernel) rfl) pa_nil))))) (pw_or1 (pt_cmpR op_ne (pe_callB (kx_len (K := K) rfl) (by rfl) T.len PySem.boot_len (pa_cons (pv 0) pa_nil)) pe_int (nomark _))))) (pss_one (ps_ret pe_bl)) pss_nil)
 (pss_cons (ps_for PassesOwn.never rfl ((kpi_tup (K := K) rfl (pv 0))) (pg_name (i := 2) sc__law_is_range.nd rfl (Or.inl rfl)) (pss_one (ps_if (PW.pt (pw_or (pt_not (pt_val (pe_call (G__law_whole T) hr (by rfl) T.g__law_whole T.F__law_whole.kp T.b__law_whole .nil pass0 (pa_cons (pv 2) pa_nil)))) (pw_or (pt_cmpR op_lt (pv 2) pe_int (nomark _)) (pw_or1 (pt_cmpR op_ge (pv 2) (pe_op op_shl pe_int (pv 1)) (nomark _)))))) (pss_one (ps_ret pe_bl)) pss_nil)))
 (pss_one (ps_ret (pe_and (pe_cmpR op_le (pe_ix (kx_seq (K := K) rfl) (pv 0) pe_int (fun _ _ => rfl)) (pe_ix (kx_seq (K := K) rfl) (pv 0) pe_int (fun _ _ => rfl)) (nomark _)) (pe_one (pe_cmpR op_eq (pe_op op_and (pe_ix (kx_seq (K := K) rfl) (pv 0) pe_int (fun _ _ => rfl)) (pe_ix (kx_seq (K := K) rfl) (pv 0) pe_int (fun _ _ => rfl))) pe_int (nomark _)))))))), _, fun ex He Hf => (sms_seq (sms_if (smt_or (smt_not (smt_b (f1 := false) (sm_isi (f1 := false) "tuple" (sm_var 0)))) (smt_t (f1 := false) (sm_op (f1 := false) (f2 := false) opd_ne (sm_cb (f1 := false) cbd_len (sma_cons (sm_var 0) sma_nil)) (sm_int _))))
 (sms_ret (sm_bl _))
 sms_next)
 (sms_seq (sms_for (smi_tup (sm_var 0)) (smg_name 2)
 (sms_if (smt_or (smt_not (smt_b (f1 := false) (sm_call len__law_whole (smq_cons (sm_var 2) smq_nil)))) (smt_or (smt_t (f1 := false) (sm_op (f1 := false) (f2 := false) (opd_I0 (g' := fun i j => .bool (decide (i < j))) fun _ _ => rfl) (sm_var 2) (sm_int _))) (smt_t (f1 := false) (sm_op (f1 := false) (f2 := false) (opd_I0 (g' := fun i j => .bool (decide (j ≤ i))) fun _ _ => rfl) (sm_var 2) (sm_op (f1 := false) (f2 := false) (opd_I (g' := fun i j => .int (i * 2 ^ j.toNat)) fun _ _ => rfl) (sm_int _) (sm_var 1))))))
 (sms_ret (sm_bl _))
 sms_next))
 (sms_ret (sm_and (f1 := false) (sm_op (f1 := false) (f2 := false) (opd_I0 (g' := fun i j => .bool (decide (i ≤ j))) fun _ _ => rfl) (sm_ix (f2 := false) (sm_var 0) (sm_int _)) (sm_ix (f2 := false) (sm_var 0) (sm_int _))) (sm_op (f1 := false) (f2 := false) opd_eq (sm_op (f1 := false) (f2 := false) (opd_I0 (g' := fun i j => .int (Builtin.bitAnd i j)) fun _ _ => rfl) (sm_ix (f2 := false) (sm_var 0) (sm_int _)) (sm_ix (f2 := false) (sm_var 0) (sm_int _))) (sm_int _)))))), ?_⟩
  rintro rs Φ ⟨a, w, rfl, ha, hw, hlh, hzo, h⟩
  refine seq_op fun N hN => ?_
  refine dIfS_two (fun b => b = false) (fun Ψ hΨ => ?_) (fun hb => by cases hb) (fun _ => ?_)
  · simp [startD, rg, tyD]
    exact hΨ _ rfl
  simp only [dNext]
  refine hN _ ?_
  clear hN N
  refine seq_op fun N hN => ?_
  obtain ⟨I, hI⟩ : ∃ I : Nat → Dl → Prop, ∀ k δ, I k δ ↔ ∃ y : Option R, δ = [some (.d (rg a)), some (.d (.int w)), y] := ⟨_, fun _ _ => Iff.rfl⟩
  refine dFor_w (xs := nl [a.l, a.h, a.z, a.o]) (fun Ψ h => by simpa [startD, rg, nl] using h) I ((hI _ _).mpr ⟨none, rfl⟩) (fun k z δ hz hJ => ?_) (fun δ hJ => ?_)
  · obtain ⟨y, rfl⟩ := (hI _ _).mp hJ
    obtain ⟨v, hv, rfl⟩ : ∃ v ∈ [a.l, a.h, a.z, a.o], z = .int (v : Int) := by
      rw [nl, List.getElem?_map, List.getElem?_map] at hz
      cases e : [a.l, a.h, a.z, a.o][k]? with
      | none => rw [e] at hz; cases hz
      | some v => rw [e] at hz; exact ⟨v, List.mem_of_getElem? e, (Option.some.inj hz).symm⟩
    have hvw : v < 2 ^ w := by
      simp at hv
      rcases hv with rfl | rfl | rfl | rfl
      · exact ha.1
      · exact ha.2.1
      · exact ha.2.2.1
      · exact ha.2.2.2
    refine dIfS_two (fun b => b = false) (fun Ψ hΨ => ?_) (fun hb => by cases hb) (fun _ => ?_)
    · simp
      refine ⟨v, rfl, ?_⟩
      have n1 : ¬ (2 : Int) ^ w ≤ (v : Int) := by rw [pw_cast]; omega
      have n2 : ¬ (v : Int) < 0 := by omega
      simp [n1, n2]
      exact ⟨cp1 (by omega) (by omega), hΨ _ rfl⟩
    simp only [dNext]
    exact (hI _ _).mpr ⟨_, rfl⟩
  obtain ⟨y, rfl⟩ := (hI _ _).mp hJ
  refine hN _ ?_
  have c1 : (a.l : Int) ≤ (a.h : Int) := by omega
  simp [rg, bA, hzo, hlh]
  exact h
def tz (w : Nat) (vs : List Nat) : Nat := vs.foldl (fun z v => z &&& (2 ^ w - 1 - v)) (2 ^ w - 1)
def to' (w : Nat) (vs : List Nat) : Nat := vs.foldl (fun o v => o &&& v) (2 ^ w - 1)
theorem tz_snoc (w : Nat) (vs : List Nat) (v : Nat) : tz w (vs ++ [v]) = tz w vs &&& (2 ^ w - 1 - v) := by unfold tz; rw [List.foldl_append]; rfl
theorem to_snoc (w : Nat) (vs : List Nat) (v : Nat) : to' w (vs ++ [v]) = to' w vs &&& v := by unfold to'; rw [List.foldl_append]; rfl
theorem nl_getk {vs : List Nat} {k : Nat} {y : PyData} (h : (nl vs)[k]? = some y) : ∃ v : Nat, vs[k]? = some v ∧ y = .int (v : Int) := by
  rw [nl, List.getElem?_map, List.getElem?_map] at h
  cases e : vs[k]? with
  | none => rw [e] at h; cases h
  | some v => rw [e] at h; exact ⟨v, rfl, (Option.some.inj h).symm⟩
theorem nl_len' (vs : List Nat) : (nl vs).length = vs.length := by simp [nl]
def vp__law_tight : VSp := fun rs Φ => ∃ (vs : List Nat) (w : Nat), rs = [.d (.list (nl vs)), .d (.int w)] ∧ 0 < vs.length ∧ (∀ v ∈ vs, v < 2 ^ w) ∧ w ≤ 64 ∧ ∀ m M : Nat, m ∈ vs → (∀ y ∈ vs, m ≤ y) → M ∈ vs → (∀ y ∈ vs, y ≤ M) → Φ (.d (rg ⟨m, M, tz w vs, to' w vs⟩))
theorem len__law_tight : ∀ rs Φ, vp__law_tight rs Φ → rs.length = 2 := fun rs Φ ⟨_, _, e, _⟩ => by rw [e]; rfl
theorem G__law_tight (T : Txt K mg w) : FnOk P w K mg base CX0 1 T.f__law_tight T.fd__law_tight ["values", "w"] (toSp K 2 vp__law_tight) := by
  refine fn_ok T.F__law_tight sc__law_tight fun cdv A outer s H E hr => ⟨_, (pss_cons (ps_set (i := 2) sc__law_tight.nd rfl (Or.inl rfl) (pe_op op_sub (pe_op op_shl pe_int (pv 1)) pe_int))
 (pss_cons (ps_set (i := 3) sc__law_tight.nd rfl (Or.inl rfl) (pv 2))
 (pss_cons (ps_set (i := 4) sc__law_tight.nd rfl (Or.inl rfl) (pv 2))
 (pss_cons (ps_for PassesOwn.never rfl ((kpi_list (K := K) rfl (pv 0))) (pg_name (i := 5) sc__law_tight.nd rfl (Or.inl rfl)) (pss_cons (ps_set (i := 3) sc__law_tight.nd rfl (Or.inl rfl) (pe_op op_and (pv 3) (pe_op op_sub (pv 2) (pv 5))))
 (pss_one (ps_set (i := 4) sc__law_tight.nd rfl (Or.inl rfl) (pe_op op_and (pv 4) (pv 5))))))
 (pss_one (ps_ret (pe_tup (pa_cons (pe_callB (cr_min rfl) (by rfl) T.min (by decide +kernel) (pa_cons (pv 0) pa_nil)) (pa_cons (pe_callB (cr_max rfl) (by rfl) T.max (by decide +kernel) (pa_cons (pv 0) pa_nil)) (pa_cons (pv 3) (pa_cons (pv 4) pa_nil))))))))))), _, fun ex He Hf => (sms_seq (sms_asg (sm_op (f1 := false) (f2 := false) (opd_I0 (g' := fun i j => .int (i - j)) fun _ _ => rfl) (sm_op (f1 := false) (f2 := false) (opd_I (g' := fun i j => .int (i * 2 ^ j.toNat)) fun _ _ => rfl) (sm_int _) (sm_var 1)) (sm_int _)) (smg_name 2))
 (sms_seq (sms_asg (sm_var 2) (smg_name 3))
 (sms_seq (sms_asg (sm_var 2) (smg_name 4))
 (sms_seq (sms_for (smi_list (sm_var 0)) (smg_name 5)
 (sms_seq (sms_asg (sm_op (f1 := false) (f2 := false) (opd_I0 (g' := fun i j => .int (Builtin.bitAnd i j)) fun _ _ => rfl) (sm_var 3) (sm_op (f1 := false) (f2 := false) (opd_I0 (g' := fun i j => .int (i - j)) fun _ _ => rfl) (sm_var 2) (sm_var 5))) (smg_name 3))
 (sms_asg (sm_op (f1 := false) (f2 := false) (opd_I0 (g' := fun i j => .int (Builtin.bitAnd i j)) fun _ _ => rfl) (sm_var 4) (sm_var 5)) (smg_name 4))))
 (sms_ret (sm_tup (sma_cons (sm_cb (f1 := false) cbd_minL (sma_cons (sm_var 0) sma_nil)) (sma_cons (sm_cb (f1 := false) cbd_maxL (sma_cons (sm_var 0) sma_nil)) (sma_cons (sm_var 3) (sma_cons (sm_var 4) sma_nil)))))))))), ?_⟩
  rintro rs Φ ⟨vs, w, rfl, hl, hv, h2, h⟩
  refine seq_op fun N hN => ?_
  simp [startD]
  rw [pw_nat]
  refine ⟨cp1 (by omega) (by omega), hN _ ?_⟩
  clear hN N
  refine seq_op fun N hN => ?_
  simp
  refine hN _ ?_
  clear hN N
  refine seq_op fun N hN => ?_
  simp
  refine hN _ ?_
  clear hN N
  refine seq_op fun N hN => ?_
  obtain ⟨I, hI⟩ : ∃ I : Nat → Dl → Prop, ∀ k δ, I k δ ↔ ∃ y : Option R, δ = [some (.d (.list (nl vs))), some (.d (.int w)), some (.d (.int ((2 ^ w - 1 : Nat) : Int))), some (.d (.int (tz w (vs.take k) : Nat))), some (.d (.int (to' w (vs.take k) : Nat))), y] := ⟨_, fun _ _ => Iff.rfl⟩
  refine dFor_w (xs := nl vs) (fun Ψ h => by simpa using h) I ((hI _ _).mpr ⟨none, rfl⟩) (fun k z δ hz hJ => ?_) (fun δ hJ => ?_)
  · obtain ⟨y, rfl⟩ := (hI _ _).mp hJ
    obtain ⟨v, hvk, rfl⟩ := nl_getk hz
    have hvw := hv v (List.mem_of_getElem? hvk)
    have ec : ((2 ^ w - 1 : Nat) : Int) - (v : Int) = ((2 ^ w - 1 - v : Nat) : Int) := by omega
    have et : vs.take (k + 1) = vs.take k ++ [v] := by rw [List.take_add_one, hvk]; rfl
    simp [ec, bA]
    exact (hI _ _).mpr ⟨some (.d (.int v)), by rw [et, tz_snoc, to_snoc]⟩
  · obtain ⟨y, rfl⟩ := (hI _ _).mp hJ
    rw [nl_len', List.take_length]
    refine hN _ ?_
    simp
    refine ⟨_, rfl, by rw [List.length_map]; exact hl, fun m hm1 hm2 => ⟨_, rfl, by rw [List.length_map]; exact hl, fun M hM1 hM2 => ⟨by decide, ?_⟩⟩⟩
    obtain ⟨m, m1, rfl⟩ := List.mem_map.mp hm1
    obtain ⟨M, M1, rfl⟩ := List.mem_map.mp hM1
    exact h m M m1 (fun y hy => Int.ofNat_le.mp (hm2 _ (List.mem_map_of_mem hy))) M1 fun y hy => Int.ofNat_le.mp (hM2 _ (List.mem_map_of_mem hy))
theorem rev_ind {P : List Nat → Prop} (h0 : P []) (hs : ∀ vs x, P vs → P (vs ++ [x])) (vs : List Nat) : P vs := by
  have : ∀ us : List Nat, P us.reverse := fun us => by
    induction us with
    | nil => exact h0
    | cons x us ih => rw [List.reverse_cons]; exact hs _ _ ih
  have h := this vs.reverse
  rw [List.reverse_reverse] at h
  exact h
theorem tz_le (w : Nat) : ∀ vs : List Nat, tz w vs ≤ 2 ^ w - 1 ∧ ∀ v ∈ vs, v < 2 ^ w → v &&& tz w vs = 0 := by
  refine rev_ind ⟨Nat.le_refl _, fun _ h => nomatch h⟩ fun vs x ih => ?_
  · rw [tz_snoc]
    refine ⟨Nat.le_trans Nat.and_le_left ih.1, fun v hv hw => ?_⟩
    rcases List.mem_append.mp hv with hv | hv
    · exact and_z (ih.2 v hv hw)
    · obtain rfl := List.mem_singleton.mp hv
      rw [Nat.and_comm (tz w vs), ← Nat.and_assoc, and_comp hw, Nat.zero_and]
theorem to_le (w : Nat) : ∀ vs : List Nat, to' w vs ≤ 2 ^ w - 1 ∧ ∀ v ∈ vs, v &&& to' w vs = to' w vs := by
  refine rev_ind ⟨Nat.le_refl _, fun _ h => nomatch h⟩ fun vs x ih => ?_
  · rw [to_snoc]
    refine ⟨Nat.le_trans Nat.and_le_left ih.1, fun v hv => ?_⟩
    rcases List.mem_append.mp hv with hv | hv
    · exact and_o (ih.2 v hv)
    · obtain rfl := List.mem_singleton.mp hv
      rw [Nat.and_comm (to' w vs), ← Nat.and_assoc, Nat.and_self]
theorem mem_disj {v : Nat} {a : Rg} (h : Mem v a) : a.l ≤ a.h ∧ a.z &&& a.o = 0 := by
  refine ⟨Nat.le_trans h.1 h.2.1, dis_iff.mpr fun k hk => ?_⟩
  cases e : a.o.testBit k with
  | false => rfl
  | true => rw [dis_iff.mp h.2.2.1 k (sup_iff.mp h.2.2.2 k e)] at hk; cases hk
/-- what a looser range keeps -/
theorem loose_ok {w : Nat} {r : Rg} {l u m n : Nat} (hr : InW w r) (h1 : l ≤ r.l) (h2 : r.h ≤ u) (h3 : u < 2 ^ w) : InW w ⟨l, u, r.z &&& m, r.o &&& n⟩ ∧ ∀ v, Mem v r → Mem v ⟨l, u, r.z &&& m, r.o &&& n⟩ :=
  ⟨⟨Nat.lt_of_le_of_lt h1 hr.1, h3, Nat.lt_of_le_of_lt Nat.and_le_left hr.2.2.1, Nat.lt_of_le_of_lt Nat.and_le_left hr.2.2.2⟩, fun v hv => ⟨Nat.le_trans h1 hv.1, Nat.le_trans hv.2.1 h2, and_z hv.2.2.1, and_o hv.2.2.2⟩⟩
theorem tight_ok {w : Nat} {vs : List Nat} {m M : Nat} (hv : ∀ v ∈ vs, v < 2 ^ w) (m1 : m ∈ vs) (m2 : ∀ y ∈ vs, m ≤ y) (M1 : M ∈ vs) (M2 : ∀ y ∈ vs, y ≤ M) : InW w ⟨m, M, tz w vs, to' w vs⟩ ∧ ∀ v ∈ vs, Mem v ⟨m, M, tz w vs, to' w vs⟩ := by
  have hp := Nat.two_pow_pos w
  have h1 := (tz_le w vs).1
  have h2 := (to_le w vs).1
  exact ⟨⟨hv m m1, hv M M1, by show tz w vs < _; omega, by show to' w vs < _; omega⟩, fun v hm => ⟨m2 v hm, M2 v hm, (tz_le w vs).2 v hm (hv v hm), (to_le w vs).2 v hm⟩⟩


theorem bit_at (x k : Nat) : (x : Int) / 2 ^ k % 2 = (if x.testBit k = true then 1 else 0) := by
  have e : (x : Int) / 2 ^ k = ((x / 2 ^ k : Nat) : Int) := by push_cast; rfl
  rw [e, Nat.testBit_eq_decide_div_mod_eq]
  rcases Nat.mod_two_eq_zero_or_one (x / 2 ^ k) with h | h
  · rw [h]; simp; omega
  · rw [h]; simp; omega
theorem shr_iff {l h k : Nat} : (l : Int) / 2 ^ k = (h : Int) / 2 ^ k ↔ bitN (l ^^^ h) ≤ k := by
  have c : ∀ x : Nat, (x : Int) / 2 ^ k = ((x / 2 ^ k : Nat) : Int) := fun x => by push_cast; rfl
  rw [c, c, Int.ofNat_inj]
  constructor
  · intro e
    refine bits_le ?_
    have : (l ^^^ h) >>> k = 0 := by
      rw [Nat.shiftRight_xor_distrib, Nat.shiftRight_eq_div_pow, Nat.shiftRight_eq_div_pow, e, Nat.xor_self]
    rw [Nat.shiftRight_eq_div_pow] at this
    exact (Nat.div_eq_zero_iff_lt (Nat.two_pow_pos k)).mp this
  · intro hb
    have hx := Nat.lt_of_lt_of_le (bits_bd (l ^^^ h)) (Nat.pow_le_pow_right (n := 2) (by decide) hb)
    have : (l ^^^ h) >>> k = 0 := by rw [Nat.shiftRight_eq_div_pow]; exact Nat.div_eq_of_lt hx
    rw [Nat.shiftRight_xor_distrib] at this
    rw [← Nat.shiftRight_eq_div_pow, ← Nat.shiftRight_eq_div_pow]
    refine Nat.eq_of_testBit_eq fun i => ?_
    have := congrArg (fun n => n.testBit i) this
    simp only [Nat.testBit_xor, Nat.zero_testBit] at this
    revert this
    cases (l >>> k).testBit i <;> cases (h >>> k).testBit i <;> simp
def Zk (a : Rg) (k z : Nat) : Prop := ∀ j, z.testBit j = (a.z.testBit j || (decide (j < k) && decide (bitN (a.l ^^^ a.h) ≤ j) && !a.l.testBit j))
def Ok (a : Rg) (k o : Nat) : Prop := ∀ j, o.testBit j = (a.o.testBit j || (decide (j < k) && decide (bitN (a.l ^^^ a.h) ≤ j) && a.l.testBit j))
theorem zk_step {a : Rg} {k z : Nat} (h : Zk a k z) : Zk a (k + 1) (if bitN (a.l ^^^ a.h) ≤ k ∧ a.l.testBit k = false then z ||| 2 ^ k else z) := fun j => by
  by_cases e : j = k
  · subst e
    by_cases c1 : bitN (a.l ^^^ a.h) ≤ j
    · cases c2 : a.l.testBit j with
      | false => rw [if_pos ⟨c1, rfl⟩, Nat.testBit_or, Nat.testBit_two_pow]; simp [c1]
      | true => rw [if_neg (fun q => by cases q.2), h j]; simp
    · rw [if_neg (fun q => c1 q.1), h j]; simp [c1]
  · have e1 : decide (j < k + 1) = decide (j < k) := decide_eq_decide.mpr (by omega)
    rw [e1, ← h j]
    split
    · rw [Nat.testBit_or, Nat.testBit_two_pow, decide_eq_false (fun q => e q.symm), Bool.or_false]
    · rfl
theorem ok_step {a : Rg} {k o : Nat} (h : Ok a k o) : Ok a (k + 1) (if bitN (a.l ^^^ a.h) ≤ k ∧ a.l.testBit k = true then o ||| 2 ^ k else o) := fun j => by
  by_cases e : j = k
  · subst e
    by_cases c1 : bitN (a.l ^^^ a.h) ≤ j
    · cases c2 : a.l.testBit j with
      | true => rw [if_pos ⟨c1, rfl⟩, Nat.testBit_or, Nat.testBit_two_pow]; simp [c1]
      | false => rw [if_neg (fun q => by cases q.2), h j]; simp
    · rw [if_neg (fun q => c1 q.1), h j]; simp [c1]
  · have e1 : decide (j < k + 1) = decide (j < k) := decide_eq_decide.mpr (by omega)
    rw [e1, ← h j]
    split
    · rw [Nat.testBit_or, Nat.testBit_two_pow, decide_eq_false (fun q => e q.symm), Bool.or_false]
    · rfl
theorem zk_end {a : Rg} {w z : Nat} (ha : InW w a) (h : Zk a w z) : z = zOf w a := Nat.eq_of_testBit_eq fun j => by rw [h j, z_bit ha]
theorem ok_end {a : Rg} {w o : Nat} (ha : InW w a) (h : Ok a w o) : o = oOf w a := Nat.eq_of_testBit_eq fun j => by rw [h j, o_bit ha]
theorem pw_nat' (w : Nat) : (2 : Int) ^ w = ((2 ^ w : Nat) : Int) := (PySem.W.kbt_cast w).symm
def vp__law_turn : VSp := fun rs Φ => (∃ (w : Nat) (x : Ri), rs = [.d (ri x), .d (.int w)] ∧ 1 ≤ w ∧ w ≤ 64 ∧ x.h < x.l ∧ Φ (.d .none)) ∨ ∃ (w : Nat) (a : Rg), rs = [.d (rg a), .d (.int w)] ∧ 1 ≤ w ∧ w ≤ 64 ∧ InW w a ∧ Φ (.d (rgO (tgt w a)))
theorem len__law_turn : ∀ rs Φ, vp__law_turn rs Φ → rs.length = 2 := fun rs Φ h => by
  rcases h with ⟨_, _, e, _⟩ | ⟨_, _, e, _⟩ <;> rw [e] <;> rfl
theorem G__law_turn (T : Txt K mg w) : FnOk P w K mg base CX0 1 T.f__law_turn T.fd__law_turn ["bounds", "w"] (toSp K 2 vp__law_turn) := by
  refine fn_ok T.F__law_turn sc__law_turn fun cdv A outer s H E hr => ⟨_, (pss_cons (ps_asg (pv 0) (pg_tup (n := 4) rfl (pgs_cons (pg_name (i := 4) sc__law_turn.nd rfl (Or.inl rfl)) (pgs_cons (pg_name (i := 5) sc__law_turn.nd rfl (Or.inl rfl)) (pgs_cons (pg_name (i := 6) sc__law_turn.nd rfl (Or.inl rfl)) (pgs_cons (pg_name (i := 7) sc__law_turn.nd rfl (Or.inl rfl)) pgs_nil))))))
 (pss_cons (ps_set (i := 2) sc__law_turn.nd rfl (Or.inl rfl) (pe_op op_sub (pe_op op_shl pe_int (pv 1)) pe_int))
 (pss_cons (ps_if (PW.pt (pw_or (pt_cmpR op_gt (pv 4) (pv 5) (nomark _)) (pw_or1 (pt_cmpR op_ne (pe_op op_and (pv 6) (pv 7)) pe_int (nomark _))))) (pss_one (ps_ret pe_non)) pss_nil)
 (pss_cons (ps_for PassesOwn.never rfl (pi_range1 rfl T.range (pa_cons (pv 1) pa_nil)) (pg_name (i := 3) sc__law_turn.nd rfl (Or.inl rfl)) (pss_one (ps_if (pt_cmpR op_eq (pe_op op_shr (pv 4) (pv 3)) (pe_op op_shr (pv 5) (pv 3)) (nomark _)) (pss_one (ps_if (pt_cmpR op_eq (pe_op op_mod (pe_callTy call_int1 (by rfl) T.int (by decide +kernel) (pa_cons (pe_op op_shr (pv 4) (pv 3)) pa_nil)) pe_int) pe_int (nomark _)) (pss_one (ps_set (i := 7) sc__law_turn.nd rfl (Or.inl rfl) (pe_op op_or (pv 7) (pe_op op_shl pe_int (pv 3))))) (pss_one (ps_set (i := 6) sc__law_turn.nd rfl (Or.inl rfl) (pe_op op_or (pv 6) (pe_op op_shl pe_int (pv 3))))))) pss_nil)))
 (pss_cons (ps_if (pt_cmpR op_ne (pe_op op_and (pv 6) (pv 7)) pe_int (nomark _)) (pss_one (ps_ret pe_non)) pss_nil)
 (pss_cons (ps_set (i := 4) sc__law_turn.nd rfl (Or.inl rfl) (pe_callB (call_max2 rfl) (by rfl) T.max (by decide +kernel) (pa_cons (pv 4) (pa_cons (pv 7) pa_nil))))
 (pss_cons (ps_set (i := 5) sc__law_turn.nd rfl (Or.inl rfl) (pe_callB (call_min2 rfl) (by rfl) T.min (by decide +kernel) (pa_cons (pv 5) (pa_cons (pe_op op_sub (pv 2) (pv 6)) pa_nil))))
 (pss_cons (ps_if (pt_cmpR op_gt (pv 4) (pv 5) (nomark _)) (pss_one (ps_ret pe_non)) pss_nil)
 (pss_cons (ps_if (pt_cmpR op_eq (pv 4) (pv 5) (nomark _)) (pss_cons (ps_if (PW.pt (pw_or (pt_cmpR op_ne (pe_op op_and (pv 4) (pv 6)) pe_int (nomark _)) (pw_or1 (pt_cmpR op_ne (pe_op op_and (pv 4) (pv 7)) (pv 7) (nomark _))))) (pss_one (ps_ret pe_non)) pss_nil)
 (pss_one (ps_ret (pe_tup (pa_cons (pv 4) (pa_cons (pv 4) (pa_cons (pe_op op_sub (pv 2) (pv 4)) (pa_cons (pv 4) pa_nil)))))))) pss_nil)
 (pss_one (ps_ret (pe_tup (pa_cons (pv 4) (pa_cons (pv 5) (pa_cons (pv 6) (pa_cons (pv 7) pa_nil)))))))))))))))), _, fun ex He Hf => (sms_seq (sms_asg (sm_var 0) (smg_tup (smg_cons (smg_name 4) (smg_cons (smg_name 5) (smg_cons (smg_name 6) (smg_cons (smg_name 7) smg_nil))))))
 (sms_seq (sms_asg (sm_op (f1 := false) (f2 := false) (opd_I0 (g' := fun i j => .int (i - j)) fun _ _ => rfl) (sm_op (f1 := false) (f2 := false) (opd_I (g' := fun i j => .int (i * 2 ^ j.toNat)) fun _ _ => rfl) (sm_int _) (sm_var 1)) (sm_int _)) (smg_name 2))
 (sms_seq (sms_if (smt_or (smt_t (f1 := false) (sm_op (f1 := false) (f2 := false) (opd_I0 (g' := fun i j => .bool (decide (j < i))) fun _ _ => rfl) (sm_var 4) (sm_var 5))) (smt_t (f1 := false) (sm_op (f1 := false) (f2 := false) opd_ne (sm_op (f1 := false) (f2 := false) (opd_I0 (g' := fun i j => .int (Builtin.bitAnd i j)) fun _ _ => rfl) (sm_var 6) (sm_var 7)) (sm_int _))))
 (sms_ret sm_non)
 sms_next)
 (sms_seq (sms_for (smi_rng1 (f1 := false) (sm_var 1)) (smg_name 3)
 (sms_if (smt_t (f1 := false) (sm_op (f1 := false) (f2 := false) opd_eq (sm_op (f1 := false) (f2 := false) (opd_I (g' := fun i j => .int (i / 2 ^ j.toNat)) fun _ _ => rfl) (sm_var 4) (sm_var 3)) (sm_op (f1 := false) (f2 := false) (opd_I (g' := fun i j => .int (i / 2 ^ j.toNat)) fun _ _ => rfl) (sm_var 5) (sm_var 3))))
 (sms_if (smt_t (f1 := false) (sm_op (f1 := false) (f2 := false) opd_eq (sm_op (f1 := false) (f2 := false) (opd_I (g' := fun i j => .int (i % j)) fun _ _ => rfl) (sm_cb (f1 := false) cbd_int (sma_cons (sm_op (f1 := false) (f2 := false) (opd_I (g' := fun i j => .int (i / 2 ^ j.toNat)) fun _ _ => rfl) (sm_var 4) (sm_var 3)) sma_nil)) (sm_int _)) (sm_int _)))
 (sms_asg (sm_op (f1 := false) (f2 := false) (opd_I0 (g' := fun i j => .int (Builtin.bitOr i j)) fun _ _ => rfl) (sm_var 7) (sm_op (f1 := false) (f2 := false) (opd_I (g' := fun i j => .int (i * 2 ^ j.toNat)) fun _ _ => rfl) (sm_int _) (sm_var 3))) (smg_name 7))
 (sms_asg (sm_op (f1 := false) (f2 := false) (opd_I0 (g' := fun i j => .int (Builtin.bitOr i j)) fun _ _ => rfl) (sm_var 6) (sm_op (f1 := false) (f2 := false) (opd_I (g' := fun i j => .int (i * 2 ^ j.toNat)) fun _ _ => rfl) (sm_int _) (sm_var 3))) (smg_name 6)))
 sms_next))
 (sms_seq (sms_if (smt_t (f1 := false) (sm_op (f1 := false) (f2 := false) opd_ne (sm_op (f1 := false) (f2 := false) (opd_I0 (g' := fun i j => .int (Builtin.bitAnd i j)) fun _ _ => rfl) (sm_var 6) (sm_var 7)) (sm_int _)))
 (sms_ret sm_non)
 sms_next)
 (sms_seq (sms_asg (sm_cb (f1 := false) cbd_max (sma_cons (sm_var 4) (sma_cons (sm_var 7) sma_nil))) (smg_name 4))
 (sms_seq (sms_asg (sm_cb (f1 := false) cbd_min (sma_cons (sm_var 5) (sma_cons (sm_op (f1 := false) (f2 := false) (opd_I0 (g' := fun i j => .int (i - j)) fun _ _ => rfl) (sm_var 2) (sm_var 6)) sma_nil))) (smg_name 5))
 (sms_seq (sms_if (smt_t (f1 := false) (sm_op (f1 := false) (f2 := false) (opd_I0 (g' := fun i j => .bool (decide (j < i))) fun _ _ => rfl) (sm_var 4) (sm_var 5)))
 (sms_ret sm_non)
 sms_next)
 (sms_seq (sms_if (smt_t (f1 := false) (sm_op (f1 := false) (f2 := false) opd_eq (sm_var 4) (sm_var 5)))
 (sms_seq (sms_if (smt_or (smt_t (f1 := false) (sm_op (f1 := false) (f2 := false) opd_ne (sm_op (f1 := false) (f2 := false) (opd_I0 (g' := fun i j => .int (Builtin.bitAnd i j)) fun _ _ => rfl) (sm_var 4) (sm_var 6)) (sm_int _))) (smt_t (f1 := false) (sm_op (f1 := false) (f2 := false) opd_ne (sm_op (f1 := false) (f2 := false) (opd_I0 (g' := fun i j => .int (Builtin.bitAnd i j)) fun _ _ => rfl) (sm_var 4) (sm_var 7)) (sm_var 7))))
 (sms_ret sm_non)
 sms_next)
 (sms_ret (sm_tup (sma_cons (sm_var 4) (sma_cons (sm_var 4) (sma_cons (sm_op (f1 := false) (f2 := false) (opd_I0 (g' := fun i j => .int (i - j)) fun _ _ => rfl) (sm_var 2) (sm_var 4)) (sma_cons (sm_var 4) sma_nil)))))))
 sms_next)
 (sms_ret (sm_tup (sma_cons (sm_var 4) (sma_cons (sm_var 5) (sma_cons (sm_var 6) (sma_cons (sm_var 7) sma_nil))))))))))))))), ?_⟩
  rintro rs Φ (⟨w, x, rfl, h1, hw, hlt, h⟩ | ⟨w, a, rfl, h1, hw, ha, h⟩)
  · refine seq_op fun N hN => ?_
    simp [startD, ri]
    refine hN _ ?_
    clear hN N
    refine seq_op fun N hN => ?_
    simp
    refine ⟨cp1 (by omega) (by omega), hN _ ?_⟩
    clear hN N
    refine seq_op fun N hN => ?_
    simp [hlt]
    exact h
  refine seq_op fun N hN => ?_
  simp [startD, rg]
  refine hN _ ?_
  clear hN N
  refine seq_op fun N hN => ?_
  simp
  rw [pw_nat]
  refine ⟨cp1 (by omega) (by omega), hN _ ?_⟩
  clear hN N
  refine seq_op fun N hN => ?_
  refine dIfS_two (fun b => b = decide (a.h < a.l ∨ a.z &&& a.o ≠ 0)) (fun Ψ hΨ => ?_) (fun hb => ?_) (fun hb => ?_)
  · simp [bA]
    by_cases c1 : a.h < a.l
    · simp [c1] at hΨ ⊢
      exact hΨ
    · simp only [if_neg c1]
      by_cases c2 : a.z &&& a.o = 0
      · exact .inl ⟨c2, hΨ _ (by simp [c1, c2])⟩
      · exact .inr ⟨c2, hΨ _ (by simp [c1, c2])⟩
  · have hb : a.h < a.l ∨ a.z &&& a.o ≠ 0 := by simpa using hb
    unfold tgt at h
    rw [if_pos hb] at h
    simpa [rgO] using h
  have hb : ¬ (a.h < a.l ∨ a.z &&& a.o ≠ 0) := by simpa using hb
  simp only [dNext]
  refine hN _ ?_
  clear hN N
  refine seq_op fun N hN => ?_
  obtain ⟨I, hI⟩ : ∃ I : Nat → Dl → Prop, ∀ k δ, I k δ ↔ ∃ (z o : Nat) (y7 : Option R), Zk a k z ∧ Ok a k o ∧ δ = [some (.d (rg a)), some (.d (.int w)), some (.d (.int ((2 ^ w - 1 : Nat) : Int))), y7, some (.d (.int a.l)), some (.d (.int a.h)), some (.d (.int z)), some (.d (.int o))] := ⟨_, fun _ _ => Iff.rfl⟩
  refine dFor_n (n := w) (by omega) (fun Ψ h => by simpa [startD] using h) I ((hI _ _).mpr ⟨a.z, a.o, none, fun j => by simp, fun j => by simp, rfl⟩) (fun k δ hk hJ => ?_) (fun δ hJ => ?_)
  · obtain ⟨z, o, y7, hz, ho, rfl⟩ := (hI _ _).mp hJ
    have zs := zk_step hz
    have os := ok_step ho
    refine dIfS_two (fun b => b = decide (bitN (a.l ^^^ a.h) ≤ k)) (fun Ψ hΨ => ?_) (fun hb => ?_) (fun hb => ?_)
    · have hΨ := hΨ _ rfl
      simp
      rw [show decide ((a.l : Int) / 2 ^ k = (a.h : Int) / 2 ^ k) = decide (bitN (a.l ^^^ a.h) ≤ k) from decide_eq_decide.mpr shr_iff]
      exact hΨ
    · have hb : bitN (a.l ^^^ a.h) ≤ k := by simpa using hb
      refine dIfS_two (fun b => b = a.l.testBit k) (fun Ψ hΨ => ?_) (fun hb2 => ?_) (fun hb2 => ?_)
      · have hΨ := hΨ _ rfl
        simp
        refine cast (congrArg Ψ ?_) hΨ
        refine Eq.symm ?_
        rw [Bool.eq_iff_iff, decide_eq_true_iff]
        show (a.l : Int) / 2 ^ k % 2 = 1 ↔ _
        rw [bit_at]
        cases a.l.testBit k <;> simp
      · rw [if_neg (fun q => by rw [← hb2] at q; cases q.2)] at zs
        rw [if_pos ⟨hb, hb2.symm⟩] at os
        simp
        rw [pw_nat', bO]
        exact ⟨cp1 (by omega) (by omega), (hI _ _).mpr ⟨_, _, _, zs, os, rfl⟩⟩
      · rw [if_neg (fun q => by rw [← hb2] at q; cases q.2)] at os
        rw [if_pos ⟨hb, hb2.symm⟩] at zs
        simp
        rw [pw_nat', bO]
        exact ⟨cp1 (by omega) (by omega), (hI _ _).mpr ⟨_, _, _, zs, os, rfl⟩⟩
    · have hb : ¬ bitN (a.l ^^^ a.h) ≤ k := by simpa using hb
      simp only [dNext]
      rw [if_neg (fun q => hb q.1)] at zs os
      exact (hI _ _).mpr ⟨z, o, _, zs, os, rfl⟩
  obtain ⟨z, o, y7, hz, ho, rfl⟩ := (hI _ _).mp hJ
  obtain rfl := zk_end ha hz
  obtain rfl := ok_end ha ho
  refine hN _ ?_
  clear hN N hI hJ I hz ho
  have zl := z_lt ha
  have ol := o_lt ha
  unfold tgt at h
  rw [if_neg hb] at h
  refine seq_op fun N hN => ?_
  refine dIfS_two (fun b => b = decide (zOf w a &&& oOf w a ≠ 0)) (fun Ψ hΨ => ?_) (fun hb => ?_) (fun hb => ?_)
  · simp [bA]
    by_cases c2 : zOf w a &&& oOf w a = 0
    · exact .inl ⟨c2, hΨ _ (by simp [c2])⟩
    · exact .inr ⟨c2, hΨ _ (by simp [c2])⟩
  · have hb : zOf w a &&& oOf w a ≠ 0 := by simpa using hb
    rw [if_pos hb] at h
    simpa [rgO] using h
  have hb2 : ¬ zOf w a &&& oOf w a ≠ 0 := by simpa using hb
  rw [if_neg hb2] at h
  simp only [dNext]
  refine hN _ ?_
  clear hN N
  have al := ha.1
  have ah := ha.2.1
  have emax : (if a.l < oOf w a then ((oOf w a : Nat) : Int) else (a.l : Int)) = ((max a.l (oOf w a) : Nat) : Int) := by split <;> omega
  have emin : (if ((2 ^ w - 1 : Nat) : Int) - ((zOf w a : Nat) : Int) < (a.h : Int) then ((2 ^ w - 1 : Nat) : Int) - ((zOf w a : Nat) : Int) else (a.h : Int)) = ((min a.h (2 ^ w - 1 - zOf w a) : Nat) : Int) := by split <;> omega
  refine seq_op fun N hN => ?_
  simp
  rw [emax]
  refine hN _ ?_
  clear hN N
  refine seq_op fun N hN => ?_
  simp [emin]
  refine hN _ ?_
  clear hN N
  have lw : max a.l (oOf w a) < 2 ^ w := by omega
  have hwv : min a.h (2 ^ w - 1 - zOf w a) < 2 ^ w := by omega
  generalize max a.l (oOf w a) = l at lw h
  generalize min a.h (2 ^ w - 1 - zOf w a) = u at hwv h
  refine seq_op fun N hN => ?_
  refine dIfS_two (fun b => b = decide (u < l)) (fun Ψ hΨ => ?_) (fun hb => ?_) (fun hb => ?_)
  · simp
    exact hΨ _ rfl
  · have hb : u < l := by simpa using hb
    rw [if_pos hb] at h
    simpa [rgO] using h
  have hb3 : ¬ u < l := by simpa using hb
  rw [if_neg hb3] at h
  simp only [dNext]
  refine hN _ ?_
  clear hN N
  refine seq_op fun N hN => ?_
  refine dIfS_two (fun b => b = decide (l = u)) (fun Ψ hΨ => ?_) (fun hb => ?_) (fun hb => ?_)
  · simp
    refine hΨ _ ?_
    rw [Bool.eq_iff_iff]
    simp
    omega
  · have hb : l = u := by simpa using hb
    rw [if_pos hb] at h
    refine seq_op fun M hM => ?_
    refine dIfS_two (fun b => b = decide (l &&& zOf w a ≠ 0 ∨ l &&& oOf w a ≠ oOf w a)) (fun Ψ hΨ => ?_) (fun hb => ?_) (fun hb => ?_)
    · simp [bA]
      by_cases c1 : l &&& zOf w a = 0
      · refine .inl ⟨c1, ?_⟩
        by_cases c2 : l &&& oOf w a = oOf w a
        · exact .inl ⟨by rw [c2], hΨ _ (by simp [c1, c2])⟩
        · exact .inr ⟨fun e => c2 (Int.ofNat_inj.mp e), hΨ _ (by simp [c1, c2])⟩
      · exact .inr ⟨c1, hΨ _ (by simp [c1])⟩
    · have hb : l &&& zOf w a ≠ 0 ∨ l &&& oOf w a ≠ oOf w a := by simpa using hb
      rw [if_pos hb] at h
      simpa [rgO] using h
    have hb4 : ¬ (l &&& zOf w a ≠ 0 ∨ l &&& oOf w a ≠ oOf w a) := by simpa using hb
    rw [if_neg hb4] at h
    simp only [dNext]
    refine hM _ ?_
    have ez : ((2 ^ w - 1 : Nat) : Int) - (l : Int) = ((2 ^ w - 1 - l : Nat) : Int) := by omega
    simp [le_size, lt_size, cmul_l, cpow_l, cdiv_l, ez]
    exact h
  have hb4 : ¬ l = u := by simpa using hb
  rw [if_neg hb4] at h
  simp only [dNext]
  refine hN _ ?_
  simp [le_size, lt_size, cmul_l, cpow_l, cdiv_l]
  exact h


def unkN : Nat → Nat → Nat
  | 0, _ => 0
  | w + 1, m => (if m.testBit w = true then 0 else 1) + unkN w m
theorem unk_le (m : Nat) : ∀ w, unkN w m ≤ w
  | 0 => Nat.le_refl _
  | w + 1 => by
    have := unk_le m w
    unfold unkN
    split <;> omega
theorem unk_mono {m n : Nat} (h : ∀ j, m.testBit j = true → n.testBit j = true) : ∀ w, unkN w n ≤ unkN w m
  | 0 => Nat.le_refl _
  | w + 1 => by
    have := unk_mono h w
    unfold unkN
    by_cases c : m.testBit w = true
    · rw [if_pos c, if_pos (h w c)]; omega
    · rw [if_neg c]; split <;> omega
theorem unk_lt {m n : Nat} (h : ∀ j, m.testBit j = true → n.testBit j = true) {j : Nat} (hm : m.testBit j = false) (hn : n.testBit j = true) : ∀ w, j < w → unkN w n < unkN w m
  | 0, q => absurd q (Nat.not_lt_zero _)
  | w + 1, q => by
    unfold unkN
    by_cases e : j = w
    · subst e
      have := unk_mono h j
      rw [if_pos hn, if_neg (by rw [hm]; decide)]
      omega
    · have := unk_lt h hm hn w (by omega)
      by_cases c : m.testBit w = true
      · rw [if_pos c, if_pos (h w c)]; omega
      · rw [if_neg c]; split <;> omega
def Setl (w : Nat) (c : Rg) : Prop := c.o ≤ c.l ∧ c.h ≤ 2 ^ w - 1 - c.z
theorem tgt_setl {w : Nat} {a b : Rg} (ha : InW w a) (h : tgt w a = some b) : Setl w b := by
  have al := ha.1
  have ol := o_lt ha
  unfold tgt at h
  split at h
  · cases h
  split at h
  · cases h
  split at h
  · cases h
  split at h
  · split at h
    · cases h
    cases h
    refine ⟨Nat.le_refl _, ?_⟩
    show max a.l (oOf w a) ≤ 2 ^ w - 1 - (2 ^ w - 1 - max a.l (oOf w a))
    omega
  · cases h
    exact ⟨by show oOf w a ≤ max a.l (oOf w a); omega, by show min a.h (2 ^ w - 1 - zOf w a) ≤ 2 ^ w - 1 - zOf w a; omega⟩
theorem tgt_same {w : Nat} {c b : Rg} (hc : InW w c) (hs : Setl w c) (h : tgt w c = some b) (ez : b.z = c.z) (eo : b.o = c.o) : b = c := by
  obtain ⟨s1, s2⟩ := hs
  have al := hc.1
  have ol := o_lt hc
  unfold tgt at h
  split at h
  · cases h
  split at h
  · cases h
  split at h
  · cases h
  split at h
  · rename_i e
    split at h
    · cases h
    cases h
    have ez : 2 ^ w - 1 - max c.l (oOf w c) = c.z := ez
    have eo : max c.l (oOf w c) = c.o := eo
    obtain ⟨l, u, z, o⟩ := c
    simp only at *
    generalize oOf w _ = p at *
    have e1 : max l p = l := by omega
    have e2 : u = l := by omega
    rw [e1] at ez eo ⊢
    rw [e2, ez, ← eo]
  · cases h
    have ez : zOf w c = c.z := ez
    have eo : oOf w c = c.o := eo
    rw [ez, eo]
    obtain ⟨l, u, z, o⟩ := c
    simp only at *
    rw [show max l o = l by omega, show min u (2 ^ w - 1 - z) = u by omega]
theorem ne_bit {x y : Nat} (h : ¬ x = y) (hs : x &&& y = y) : ∃ j, x.testBit j = true ∧ y.testBit j = false := by
  refine Classical.byContradiction fun c => h (Nat.eq_of_testBit_eq fun j => ?_)
  cases e : y.testBit j with
  | true => exact sup_iff.mp hs j e
  | false =>
    cases e2 : x.testBit j with
    | false => rfl
    | true => exact absurd ⟨j, e2, e⟩ c
theorem unk_step {w : Nat} {c b : Rg} (hc : InW w c) (hs : Setl w c) (h : tgt w c = some b) (n : b ≠ c) : unkN w (b.z ||| b.o) < unkN w (c.z ||| c.o) := by
  obtain ⟨cl, gd, _⟩ := tgt_some hc h
  have up : ∀ j, (c.z ||| c.o).testBit j = true → (b.z ||| b.o).testBit j = true := fun j hj => by
    rw [Nat.testBit_or, Bool.or_eq_true] at hj ⊢
    rcases hj with hj | hj
    · exact .inl (sup_iff.mp cl.z j hj)
    · exact .inr (sup_iff.mp cl.o j hj)
  have lt : ∀ {x j : Nat}, x < 2 ^ w → x.testBit j = true → j < w := fun {x j} hx hj => by
    refine Nat.lt_of_not_le fun q => ?_
    rw [Nat.testBit_lt_two_pow (Nat.lt_of_lt_of_le hx (Nat.pow_le_pow_right (by decide) q))] at hj
    cases hj
  by_cases ez : b.z = c.z
  · by_cases eo : b.o = c.o
    · exact absurd (tgt_same hc hs h ez eo) n
    · obtain ⟨j, j1, j2⟩ := ne_bit eo cl.o
      refine unk_lt up (j := j) ?_ (by rw [Nat.testBit_or, j1, Bool.or_true]) w (lt cl.i.2.2.2 j1)
      rw [Nat.testBit_or, j2, Bool.or_false]
      cases e : c.z.testBit j with
      | false => rfl
      | true =>
        have := dis_iff.mp gd.dis j (sup_iff.mp cl.z j e)
        rw [j1] at this
        cases this
  · obtain ⟨j, j1, j2⟩ := ne_bit ez cl.z
    refine unk_lt up (j := j) ?_ (by rw [Nat.testBit_or, j1, Bool.true_or]) w (lt cl.i.2.2.1 j1)
    rw [Nat.testBit_or, j2, Bool.false_or]
    cases e : c.o.testBit j with
    | false => rfl
    | true =>
      have := dis_iff.mp gd.dis j j1
      rw [sup_iff.mp cl.o j e] at this
      cases this
def vp__law_normal : VSp := fun rs Φ => ∃ (w : Nat) (x : Ri), rs = [.d (ri x), .d (.int w)] ∧ 1 ≤ w ∧ w ≤ 64 ∧ NXok w x ∧ ∀ r, NX w x r → Φ (.d (rgO r))
theorem len__law_normal : ∀ rs Φ, vp__law_normal rs Φ → rs.length = 2 := fun rs Φ ⟨_, _, e, _⟩ => by rw [e]; rfl
theorem G__law_normal (T : Txt K mg w) : FnOk P w K mg base CX0 2 T.f__law_normal T.fd__law_normal ["bounds", "w"] (toSp K 2 vp__law_normal) := by
  refine fn_ok T.F__law_normal sc__law_normal fun cdv A outer s H E hr => ⟨_, (pss_cons (ps_for PassesOwn.never rfl (pi_range1 rfl T.range (pa_cons (pe_op op_add (pe_op op_mul pe_int (pv 1)) pe_int) pa_nil)) (pg_name (i := 2) sc__law_normal.nd rfl (Or.inl rfl)) (pss_cons (ps_set (i := 3) sc__law_normal.nd rfl (Or.inl rfl) (pe_call (G__law_turn T) hr (by rfl) T.g__law_turn T.F__law_turn.kp T.b__law_turn .nil pass0 (pa_cons (pv 0) (pa_cons (pv 1) pa_nil))))
 (pss_cons (ps_if (PW.pt (pw_or (pt_cmpR op_isN (pv 3) pe_non (nomark _)) (pw_or1 (pt_cmpR (kx_eqD (K := K) rfl hr.units) (pv 3) (pv 0) (nomark _))))) (pss_one (ps_ret (pv 3))) pss_nil)
 (pss_one (ps_set (i := 0) sc__law_normal.nd rfl (Or.inl rfl) (pv 3))))))
 (pss_one (ps_ret (pv 0)))), _, fun ex He Hf => (sms_seq (sms_for (smi_rng1 (f1 := false) (sm_op (f1 := false) (f2 := false) (opd_I0 (g' := fun i j => .int (i + j)) fun _ _ => rfl) (sm_op (f1 := false) (f2 := false) (opd_I (g' := fun i j => .int (i * j)) fun _ _ => rfl) (sm_int _) (sm_var 1)) (sm_int _))) (smg_name 2)
 (sms_seq (sms_asg (sm_call len__law_turn (smq_cons (sm_var 0) (smq_cons (sm_var 1) smq_nil))) (smg_name 3))
 (sms_seq (sms_if (smt_or (smt_t (f1 := false) (sm_op (f1 := false) (f2 := false) opd_isN (sm_var 3) sm_non)) (smt_t (f1 := false) (sm_op (f1 := false) (f2 := false) opd_eqD (sm_var 3) (sm_var 0))))
 (sms_ret (sm_var 3))
 sms_next)
 (sms_asg (sm_var 3) (smg_name 0)))))
 (sms_ret (sm_var 0))), ?_⟩
  rintro rs Φ ⟨w, x, rfl, h1, hw, ok, h⟩
  refine seq_op fun N hN => ?_
  obtain ⟨I, hI⟩ : ∃ I : Nat → Dl → Prop, ∀ k δ, I k δ ↔ ∃ y2 y3 : Option R, (k = 0 ∧ δ = [some (.d (ri x)), some (.d (.int w)), y2, y3]) ∨ ∃ c : Rg, InW w c ∧ Setl w c ∧ (∀ r, Nm w c r → NX w x r) ∧ unkN w (c.z ||| c.o) + k ≤ w + 1 ∧ δ = [some (.d (rg c)), some (.d (.int w)), y2, y3] := ⟨_, fun _ _ => Iff.rfl⟩
  refine dFor_n (n := 3 * w + 3) (by omega) (fun Ψ h => by
    simp [startD] at h ⊢
    exact ⟨.inl ⟨by omega, by omega⟩, h⟩) I ((hI _ _).mpr ⟨none, none, .inl ⟨rfl, rfl⟩⟩) (fun k δ hk hJ => ?_) (fun δ hJ => ?_)
  · refine seq_op fun M hM => ?_
    have step : ∀ (c : Rg), InW w c → (∀ r, Nm w c r → NX w x r) → (∀ b, tgt w c = some b → b ≠ c → unkN w (b.z ||| b.o) + (k + 1) ≤ w + 1) → M [some (.d (rg c)), some (.d (.int w)), some (.d (.int k)), some (.d (rgO (tgt w c)))] := by
      intro c ci cn cu
      refine hM _ ?_
      clear hM M
      refine seq_op fun M hM => ?_
      cases ht : tgt w c with
      | none =>
        simp [rgO]
        exact h none (cn _ (.none ht))
      | some b =>
        refine dIfS_two (fun q => q = decide (b = c)) (fun Ψ hΨ => ?_) (fun hq => ?_) (fun hq => ?_)
        · have s1 := rg_sh b
          have s2 := rg_sh c
          have e := rg_eqv b c
          simp only [rg] at s1 s2 e
          simp [rgO, rg, s1, s2, e]
          exact hΨ _ rfl
        · have hq : b = c := by simpa using hq
          subst hq
          simp [rgO]
          exact h (some b) (cn _ (.fix ht))
        · have hq : b ≠ c := by simpa using hq
          simp only [dNext]
          refine hM _ ?_
          simp [rgO]
          exact (hI _ _).mpr ⟨_, _, .inr ⟨b, (tgt_some ci ht).1.i, tgt_setl ci ht, fun r hr => cn r (.step ht hq hr), cu b ht hq, rfl⟩⟩
    obtain ⟨y2, y3, ⟨rfl, rfl⟩ | ⟨c, ci, cs, cn, cu, rfl⟩⟩ := (hI _ _).mp hJ
    · rcases ok with hx | ⟨a, ha, rfl⟩
      · clear step
        simp
        refine .inl ⟨w, x, rfl, h1, hw, hx, hM _ ?_⟩
        clear hM M
        refine seq_op fun M hM => ?_
        simp
        exact h none (.inl ⟨hx, rfl⟩)
      · simp
        refine .inr ⟨w, a, rfl, h1, hw, ha, ?_⟩
        have := step a ha (fun r hr => .inr ⟨a, ha, rfl, hr⟩) (fun b _ _ => by have := unk_le (b.z ||| b.o) w; omega)
        simpa [ri_rg] using this
    · simp
      refine .inr ⟨w, c, rfl, h1, hw, ci, ?_⟩
      have := step c ci cn (fun b hb n => by have := unk_step ci cs hb n; omega)
      simpa using this
  · obtain ⟨y2, y3, ⟨e, rfl⟩ | ⟨c, ci, cs, cn, cu, rfl⟩⟩ := (hI _ _).mp hJ
    · omega
    · omega


theorem inj34 (x y : Nat) : ((x : Int) = (y : Int)) = (x = y) := propext Int.ofNat_inj
def vp__law_moved : VSp := fun rs Φ => ∃ (a b : Rg), rs = [.d (rg a), .d (rg b)] ∧ Φ (.d (ri (wo a b)))
theorem len__law_moved : ∀ rs Φ, vp__law_moved rs Φ → rs.length = 2 := fun rs Φ ⟨_, _, e, _⟩ => by rw [e]; rfl
theorem G__law_moved (T : Txt K mg w) : FnOk P w K mg base CX0 1 T.f__law_moved T.fd__law_moved ["a", "b"] (toSp K 2 vp__law_moved) := by
  refine fn_ok T.F__law_moved sc__law_moved fun cdv A outer s H E hr => ⟨_, (pss_cons (ps_if (pt_cmpR op_ne (pe_ix (kx_seq (K := K) rfl) (pv 1) pe_int (fun _ _ => rfl)) (pe_ix (kx_seq (K := K) rfl) (pv 1) pe_int (fun _ _ => rfl)) (nomark _)) (pss_one (ps_ret (pv 0))) pss_nil)
 (pss_one (ps_ret (pe_tup (pa_cons (pe_op op_add (pe_ix (kx_seq (K := K) rfl) (pv 0) pe_int (fun _ _ => rfl)) (pe_callTy call_int1 (by rfl) T.int (by decide +kernel) (pa_cons (pe_cmpR op_eq (pe_ix (kx_seq (K := K) rfl) (pv 0) pe_int (fun _ _ => rfl)) (pe_ix (kx_seq (K := K) rfl) (pv 1) pe_int (fun _ _ => rfl)) (nomark _)) pa_nil))) (pa_cons (pe_op op_sub (pe_ix (kx_seq (K := K) rfl) (pv 0) pe_int (fun _ _ => rfl)) (pe_callTy call_int1 (by rfl) T.int (by decide +kernel) (pa_cons (pe_cmpR op_eq (pe_ix (kx_seq (K := K) rfl) (pv 0) pe_int (fun _ _ => rfl)) (pe_ix (kx_seq (K := K) rfl) (pv 1) pe_int (fun _ _ => rfl)) (nomark _)) pa_nil))) (pa_cons (pe_ix (kx_seq (K := K) rfl) (pv 0) pe_int (fun _ _ => rfl)) (pa_cons (pe_ix (kx_seq (K := K) rfl) (pv 0) pe_int (fun _ _ => rfl)) pa_nil)))))))), _, fun ex He Hf => (sms_seq (sms_if (smt_t (f1 := false) (sm_op (f1 := false) (f2 := false) opd_ne (sm_ix (f2 := false) (sm_var 1) (sm_int _)) (sm_ix (f2 := false) (sm_var 1) (sm_int _))))
 (sms_ret (sm_var 0))
 sms_next)
 (sms_ret (sm_tup (sma_cons (sm_op (f1 := false) (f2 := false) (opd_I0 (g' := fun i j => .int (i + j)) fun _ _ => rfl) (sm_ix (f2 := false) (sm_var 0) (sm_int _)) (sm_cb (f1 := false) cbd_int (sma_cons (sm_op (f1 := false) (f2 := false) opd_eq (sm_ix (f2 := false) (sm_var 0) (sm_int _)) (sm_ix (f2 := false) (sm_var 1) (sm_int _))) sma_nil))) (sma_cons (sm_op (f1 := false) (f2 := false) (opd_I0 (g' := fun i j => .int (i - j)) fun _ _ => rfl) (sm_ix (f2 := false) (sm_var 0) (sm_int _)) (sm_cb (f1 := false) cbd_int (sma_cons (sm_op (f1 := false) (f2 := false) opd_eq (sm_ix (f2 := false) (sm_var 0) (sm_int _)) (sm_ix (f2 := false) (sm_var 1) (sm_int _))) sma_nil))) (sma_cons (sm_ix (f2 := false) (sm_var 0) (sm_int _)) (sma_cons (sm_ix (f2 := false) (sm_var 0) (sm_int _)) sma_nil))))))), ?_⟩
  rintro rs Φ ⟨a, b, rfl, h⟩
  refine seq_op fun N hN => ?_
  refine dIfS_two (fun c => c = decide (¬ b.l = b.h)) (fun Ψ hΨ => ?_) (fun hc => ?_) (fun hc => ?_)
  · have hΨ := hΨ _ rfl
    simp [startD, rg, inj34]
    by_cases c : b.l = b.h <;> simpa [c] using hΨ
  · have hc : ¬ b.l = b.h := by simpa using hc
    simp only [wo, if_neg hc, ri_rg] at h
    simpa [startD] using h
  · have hc : b.l = b.h := by simpa using hc
    simp only [wo, if_pos hc, ri] at h
    simp only [dNext]
    refine hN _ ?_
    by_cases c1 : a.l = b.l <;> by_cases c2 : a.h = b.l <;> simp [c1, c2] at h <;> simp [startD, rg, inj34, c1, c2] <;> exact ⟨by decide, h⟩
def vp__law_keeps : VSp := fun rs Φ => ∃ (w : Nat) (u a : Rg), rs = [.d (rg u), .d (rg a)] ∧ Kp w a.ri u ∧ Φ (.d (.bool true))
theorem len__law_keeps : ∀ rs Φ, vp__law_keeps rs Φ → rs.length = 2 := fun rs Φ ⟨_, _, _, e, _⟩ => by rw [e]; rfl
theorem G__law_keeps (T : Txt K mg w) : FnOk P w K mg base CX0 1 T.f__law_keeps T.fd__law_keeps ["found", "given"] (toSp K 2 vp__law_keeps) := by
  refine fn_ok T.F__law_keeps sc__law_keeps fun cdv A outer s H E hr => ⟨_, (pss_cons (ps_if (PW.pt (pw_or (pt_cmpR op_lt (pe_ix (kx_seq (K := K) rfl) (pv 0) pe_int (fun _ _ => rfl)) (pe_ix (kx_seq (K := K) rfl) (pv 1) pe_int (fun _ _ => rfl)) (nomark _)) (pw_or1 (pt_cmpR op_gt (pe_ix (kx_seq (K := K) rfl) (pv 0) pe_int (fun _ _ => rfl)) (pe_ix (kx_seq (K := K) rfl) (pv 1) pe_int (fun _ _ => rfl)) (nomark _))))) (pss_one (ps_ret pe_bl)) pss_nil)
 (pss_one (ps_ret (pe_and (pe_cmpR op_eq (pe_op op_and (pe_ix (kx_seq (K := K) rfl) (pv 0) pe_int (fun _ _ => rfl)) (pe_ix (kx_seq (K := K) rfl) (pv 1) pe_int (fun _ _ => rfl))) (pe_ix (kx_seq (K := K) rfl) (pv 1) pe_int (fun _ _ => rfl)) (nomark _)) (pe_one (pe_cmpR op_eq (pe_op op_and (pe_ix (kx_seq (K := K) rfl) (pv 0) pe_int (fun _ _ => rfl)) (pe_ix (kx_seq (K := K) rfl) (pv 1) pe_int (fun _ _ => rfl))) (pe_ix (kx_seq (K := K) rfl) (pv 1) pe_int (fun _ _ => rfl)) (nomark _))))))), _, fun ex He Hf => (sms_seq (sms_if (smt_or (smt_t (f1 := false) (sm_op (f1 := false) (f2 := false) (opd_I0 (g' := fun i j => .bool (decide (i < j))) fun _ _ => rfl) (sm_ix (f2 := false) (sm_var 0) (sm_int _)) (sm_ix (f2 := false) (sm_var 1) (sm_int _)))) (smt_t (f1 := false) (sm_op (f1 := false) (f2 := false) (opd_I0 (g' := fun i j => .bool (decide (j < i))) fun _ _ => rfl) (sm_ix (f2 := false) (sm_var 0) (sm_int _)) (sm_ix (f2 := false) (sm_var 1) (sm_int _)))))
 (sms_ret (sm_bl _))
 sms_next)
 (sms_ret (sm_and (f1 := false) (sm_op (f1 := false) (f2 := false) opd_eq (sm_op (f1 := false) (f2 := false) (opd_I0 (g' := fun i j => .int (Builtin.bitAnd i j)) fun _ _ => rfl) (sm_ix (f2 := false) (sm_var 0) (sm_int _)) (sm_ix (f2 := false) (sm_var 1) (sm_int _))) (sm_ix (f2 := false) (sm_var 1) (sm_int _))) (sm_op (f1 := false) (f2 := false) opd_eq (sm_op (f1 := false) (f2 := false) (opd_I0 (g' := fun i j => .int (Builtin.bitAnd i j)) fun _ _ => rfl) (sm_ix (f2 := false) (sm_var 0) (sm_int _)) (sm_ix (f2 := false) (sm_var 1) (sm_int _))) (sm_ix (f2 := false) (sm_var 1) (sm_int _)))))), ?_⟩
  rintro rs Φ ⟨w, u, a, rfl, k, h⟩
  have n1 : ¬ u.l < a.l := by have : (a.l : Int) ≤ u.l := k.l; omega
  have n2 : ¬ a.h < u.h := by have : (u.h : Int) ≤ a.h := k.h; omega
  have n3 : u.z &&& a.z = a.z := k.z
  have n4 : u.o &&& a.o = a.o := k.o
  refine seq_op fun N hN => ?_
  refine dIfS_two (fun c => c = false) (fun Ψ hΨ => ?_) (fun hc => by cases hc) (fun _ => ?_)
  · simp [startD, rg, n1, n2]
    exact hΨ _ rfl
  simp only [dNext]
  refine hN _ ?_
  simp [startD, rg, bA, n3, n4]
  exact h
def vp__law_signs_known : VSp := fun rs Φ => ∃ (w : Nat) (a b : Rg), rs = [.d (rg a), .d (rg b), .d (.int w)] ∧ 1 ≤ w ∧ w ≤ 64 ∧ Φ (.d (.bool (decide (¬ (a.z &&& 2 ^ (w - 1) = 0 ∨ b.z &&& 2 ^ (w - 1) = 0)))))
theorem len__law_signs_known : ∀ rs Φ, vp__law_signs_known rs Φ → rs.length = 3 := fun rs Φ ⟨_, _, _, e, _⟩ => by rw [e]; rfl
theorem G__law_signs_known (T : Txt K mg w) : FnOk P w K mg base CX0 1 T.f__law_signs_known T.fd__law_signs_known ["a", "b", "w"] (toSp K 3 vp__law_signs_known) := by
  refine fn_ok T.F__law_signs_known sc__law_signs_known fun cdv A outer s H E hr => ⟨_, (pss_cons (ps_set (i := 3) sc__law_signs_known.nd rfl (Or.inl rfl) (pe_op op_shl pe_int (pe_op op_sub (pv 2) pe_int)))
 (pss_one (ps_ret (pe_and (pe_cmpR op_ne (pe_op op_and (pe_ix (kx_seq (K := K) rfl) (pv 0) pe_int (fun _ _ => rfl)) (pv 3)) pe_int (nomark _)) (pe_one (pe_cmpR op_ne (pe_op op_and (pe_ix (kx_seq (K := K) rfl) (pv 1) pe_int (fun _ _ => rfl)) (pv 3)) pe_int (nomark _))))))), _, fun ex He Hf => (sms_seq (sms_asg (sm_op (f1 := false) (f2 := false) (opd_I (g' := fun i j => .int (i * 2 ^ j.toNat)) fun _ _ => rfl) (sm_int _) (sm_op (f1 := false) (f2 := false) (opd_I0 (g' := fun i j => .int (i - j)) fun _ _ => rfl) (sm_var 2) (sm_int _))) (smg_name 3))
 (sms_ret (sm_and (f1 := false) (sm_op (f1 := false) (f2 := false) opd_ne (sm_op (f1 := false) (f2 := false) (opd_I0 (g' := fun i j => .int (Builtin.bitAnd i j)) fun _ _ => rfl) (sm_ix (f2 := false) (sm_var 0) (sm_int _)) (sm_var 3)) (sm_int _)) (sm_op (f1 := false) (f2 := false) opd_ne (sm_op (f1 := false) (f2 := false) (opd_I0 (g' := fun i j => .int (Builtin.bitAnd i j)) fun _ _ => rfl) (sm_ix (f2 := false) (sm_var 1) (sm_int _)) (sm_var 3)) (sm_int _))))), ?_⟩
  rintro rs Φ ⟨w, a, b, rfl, h1, hw, h⟩
  have e1 : ((w : Int) - 1).toNat = w - 1 := by omega
  obtain ⟨hf, ehf⟩ : ∃ hf : Nat, 2 ^ (w - 1) = hf := ⟨_, rfl⟩
  have eI : (2 : Int) ^ (w - 1) = (hf : Int) := by rw [← PySem.W.kbt_cast, ehf]
  rw [ehf] at h
  refine seq_op fun N hN => ?_
  simp [startD, e1, eI]
  refine ⟨cp1 (by omega) (by omega), hN _ ?_⟩
  clear hN N
  simp [rg, bA]
  by_cases c1 : a.z &&& hf = 0
  · by_cases c2 : b.z &&& hf = 0
    · simpa [c1, c2] using h
    · simpa [c1, c2] using h
  · by_cases c2 : b.z &&& hf = 0
    · simpa [c1, c2] using h
    · simpa [c1, c2] using h
def Nxs (w : Nat) (ys : List Nat) : Prop := 0 < ys.length ∧ (∀ v ∈ ys, v < 2 ^ w) ∧ ys.length ≤ 100
def vp__law_near : VSp := fun rs Φ => ∃ (xs : List Nat) (w : Nat), rs = [.drw, .d (.list (nl xs)), .d (.int w)] ∧ Nxs w xs ∧ 1 ≤ w ∧ w ≤ 64 ∧ ∀ ys, Nxs w ys → Φ (.own (nl ys))
theorem len__law_near : ∀ rs Φ, vp__law_near rs Φ → rs.length = 3 := fun rs Φ ⟨_, _, e, _⟩ => by rw [e]; rfl
theorem G__law_near (T : Txt K mg w) : FnOk P w K mg base CX0 3 T.f__law_near T.fd__law_near ["draw", "first", "w"] (toSp K 3 vp__law_near) := by
  refine fn_ok T.F__law_near sc__law_near fun cdv A outer s H E hr => ⟨_, (pss_cons (ps_if (pt_cmpR op_eq (pe_call (G__law_take T) (hr.mono (by decide)) (by rfl) T.g__law_take T.F__law_take.kp T.b__law_take .nil pass0 (pa_cons (pv 0) (pa_cons pe_int pa_nil))) pe_int (nomark _)) (pss_one (ps_ret (pe_lc (own := [("value", 4)]) (g := gName 4) (tt := tYes) rfl sc__law_near.nd ((kpi_list (K := K) rfl (pv 1))) (blkOk_by (N := ["draw", "first", "w", "k", "value"]) (sc := defScope s_law_near) (by decide +kernel)) (fun _ _ _ _ _ => pg_name (i := 4) sc__law_near.nd rfl (Or.inl rfl)) (fun _ _ _ _ _ => pts_nil) (fun _ _ _ _ _ => (pe_op op_and (pe_op op_sub (pe_op op_add (pe_op op_add (pv 4) (pe_call (G__law_take T) (hr.mono (by decide)) (by rfl) T.g__law_take T.F__law_take.kp T.b__law_take .nil pass0 (pa_cons (pv 0) (pa_cons pe_int pa_nil)))) (pe_op op_shl pe_int (pv 2))) pe_int) (pe_op op_sub (pe_op op_shl pe_int (pv 2)) pe_int)))))) pss_nil)
 (pss_one (ps_ret (pe_lc (own := [("k", 3)]) (g := gName 3) (tt := tYes) rfl sc__law_near.nd (pi_range1 rfl T.range (pa_cons (pe_op op_add pe_int (pe_call (G__law_take T) (hr.mono (by decide)) (by rfl) T.g__law_take T.F__law_take.kp T.b__law_take .nil pass0 (pa_cons (pv 0) (pa_cons pe_int pa_nil)))) pa_nil)) (blkOk_by (N := ["draw", "first", "w", "k", "value"]) (sc := defScope s_law_near) (by decide +kernel)) (fun _ _ _ _ _ => pg_name (i := 3) sc__law_near.nd rfl (Or.inl rfl)) (fun _ _ _ _ _ => pts_nil) (fun _ _ _ _ _ => (pe_call (G__law_number T) hr (by rfl) T.g__law_number T.F__law_number.kp T.b__law_number .nil pass0 (pa_cons (pv 0) (pa_cons (pv 2) pa_nil)))))))), _, fun ex He Hf => (sms_seq (sms_if (smt_t (f1 := false) (sm_op (f1 := false) (f2 := false) opd_eq (sm_call len__law_take (smq_drw 0 (smq_cons (sm_int _) smq_nil))) (sm_int _)))
 (sms_retNew (smo_lc (i := 4) (smi_list (sm_var 1)) smt_yes (sm_op (f1 := false) (f2 := false) (opd_I0 (g' := fun i j => .int (Builtin.bitAnd i j)) fun _ _ => rfl) (sm_op (f1 := false) (f2 := false) (opd_I0 (g' := fun i j => .int (i - j)) fun _ _ => rfl) (sm_op (f1 := false) (f2 := false) (opd_I0 (g' := fun i j => .int (i + j)) fun _ _ => rfl) (sm_op (f1 := false) (f2 := false) (opd_I0 (g' := fun i j => .int (i + j)) fun _ _ => rfl) (sm_var 4) (sm_call len__law_take (smq_drw 0 (smq_cons (sm_int _) smq_nil)))) (sm_op (f1 := false) (f2 := false) (opd_I (g' := fun i j => .int (i * 2 ^ j.toNat)) fun _ _ => rfl) (sm_int _) (sm_var 2))) (sm_int _)) (sm_op (f1 := false) (f2 := false) (opd_I0 (g' := fun i j => .int (i - j)) fun _ _ => rfl) (sm_op (f1 := false) (f2 := false) (opd_I (g' := fun i j => .int (i * 2 ^ j.toNat)) fun _ _ => rfl) (sm_int _) (sm_var 2)) (sm_int _)))))
 sms_next)
 (sms_retNew (smo_lc (i := 3) (smi_rng1 (f1 := false) (sm_op (f1 := false) (f2 := false) (opd_I0 (g' := fun i j => .int (i + j)) fun _ _ => rfl) (sm_int _) (sm_call len__law_take (smq_drw 0 (smq_cons (sm_int _) smq_nil))))) smt_yes (sm_call len__law_number (smq_drw 0 (smq_cons (sm_var 2) smq_nil)))))), ?_⟩
  rintro rs Φ ⟨xs, w, rfl, ⟨x0, xw, xl⟩, h1, h2, h⟩
  simp [startD]
  intro r r0 r1
  split
  · refine oLc_w (xs := nl xs) (by rw [nl_len]; omega) (fun Ψ hΨ => ⟨_, rfl, _, rfl, hΨ⟩) (Ps w) ⟨[], fun _ h => (nomatch h), rfl⟩ (fun k y acc Ψ hy hl hP hz => ?_) (fun acc hl hP => ?_)
    · obtain ⟨v, _, rfl⟩ := nl_at hy
      simp
      intro q q0 q1
      refine ⟨cp1 (by omega) (by omega), ?_⟩
      rw [PySem.W.kbt_mask]
      have p0 := pow_pos2 w
      obtain ⟨n, hn⟩ := Int.eq_ofNat_of_zero_le (Int.emod_nonneg ((v : Int) + q + 2 ^ w - 1) (show (2 : Int) ^ w ≠ 0 by omega))
      have hlt := Int.emod_lt_of_pos ((v : Int) + q + 2 ^ w - 1) p0
      rw [hn] at hlt ⊢
      rw [← PySem.W.kbt_cast] at hlt
      exact hz _ (ps_snoc hP (Int.ofNat_lt.mp hlt))
    · obtain ⟨vs, hv, rfl⟩ := hP
      rw [nl_len, nl_len] at hl
      exact h vs ⟨by omega, hv, by omega⟩
  · refine oLc_q (Q := fun n => 1 ≤ n ∧ n ≤ 3) (fun Ψ hΨ => ?_) (Ps w) ⟨[], fun _ h => (nomatch h), rfl⟩ (fun k acc Ψ hl hP hz => ?_) (fun n acc hn hl hP => ?_)
    · simp
      intro r r0 r1
      have := hΨ (1 + r).toNat (by omega) (by omega)
      rwa [show (((1 + r).toNat : Nat) : Int) = 1 + r by omega] at this
    · simp
      exact ⟨w, rfl, h1, h2, fun n hn => hz _ (ps_snoc hP hn)⟩
    · obtain ⟨vs, hv, rfl⟩ := hP
      rw [nl_len] at hl
      exact h vs ⟨by omega, hv, by omega⟩


def isSg (p : Str) : Prop := p = "slt" ∨ p = "sle" ∨ p = "sgt" ∨ p = "sge"
def Meet (p : Str) (a b u v : Rg) : Prop :=
  if p = "eq" then max a.l b.l ≤ u.l ∧ u.l ≤ v.l ∧ u.h ≤ min a.h b.h ∧ v.h ≤ u.h else if p = "ne" then True
  else if isG p then (v.h : Int) + stO p ≤ a.h ∧ (b.l : Int) + stO p ≤ u.l else (u.h : Int) + stO p ≤ b.h ∧ (a.l : Int) + stO p ≤ v.l
theorem kp_ord {w : Nat} {s : Int} {a b u v : Rg} (h : Kp w (ord1 s a b) u) (k : Kp w (ord2 s a b) v) : (u.h : Int) + s ≤ b.h ∧ (a.l : Int) + s ≤ v.l := by
  have h1 : (u.h : Int) ≤ (if (b.h : Int) - s < (a.h : Int) then (b.h : Int) - s else (a.h : Int)) := h.h
  have h2 : (if (b.l : Int) < (a.l : Int) + s then (a.l : Int) + s else (b.l : Int)) ≤ v.l := k.l
  constructor
  · split at h1 <;> omega
  · split at h2 <;> omega
theorem pre_meet {p : Str} {w : Nat} {a b u v : Rg} (hp : p ∈ preds) (hg : ¬ isG p) (hs : isSg p → ¬ (a.z &&& 2 ^ (w - 1) = 0 ∨ b.z &&& 2 ^ (w - 1) = 0)) (h1 : NX w (pre p w a b).1 (some u)) (h2 : NX w (pre p w a b).2 (some v)) : Meet p a b u v := by
  have k1 := nx_kp h1
  have k2 := nx_kp h2
  rcases preds_cases hp with rfl | rfl | rfl | rfl | rfl | rfl | rfl | rfl | rfl | rfl
  · simp only [pre, if_pos] at h1 h2 k1 k2
    have e := Option.some.inj (h1.uniq h2)
    subst e
    simp only [Meet, if_pos]
    have a1 : ((max a.l b.l : Nat) : Int) ≤ u.l := k1.l
    have a2 : (u.h : Int) ≤ ((min a.h b.h : Nat) : Int) := k1.h
    exact ⟨by omega, Nat.le_refl _, by omega, Nat.le_refl _⟩
  · simp [Meet]
  · have k1 : Kp w (ord1 1 a b) u := by simpa [pre, oO] using k1
    have k2 : Kp w (ord2 1 a b) v := by simpa [pre, oO] using k2
    simpa [Meet, isG, stO] using kp_ord k1 k2
  · have k1 : Kp w (ord1 0 a b) u := by simpa [pre, oO] using k1
    have k2 : Kp w (ord2 0 a b) v := by simpa [pre, oO] using k2
    simpa [Meet, isG, stO] using kp_ord k1 k2
  · exact absurd (show isG "ugt" by decide) hg
  · exact absurd (show isG "uge" by decide) hg
  · have hs := hs (.inl rfl)
    have k1 : Kp w (ord1 1 a b) u := by simpa [pre, oO, hs] using k1
    have k2 : Kp w (ord2 1 a b) v := by simpa [pre, oO, hs] using k2
    simpa [Meet, isG, stO] using kp_ord k1 k2
  · have hs := hs (.inr (.inl rfl))
    have k1 : Kp w (ord1 0 a b) u := by simpa [pre, oO, hs] using k1
    have k2 : Kp w (ord2 0 a b) v := by simpa [pre, oO, hs] using k2
    simpa [Meet, isG, stO] using kp_ord k1 k2
  · exact absurd (show isG "sgt" by decide) hg
  · exact absurd (show isG "sge" by decide) hg
theorem ref_meet {p : Str} {w : Nat} {a b u v : Rg} (h : RefR p w a b (some (u, v))) (hp : p ∈ preds) (hs : isSg p → ¬ (a.z &&& 2 ^ (w - 1) = 0 ∨ b.z &&& 2 ^ (w - 1) = 0)) : Meet p a b u v := by
  rcases h with ⟨hg, r1, r2, h1, h2, e⟩ | ⟨hg, q, ⟨r1, r2, h1, h2, rfl⟩, e⟩
  · obtain ⟨rfl, rfl⟩ := both_some e
    exact pre_meet hp hg hs h1 h2
  · have e2 : some (v, u) = both r1 r2 := by
      cases eb : both r1 r2 with
      | none => rw [eb] at e; cases e
      | some q => rw [eb] at e; cases e; rfl
    obtain ⟨rfl, rfl⟩ := both_some e2
    obtain ⟨p1, p2⟩ := swp_pred hp hg
    have hs' : isSg (swpS p) → ¬ (b.z &&& 2 ^ (w - 1) = 0 ∨ a.z &&& 2 ^ (w - 1) = 0) := fun q => by
      have : isSg p := by
        rcases hg with rfl | rfl | rfl | rfl
        · exact absurd q (by unfold isSg; decide)
        · exact absurd q (by unfold isSg; decide)
        · exact .inr (.inr (.inl rfl))
        · exact .inr (.inr (.inr rfl))
      exact fun z => hs this z.symm
    have := pre_meet p1 p2 hs' h1 h2
    rcases hg with rfl | rfl | rfl | rfl <;> simpa [Meet, isG, stO, swpS] using this
def wd (p : Str) : Str := if p = "eq" then "q" else if p = "ne" then "e" else if p = "ult" ∨ p = "slt" then "lt" else if p = "ule" ∨ p = "sle" then "le" else if p = "ugt" ∨ p = "sgt" then "gt" else "ge"
theorem wd_cut {p : Str} (hp : p ∈ preds) : cutS p (some 1) none = wd p ∧ p.length ≤ sizeLine := by
  rcases preds_cases hp with rfl | rfl | rfl | rfl | rfl | rfl | rfl | rfl | rfl | rfl <;> exact ⟨by decide +kernel, by decide⟩
theorem wd_g {p : Str} (hp : p ∈ preds) : (wd p = "gt" ∨ wd p = "ge") ↔ isG p := by
  rcases preds_cases hp with rfl | rfl | rfl | rfl | rfl | rfl | rfl | rfl | rfl | rfl <;> decide
theorem wd_s {p : Str} (hp : p ∈ preds) : (wd p = "lt" ∨ wd p = "gt") ↔ stO p = 1 := by
  rcases preds_cases hp with rfl | rfl | rfl | rfl | rfl | rfl | rfl | rfl | rfl | rfl <;> decide
def vp__law_bounds_meet : VSp := fun rs Φ => ∃ (p : Str) (w : Nat) (a b u v : Rg), rs = [.d (.str p), .d (.int w), .d (.tuple [rg a, rg b]), .d (.tuple [rg u, rg v])] ∧ p ∈ preds ∧ Meet p a b u v ∧ Φ (.d (.bool true))
theorem len__law_bounds_meet : ∀ rs Φ, vp__law_bounds_meet rs Φ → rs.length = 4 := fun rs Φ ⟨_, _, _, _, _, _, e, _⟩ => by rw [e]; rfl
theorem G__law_bounds_meet (T : Txt K mg w) : FnOk P w K mg base CX0 1 T.f__law_bounds_meet T.fd__law_bounds_meet ["predicate", "w", "given", "found"] (toSp K 4 vp__law_bounds_meet) := by
  refine fn_ok T.F__law_bounds_meet sc__law_bounds_meet fun cdv A outer s H E hr => ⟨_, (pss_cons (ps_set (i := 4) sc__law_bounds_meet.nd rfl (Or.inl rfl) (pe_slice sl_str (pv 0) (po_some pe_int) po_none))
 (pss_cons (ps_asg (pv 2) (pg_tup (n := 2) rfl (pgs_cons (pg_name (i := 6) sc__law_bounds_meet.nd rfl (Or.inl rfl)) (pgs_cons (pg_name (i := 7) sc__law_bounds_meet.nd rfl (Or.inl rfl)) pgs_nil))))
 (pss_cons (ps_asg (pv 3) (pg_tup (n := 2) rfl (pgs_cons (pg_name (i := 8) sc__law_bounds_meet.nd rfl (Or.inl rfl)) (pgs_cons (pg_name (i := 9) sc__law_bounds_meet.nd rfl (Or.inl rfl)) pgs_nil))))
 (pss_cons (ps_if (pt_cmpR (kx_in (K := K) rfl) (pv 4) (pe_tup (pa_cons pe_str (pa_cons pe_str pa_nil))) (by rfl)) (pss_cons (ps_par (by rfl) sc__law_bounds_meet.nd rfl rfl (by decide) rfl rfl (pa_cons (pv 7) (pa_cons (pv 6) pa_nil)) (by rfl))
 (pss_one (ps_par (by rfl) sc__law_bounds_meet.nd rfl rfl (by decide) rfl rfl (pa_cons (pv 9) (pa_cons (pv 8) pa_nil)) (by rfl)))) pss_nil)
 (pss_cons (ps_set (i := 5) sc__law_bounds_meet.nd rfl (Or.inl rfl) (pe_callTy call_int1 (by rfl) T.int (by decide +kernel) (pa_cons (pe_cmpR (kx_in (K := K) rfl) (pv 4) (pe_tup (pa_cons pe_str (pa_cons pe_str pa_nil))) (by rfl)) pa_nil)))
 (pss_cons (ps_if (pt_cmpR op_eq (pv 0) pe_str (nomark _)) (pss_one (ps_ret (pe_and (pe_cmpR op_ge (pe_ix (kx_seq (K := K) rfl) (pv 8) pe_int (fun _ _ => rfl)) (pe_callB (call_max2 rfl) (by rfl) T.max (by decide +kernel) (pa_cons (pe_ix (kx_seq (K := K) rfl) (pv 6) pe_int (fun _ _ => rfl)) (pa_cons (pe_ix (kx_seq (K := K) rfl) (pv 7) pe_int (fun _ _ => rfl)) pa_nil))) (nomark _)) (pe_and (pe_cmpR op_ge (pe_ix (kx_seq (K := K) rfl) (pv 9) pe_int (fun _ _ => rfl)) (pe_ix (kx_seq (K := K) rfl) (pv 8) pe_int (fun _ _ => rfl)) (nomark _)) (pe_and (pe_cmpR op_le (pe_ix (kx_seq (K := K) rfl) (pv 8) pe_int (fun _ _ => rfl)) (pe_callB (call_min2 rfl) (by rfl) T.min (by decide +kernel) (pa_cons (pe_ix (kx_seq (K := K) rfl) (pv 6) pe_int (fun _ _ => rfl)) (pa_cons (pe_ix (kx_seq (K := K) rfl) (pv 7) pe_int (fun _ _ => rfl)) pa_nil))) (nomark _)) (pe_one (pe_cmpR op_le (pe_ix (kx_seq (K := K) rfl) (pv 9) pe_int (fun _ _ => rfl)) (pe_ix (kx_seq (K := K) rfl) (pv 8) pe_int (fun _ _ => rfl)) (nomark _)))))))) pss_nil)
 (pss_cons (ps_if (pt_cmpR op_eq (pv 0) pe_str (nomark _)) (pss_one (ps_ret pe_bl)) pss_nil)
 (pss_one (ps_ret (pe_and (pe_cmpR op_le (pe_ix (kx_seq (K := K) rfl) (pv 8) pe_int (fun _ _ => rfl)) (pe_op op_sub (pe_ix (kx_seq (K := K) rfl) (pv 7) pe_int (fun _ _ => rfl)) (pv 5)) (nomark _)) (pe_one (pe_cmpR op_ge (pe_ix (kx_seq (K := K) rfl) (pv 9) pe_int (fun _ _ => rfl)) (pe_op op_add (pe_ix (kx_seq (K := K) rfl) (pv 6) pe_int (fun _ _ => rfl)) (pv 5)) (nomark _))))))))))))), _, fun ex He Hf => (sms_seq (sms_asg (sm_sl_str (f1 := false) (sm_var 0) (smp_some (f1 := false) (sm_int _)) smp_none) (smg_name 4))
 (sms_seq (sms_asg (sm_var 2) (smg_tup (smg_cons (smg_name 6) (smg_cons (smg_name 7) smg_nil))))
 (sms_seq (sms_asg (sm_var 3) (smg_tup (smg_cons (smg_name 8) (smg_cons (smg_name 9) smg_nil))))
 (sms_seq (sms_if (smt_t (f1 := false) (sm_op (f1 := false) (f2 := false) (opd_in false) (sm_var 4) (sm_tup (sma_cons (sm_str _) (sma_cons (sm_str _) sma_nil)))))
 (sms_seq (sms_par 6 7 (sm_var 7) (sm_var 6))
 (sms_par 8 9 (sm_var 9) (sm_var 8)))
 sms_next)
 (sms_seq (sms_asg (sm_cb (f1 := false) cbd_int (sma_cons (sm_op (f1 := false) (f2 := false) (opd_in false) (sm_var 4) (sm_tup (sma_cons (sm_str _) (sma_cons (sm_str _) sma_nil)))) sma_nil)) (smg_name 5))
 (sms_seq (sms_if (smt_t (f1 := false) (sm_op (f1 := false) (f2 := false) opd_eq (sm_var 0) (sm_str _)))
 (sms_ret (sm_and (f1 := false) (sm_op (f1 := false) (f2 := false) (opd_I0 (g' := fun i j => .bool (decide (j ≤ i))) fun _ _ => rfl) (sm_ix (f2 := false) (sm_var 8) (sm_int _)) (sm_cb (f1 := false) cbd_max (sma_cons (sm_ix (f2 := false) (sm_var 6) (sm_int _)) (sma_cons (sm_ix (f2 := false) (sm_var 7) (sm_int _)) sma_nil)))) (sm_and (f1 := false) (sm_op (f1 := false) (f2 := false) (opd_I0 (g' := fun i j => .bool (decide (j ≤ i))) fun _ _ => rfl) (sm_ix (f2 := false) (sm_var 9) (sm_int _)) (sm_ix (f2 := false) (sm_var 8) (sm_int _))) (sm_and (f1 := false) (sm_op (f1 := false) (f2 := false) (opd_I0 (g' := fun i j => .bool (decide (i ≤ j))) fun _ _ => rfl) (sm_ix (f2 := false) (sm_var 8) (sm_int _)) (sm_cb (f1 := false) cbd_min (sma_cons (sm_ix (f2 := false) (sm_var 6) (sm_int _)) (sma_cons (sm_ix (f2 := false) (sm_var 7) (sm_int _)) sma_nil)))) (sm_op (f1 := false) (f2 := false) (opd_I0 (g' := fun i j => .bool (decide (i ≤ j))) fun _ _ => rfl) (sm_ix (f2 := false) (sm_var 9) (sm_int _)) (sm_ix (f2 := false) (sm_var 8) (sm_int _)))))))
 sms_next)
 (sms_seq (sms_if (smt_t (f1 := false) (sm_op (f1 := false) (f2 := false) opd_eq (sm_var 0) (sm_str _)))
 (sms_ret (sm_bl _))
 sms_next)
 (sms_ret (sm_and (f1 := false) (sm_op (f1 := false) (f2 := false) (opd_I0 (g' := fun i j => .bool (decide (i ≤ j))) fun _ _ => rfl) (sm_ix (f2 := false) (sm_var 8) (sm_int _)) (sm_op (f1 := false) (f2 := false) (opd_I0 (g' := fun i j => .int (i - j)) fun _ _ => rfl) (sm_ix (f2 := false) (sm_var 7) (sm_int _)) (sm_var 5))) (sm_op (f1 := false) (f2 := false) (opd_I0 (g' := fun i j => .bool (decide (j ≤ i))) fun _ _ => rfl) (sm_ix (f2 := false) (sm_var 9) (sm_int _)) (sm_op (f1 := false) (f2 := false) (opd_I0 (g' := fun i j => .int (i + j)) fun _ _ => rfl) (sm_ix (f2 := false) (sm_var 6) (sm_int _)) (sm_var 5)))))))))))), ?_⟩
  rintro rs Φ ⟨p, w, a', b', u', v', rfl, hp, hm, h⟩
  have l2 : (2 : Nat) ≤ sizeLine := by decide
  refine seq_op fun N hN => ?_
  simp [startD, (wd_cut hp).1, (wd_cut hp).2]
  refine hN _ ?_
  clear hN N
  refine seq_op fun N hN => ?_
  simp
  refine hN _ ?_
  clear hN N
  refine seq_op fun N hN => ?_
  simp
  refine hN _ ?_
  clear hN N
  refine seq_op fun N hN => ?_
  have tail : ∀ (a b u v : Rg) (y5 : Option R), (p = "eq" → max a.l b.l ≤ u.l ∧ u.l ≤ v.l ∧ u.h ≤ min a.h b.h ∧ v.h ≤ u.h) → (p ≠ "eq" → p ≠ "ne" → (u.h : Int) + stO p ≤ b.h ∧ (a.l : Int) + stO p ≤ v.l) → N [some (.d (.str p)), some (.d (.int w)), some (.d (.tuple [rg a', rg b'])), some (.d (.tuple [rg u', rg v'])), some (.d (.str (wd p))), y5, some (.d (rg a)), some (.d (rg b)), some (.d (rg u)), some (.d (rg v))] := by
    intro a b u v y5 m1 m2
    refine hN _ ?_
    clear hN N
    refine seq_op fun N hN => ?_
    have st : N [some (.d (.str p)), some (.d (.int w)), some (.d (.tuple [rg a', rg b'])), some (.d (.tuple [rg u', rg v'])), some (.d (.str (wd p))), some (.d (.int (stO p))), some (.d (rg a)), some (.d (rg b)), some (.d (rg u)), some (.d (rg v))] := by
      refine hN _ ?_
      clear hN N
      refine seq_op fun N hN => ?_
      by_cases e1 : p = "eq"
      · obtain ⟨q1, q2, q3, q4⟩ := m1 e1
        have f1 : (if a.l < b.l then (b.l : Int) else (a.l : Int)) ≤ (u.l : Int) := by split <;> omega
        have f2 : (u.h : Int) ≤ (if b.h < a.h then (b.h : Int) else (a.h : Int)) := by split <;> omega
        have f3 : (u.l : Int) ≤ (v.l : Int) := by omega
        have f4 : (v.h : Int) ≤ (u.h : Int) := by omega
        simp [e1, rg, f1, f2, q2, q4]
        exact h
      refine dIfS_two (fun c => c = false) (fun Ψ hΨ => ?_) (fun hc => by cases hc) (fun _ => ?_)
      · have hΨ := hΨ _ rfl
        simpa [e1] using hΨ
      simp only [dNext]
      refine hN _ ?_
      clear hN N
      refine seq_op fun N hN => ?_
      by_cases e2 : p = "ne"
      · simpa [e2] using h
      refine dIfS_two (fun c => c = false) (fun Ψ hΨ => ?_) (fun hc => by cases hc) (fun _ => ?_)
      · have hΨ := hΨ _ rfl
        simpa [e2] using hΨ
      simp only [dNext]
      refine hN _ ?_
      obtain ⟨q1, q2⟩ := m2 e1 e2
      have n1 : (u.h : Int) ≤ (b.h : Int) - stO p := by omega
      simp [rg, n1, q2]
      exact h
    clear hN m1 m2
    rcases preds_cases hp with rfl | rfl | rfl | rfl | rfl | rfl | rfl | rfl | rfl | rfl <;> simp [wd, inD, l2, stO] at st ⊢ <;> exact st
  refine dIfS_two (fun c => c = decide (isG p)) (fun Ψ hΨ => ?_) (fun hc => ?_) (fun hc => ?_)
  · have hΨ := hΨ _ rfl
    clear tail hN
    rcases preds_cases hp with rfl | rfl | rfl | rfl | rfl | rfl | rfl | rfl | rfl | rfl <;> simp [wd, inD, l2, isG] at hΨ ⊢ <;> exact hΨ
  · have hg : isG p := by simpa using hc
    have t2 := tail b' a' v' u' none
    clear tail hN
    refine seq_op fun M hM => ?_
    simp
    refine hM _ ?_
    simp
    refine t2 (fun e => absurd hg (by rw [e]; decide)) fun e1 e2 => ?_
    simpa [Meet, e1, e2, hg] using hm
  · have hg : ¬ isG p := by simpa using hc
    simp only [dNext]
    refine tail a' b' u' v' none (fun e => ?_) fun e1 e2 => ?_
    · simpa [Meet, e] using hm
    · simpa [Meet, e1, e2, hg] using hm

theorem tup4' {d1 d2 d3 d4 : DE} {g : DG} {E : DEnds} {δ : Dl} (h : d1 δ fun x1 => d2 δ fun x2 => d3 δ fun x3 => d4 δ fun x4 => 4 ≤ sizeLine ∧ g (.tuple [x1, x2, x3, x4]) δ E.nx) : dAsg (dTup (dCons d1 (dCons d2 (dCons d3 (dCons d4 dNil))))) g E δ := h
def vp__law_refined (n : Nat) : VSp := fun rs Φ => ∃ (p : Str) (w : Nat) (a b : Rg), rs = [.d (.str p), .d (.int w), .d (rg a), .d (rg b)] ∧ p ∈ preds ∧ rk34 p < n ∧ 1 ≤ w ∧ w ≤ 64 ∧ InW w a ∧ InW w b ∧ ∀ r, RefR p w a b r → Φ (.d (prD r))
theorem len__law_refined {n : Nat} : ∀ rs Φ, vp__law_refined n rs Φ → rs.length = 4 := fun rs Φ ⟨_, _, _, _, e, _⟩ => by rw [e]; rfl
theorem lref_at {n : Nat} (T : Txt K mg w) : FnOk P w K mg base CX0 (n + 7) T.f__law_refined T.fd__law_refined ["predicate", "w", "a", "b"] (toSp K 4 (vp__law_refined n)) := by
  induction n with
  | zero => exact ⟨fun vs H Q E h => h.1, fun A outer s H args us vs Q E _ _ _ _ h => by
      obtain ⟨_, _, _, _, _, _, _, ⟨_, _, _, _, _, _, h, _⟩, _⟩ := h
      exact absurd h (Nat.not_lt_zero _)⟩
  | succ n ih =>
    refine fn_ok T.F__law_refined sc__law_refined fun cdv A outer s H E hr => ⟨_, (pss_cons (ps_set (i := 4) sc__law_refined.nd rfl (Or.inl rfl) (pe_op op_sub (pe_op op_shl pe_int (pv 1)) pe_int))
 (pss_cons (ps_set (i := 5) sc__law_refined.nd rfl (Or.inl rfl) (pe_slice sl_str (pv 0) (po_some pe_int) po_none))
 (pss_cons (ps_if (PW.pt (pw_and (pt_cmpR (kx_notIn (K := K) rfl) (pv 0) (pe_tup (pa_cons pe_str (pa_cons pe_str pa_nil))) (by rfl)) (pw_and1 (pt_cmpR (kx_in (K := K) rfl) (pv 5) (pe_tup (pa_cons pe_str (pa_cons pe_str pa_nil))) (by rfl))))) (pss_cons (ps_set (i := 8) sc__law_refined.nd rfl (Or.inl rfl) (pe_call ih hr (by rfl) T.g__law_refined T.F__law_refined.kp T.b__law_refined .nil pass0 (pa_cons (pe_op op_add_str (pe_ix (kx_seq (K := K) rfl) (pv 0) pe_int (fun _ _ => rfl)) (pe_dget (hu_of hr) (pe_disp (pps_cons pe_str pe_str (pps_cons pe_str pe_str pps_nil)) (by rfl) (by rfl) (fun z => by cases z) (by decide)) (pv 5) (fun _ _ => rfl))) (pa_cons (pv 1) (pa_cons (pv 3) (pa_cons (pv 2) pa_nil))))))
 (pss_one (ps_ret (pe_ifExp (pt_cmpR op_isN (pv 8) pe_non (nomark _)) pe_non (pe_tup (pa_cons (pe_ix (kx_seq (K := K) rfl) (pv 8) pe_int (fun _ _ => rfl)) (pa_cons (pe_ix (kx_seq (K := K) rfl) (pv 8) pe_int (fun _ _ => rfl)) pa_nil))))))) pss_nil)
 (pss_cons (ps_if (PW.pt (pw_and (pt_cmpR (kx_in (K := K) rfl) (pv 0) (pe_tup (pa_cons pe_str (pa_cons pe_str pa_nil))) (by rfl)) (pw_and1 (PW.pt (pw_or (pt_cmpR op_eq (pe_op op_and (pe_op op_shr (pe_ix (kx_seq (K := K) rfl) (pv 2) pe_int (fun _ _ => rfl)) (pe_op op_sub (pv 1) pe_int)) pe_int) pe_int (nomark _)) (pw_or1 (pt_cmpR op_eq (pe_op op_and (pe_op op_shr (pe_ix (kx_seq (K := K) rfl) (pv 3) pe_int (fun _ _ => rfl)) (pe_op op_sub (pv 1) pe_int)) pe_int) pe_int (nomark _)))))))) (pss_cons (ps_set (i := 6) sc__law_refined.nd rfl (Or.inl rfl) (pv 2))
 (pss_one (ps_set (i := 7) sc__law_refined.nd rfl (Or.inl rfl) (pv 3)))) (pss_one (ps_if (pt_cmpR op_eq (pv 0) pe_str (nomark _)) (pss_cons (ps_set (i := 6) sc__law_refined.nd rfl (Or.inl rfl) (pe_tup (pa_cons (pe_callB (call_max2 rfl) (by rfl) T.max (by decide +kernel) (pa_cons (pe_ix (kx_seq (K := K) rfl) (pv 2) pe_int (fun _ _ => rfl)) (pa_cons (pe_ix (kx_seq (K := K) rfl) (pv 3) pe_int (fun _ _ => rfl)) pa_nil))) (pa_cons (pe_callB (call_min2 rfl) (by rfl) T.min (by decide +kernel) (pa_cons (pe_ix (kx_seq (K := K) rfl) (pv 2) pe_int (fun _ _ => rfl)) (pa_cons (pe_ix (kx_seq (K := K) rfl) (pv 3) pe_int (fun _ _ => rfl)) pa_nil))) (pa_cons (pe_op op_or (pe_ix (kx_seq (K := K) rfl) (pv 2) pe_int (fun _ _ => rfl)) (pe_ix (kx_seq (K := K) rfl) (pv 3) pe_int (fun _ _ => rfl))) (pa_cons (pe_op op_or (pe_ix (kx_seq (K := K) rfl) (pv 2) pe_int (fun _ _ => rfl)) (pe_ix (kx_seq (K := K) rfl) (pv 3) pe_int (fun _ _ => rfl))) pa_nil))))))
 (pss_one (ps_set (i := 7) sc__law_refined.nd rfl (Or.inl rfl) (pv 6)))) (pss_one (ps_if (pt_cmpR op_eq (pv 0) pe_str (nomark _)) (pss_cons (ps_set (i := 6) sc__law_refined.nd rfl (Or.inl rfl) (pe_call (G__law_moved T) (hr.mono (by omega)) (by rfl) T.g__law_moved T.F__law_moved.kp T.b__law_moved .nil pass0 (pa_cons (pv 2) (pa_cons (pv 3) pa_nil))))
 (pss_one (ps_set (i := 7) sc__law_refined.nd rfl (Or.inl rfl) (pe_call (G__law_moved T) (hr.mono (by omega)) (by rfl) T.g__law_moved T.F__law_moved.kp T.b__law_moved .nil pass0 (pa_cons (pv 3) (pa_cons (pv 2) pa_nil)))))) (pss_cons (ps_set (i := 9) sc__law_refined.nd rfl (Or.inl rfl) (pe_callTy call_int1 (by rfl) T.int (by decide +kernel) (pa_cons (pe_cmpR op_eq (pv 5) pe_str (nomark _)) pa_nil)))
 (pss_cons (ps_if (PW.pt (pw_and (pt_cmpR op_eq (pv 9) pe_int (nomark _)) (pw_and1 (PW.pt (pw_or (pt_cmpR op_eq (pe_ix (kx_seq (K := K) rfl) (pv 3) pe_int (fun _ _ => rfl)) pe_int (nomark _)) (pw_or1 (pt_cmpR op_eq (pe_ix (kx_seq (K := K) rfl) (pv 2) pe_int (fun _ _ => rfl)) (pv 4) (nomark _)))))))) (pss_one (ps_ret pe_non)) pss_nil)
 (pss_cons (ps_set (i := 6) sc__law_refined.nd rfl (Or.inl rfl) (pe_tup (pa_cons (pe_ix (kx_seq (K := K) rfl) (pv 2) pe_int (fun _ _ => rfl)) (pa_cons (pe_callB (call_min2 rfl) (by rfl) T.min (by decide +kernel) (pa_cons (pe_ix (kx_seq (K := K) rfl) (pv 2) pe_int (fun _ _ => rfl)) (pa_cons (pe_op op_sub (pe_ix (kx_seq (K := K) rfl) (pv 3) pe_int (fun _ _ => rfl)) (pv 9)) pa_nil))) (pa_cons (pe_ix (kx_seq (K := K) rfl) (pv 2) pe_int (fun _ _ => rfl)) (pa_cons (pe_ix (kx_seq (K := K) rfl) (pv 2) pe_int (fun _ _ => rfl)) pa_nil))))))
 (pss_one (ps_set (i := 7) sc__law_refined.nd rfl (Or.inl rfl) (pe_tup (pa_cons (pe_callB (call_max2 rfl) (by rfl) T.max (by decide +kernel) (pa_cons (pe_ix (kx_seq (K := K) rfl) (pv 3) pe_int (fun _ _ => rfl)) (pa_cons (pe_op op_add (pe_ix (kx_seq (K := K) rfl) (pv 2) pe_int (fun _ _ => rfl)) (pv 9)) pa_nil))) (pa_cons (pe_ix (kx_seq (K := K) rfl) (pv 3) pe_int (fun _ _ => rfl)) (pa_cons (pe_ix (kx_seq (K := K) rfl) (pv 3) pe_int (fun _ _ => rfl)) (pa_cons (pe_ix (kx_seq (K := K) rfl) (pv 3) pe_int (fun _ _ => rfl)) pa_nil)))))))))))))))
 (pss_cons (ps_set (i := 6) sc__law_refined.nd rfl (Or.inl rfl) (pe_call (G__law_normal T) (hr.mono (by omega)) (by rfl) T.g__law_normal T.F__law_normal.kp T.b__law_normal .nil pass0 (pa_cons (pv 6) (pa_cons (pv 1) pa_nil))))
 (pss_cons (ps_set (i := 7) sc__law_refined.nd rfl (Or.inl rfl) (pe_call (G__law_normal T) (hr.mono (by omega)) (by rfl) T.g__law_normal T.F__law_normal.kp T.b__law_normal .nil pass0 (pa_cons (pv 7) (pa_cons (pv 1) pa_nil))))
 (pss_cons (ps_if (PW.pt (pw_or (pt_cmpR op_isN (pv 6) pe_non (nomark _)) (pw_or1 (pt_cmpR op_isN (pv 7) pe_non (nomark _))))) (pss_one (ps_ret pe_non)) pss_nil)
 (pss_one (ps_ret (pe_tup (pa_cons (pv 6) (pa_cons (pv 7) pa_nil)))))))))))), _, fun ex He Hf => (sms_seq (sms_asg (sm_op (f1 := false) (f2 := false) (opd_I0 (g' := fun i j => .int (i - j)) fun _ _ => rfl) (sm_op (f1 := false) (f2 := false) (opd_I (g' := fun i j => .int (i * 2 ^ j.toNat)) fun _ _ => rfl) (sm_int _) (sm_var 1)) (sm_int _)) (smg_name 4))
 (sms_seq (sms_asg (sm_sl_str (f1 := false) (sm_var 0) (smp_some (f1 := false) (sm_int _)) smp_none) (smg_name 5))
 (sms_seq (sms_if (smt_and (smt_t (f1 := false) (sm_op (f1 := false) (f2 := false) (opd_in true) (sm_var 0) (sm_tup (sma_cons (sm_str _) (sma_cons (sm_str _) sma_nil))))) (smt_t (f1 := false) (sm_op (f1 := false) (f2 := false) (opd_in false) (sm_var 5) (sm_tup (sma_cons (sm_str _) (sma_cons (sm_str _) sma_nil))))))
 (sms_seq (sms_asg (sm_call len__law_refined (smq_cons (sm_op (f1 := false) (f2 := false) opd_catS (sm_ix (f2 := false) (sm_var 0) (sm_int _)) (sm_menu2 (f1 := false) (f2 := false) (sm_str _) (sm_str _) (sm_var 5))) (smq_cons (sm_var 1) (smq_cons (sm_var 3) (smq_cons (sm_var 2) smq_nil))))) (smg_name 8))
 (sms_ret (sm_if (smt_t (f1 := false) (sm_op (f1 := false) (f2 := false) opd_isN (sm_var 8) sm_non)) sm_non (sm_tup (sma_cons (sm_ix (f2 := false) (sm_var 8) (sm_int _)) (sma_cons (sm_ix (f2 := false) (sm_var 8) (sm_int _)) sma_nil))))))
 sms_next)
 (sms_seq (sms_if (smt_and (smt_t (f1 := false) (sm_op (f1 := false) (f2 := false) (opd_in false) (sm_var 0) (sm_tup (sma_cons (sm_str _) (sma_cons (sm_str _) sma_nil))))) (smt_or (smt_t (f1 := false) (sm_op (f1 := false) (f2 := false) opd_eq (sm_op (f1 := false) (f2 := false) (opd_I0 (g' := fun i j => .int (Builtin.bitAnd i j)) fun _ _ => rfl) (sm_op (f1 := false) (f2 := false) (opd_I (g' := fun i j => .int (i / 2 ^ j.toNat)) fun _ _ => rfl) (sm_ix (f2 := false) (sm_var 2) (sm_int _)) (sm_op (f1 := false) (f2 := false) (opd_I0 (g' := fun i j => .int (i - j)) fun _ _ => rfl) (sm_var 1) (sm_int _))) (sm_int _)) (sm_int _))) (smt_t (f1 := false) (sm_op (f1 := false) (f2 := false) opd_eq (sm_op (f1 := false) (f2 := false) (opd_I0 (g' := fun i j => .int (Builtin.bitAnd i j)) fun _ _ => rfl) (sm_op (f1 := false) (f2 := false) (opd_I (g' := fun i j => .int (i / 2 ^ j.toNat)) fun _ _ => rfl) (sm_ix (f2 := false) (sm_var 3) (sm_int _)) (sm_op (f1 := false) (f2 := false) (opd_I0 (g' := fun i j => .int (i - j)) fun _ _ => rfl) (sm_var 1) (sm_int _))) (sm_int _)) (sm_int _)))))
 (sms_seq (sms_asg (sm_var 2) (smg_name 6))
 (sms_asg (sm_var 3) (smg_name 7)))
 (sms_if (smt_t (f1 := false) (sm_op (f1 := false) (f2 := false) opd_eq (sm_var 0) (sm_str _)))
 (sms_seq (sms_asg (sm_tup (sma_cons (sm_cb (f1 := false) cbd_max (sma_cons (sm_ix (f2 := false) (sm_var 2) (sm_int _)) (sma_cons (sm_ix (f2 := false) (sm_var 3) (sm_int _)) sma_nil))) (sma_cons (sm_cb (f1 := false) cbd_min (sma_cons (sm_ix (f2 := false) (sm_var 2) (sm_int _)) (sma_cons (sm_ix (f2 := false) (sm_var 3) (sm_int _)) sma_nil))) (sma_cons (sm_op (f1 := false) (f2 := false) (opd_I0 (g' := fun i j => .int (Builtin.bitOr i j)) fun _ _ => rfl) (sm_ix (f2 := false) (sm_var 2) (sm_int _)) (sm_ix (f2 := false) (sm_var 3) (sm_int _))) (sma_cons (sm_op (f1 := false) (f2 := false) (opd_I0 (g' := fun i j => .int (Builtin.bitOr i j)) fun _ _ => rfl) (sm_ix (f2 := false) (sm_var 2) (sm_int _)) (sm_ix (f2 := false) (sm_var 3) (sm_int _))) sma_nil))))) (smg_name 6))
 (sms_asg (sm_var 6) (smg_name 7)))
 (sms_if (smt_t (f1 := false) (sm_op (f1 := false) (f2 := false) opd_eq (sm_var 0) (sm_str _)))
 (sms_seq (sms_asg (sm_call len__law_moved (smq_cons (sm_var 2) (smq_cons (sm_var 3) smq_nil))) (smg_name 6))
 (sms_asg (sm_call len__law_moved (smq_cons (sm_var 3) (smq_cons (sm_var 2) smq_nil))) (smg_name 7)))
 (sms_seq (sms_asg (sm_cb (f1 := false) cbd_int (sma_cons (sm_op (f1 := false) (f2 := false) opd_eq (sm_var 5) (sm_str _)) sma_nil)) (smg_name 9))
 (sms_seq (sms_if (smt_and (smt_t (f1 := false) (sm_op (f1 := false) (f2 := false) opd_eq (sm_var 9) (sm_int _))) (smt_or (smt_t (f1 := false) (sm_op (f1 := false) (f2 := false) opd_eq (sm_ix (f2 := false) (sm_var 3) (sm_int _)) (sm_int _))) (smt_t (f1 := false) (sm_op (f1 := false) (f2 := false) opd_eq (sm_ix (f2 := false) (sm_var 2) (sm_int _)) (sm_var 4)))))
 (sms_ret sm_non)
 sms_next)
 (sms_seq (sms_asg (sm_tup (sma_cons (sm_ix (f2 := false) (sm_var 2) (sm_int _)) (sma_cons (sm_cb (f1 := false) cbd_min (sma_cons (sm_ix (f2 := false) (sm_var 2) (sm_int _)) (sma_cons (sm_op (f1 := false) (f2 := false) (opd_I0 (g' := fun i j => .int (i - j)) fun _ _ => rfl) (sm_ix (f2 := false) (sm_var 3) (sm_int _)) (sm_var 9)) sma_nil))) (sma_cons (sm_ix (f2 := false) (sm_var 2) (sm_int _)) (sma_cons (sm_ix (f2 := false) (sm_var 2) (sm_int _)) sma_nil))))) (smg_name 6))
 (sms_asg (sm_tup (sma_cons (sm_cb (f1 := false) cbd_max (sma_cons (sm_ix (f2 := false) (sm_var 3) (sm_int _)) (sma_cons (sm_op (f1 := false) (f2 := false) (opd_I0 (g' := fun i j => .int (i + j)) fun _ _ => rfl) (sm_ix (f2 := false) (sm_var 2) (sm_int _)) (sm_var 9)) sma_nil))) (sma_cons (sm_ix (f2 := false) (sm_var 3) (sm_int _)) (sma_cons (sm_ix (f2 := false) (sm_var 3) (sm_int _)) (sma_cons (sm_ix (f2 := false) (sm_var 3) (sm_int _)) sma_nil))))) (smg_name 7))))))))
 (sms_seq (sms_asg (sm_call len__law_normal (smq_cons (sm_var 6) (smq_cons (sm_var 1) smq_nil))) (smg_name 6))
 (sms_seq (sms_asg (sm_call len__law_normal (smq_cons (sm_var 7) (smq_cons (sm_var 1) smq_nil))) (smg_name 7))
 (sms_seq (sms_if (smt_or (smt_t (f1 := false) (sm_op (f1 := false) (f2 := false) opd_isN (sm_var 6) sm_non)) (smt_t (f1 := false) (sm_op (f1 := false) (f2 := false) opd_isN (sm_var 7) sm_non)))
 (sms_ret sm_non)
 sms_next)
 (sms_ret (sm_tup (sma_cons (sm_var 6) (sma_cons (sm_var 7) sma_nil))))))))))), ?_⟩
    rintro rs Φ ⟨p, w, a, b, rfl, hp, hn, h1, hw, ha, hb, h⟩
    have l2 : (2 : Nat) ≤ sizeLine := by decide
    have l4 : (4 : Nat) ≤ sizeLine := by decide
    refine seq_op fun N hN => ?_
    simp [startD]
    rw [pw_nat]
    refine ⟨cp1 (by omega) (by omega), hN _ ?_⟩
    clear hN N
    refine seq_op fun N hN => ?_
    simp [(wd_cut hp).1, (wd_cut hp).2]
    refine hN _ ?_
    clear hN N
    refine seq_op fun N hN => ?_
    refine dIfS_two (fun c => c = decide (isG p)) (fun Ψ hΨ => ?_) (fun hc => ?_) (fun hc => ?_)
    · have hΨ := hΨ _ rfl
      clear hN h hn
      rcases preds_cases hp with rfl | rfl | rfl | rfl | rfl | rfl | rfl | rfl | rfl | rfl <;> simp [wd, inD, l2, isG] at hΨ ⊢ <;> exact hΨ
    · have hg : isG p := by simpa using hc
      clear hN
      obtain ⟨p1, p2⟩ := swp_pred hp hg
      refine seq_op fun M hM => ?_
      have again : ∀ q : Str, q = swpS p → vp__law_refined n [.d (.str q), .d (.int w), .d (rg b), .d (rg a)] fun r => M [some (.d (.str p)), some (.d (.int w)), some (.d (rg a)), some (.d (rg b)), some (.d (.int ((2 ^ w - 1 : Nat) : Int))), some (.d (.str (wd p))), none, none, some (.d r.data), none] := by
        rintro q rfl
        refine ⟨swpS p, w, b, a, rfl, p1, by rw [rk34, if_neg p2]; rw [rk34, if_pos hg] at hn; omega, h1, hw, hb, ha, fun r hr => hM _ ?_⟩
        have hr : Res w (pre (swpS p) w b a) r := by
          rcases hr with ⟨_, hr⟩ | ⟨g, _⟩
          · exact hr
          · exact absurd g p2
        have h := h _ (.inr ⟨hg, r, hr, rfl⟩)
        cases r with
        | none => simpa [prD, swO] using h
        | some q =>
          obtain ⟨u, v⟩ := q
          simp [prD, swO]
          exact ⟨l2, h⟩
      simp
      clear hM h
      rcases hg with rfl | rfl | rfl | rfl
      · exact ⟨by decide, _, rfl, .inl ⟨rfl, by decide, again _ (by decide +kernel)⟩⟩
      · exact ⟨by decide, _, rfl, .inr ⟨rfl, by decide, again _ (by decide +kernel)⟩⟩
      · exact ⟨by decide, _, rfl, .inl ⟨rfl, by decide, again _ (by decide +kernel)⟩⟩
      · exact ⟨by decide, _, rfl, .inr ⟨rfl, by decide, again _ (by decide +kernel)⟩⟩
    have hg : ¬ isG p := by simpa using hc
    simp only [dNext]
    refine hN _ ?_
    clear hN N
    refine seq_op fun N hN => ?_
    have h : ∀ r, Res w (pre p w a b) r → Φ (.d (prD r)) := fun r hr => h r (.inl ⟨hg, hr⟩)
    have tail : ∀ (x y : Ri) (y8 y9 : Option R), NXok w x ∧ NXok w y → (∀ r, Res w (x, y) r → Φ (.d (prD r))) → N [some (.d (.str p)), some (.d (.int w)), some (.d (rg a)), some (.d (rg b)), some (.d (.int ((2 ^ w - 1 : Nat) : Int))), some (.d (.str (wd p))), some (.d (ri x)), some (.d (ri y)), y8, y9] := by
      intro x y y4 y5 ok h
      refine hN _ ?_
      clear hN N
      refine seq_op fun N hN => ?_
      simp
      refine ⟨w, x, rfl, h1, hw, ok.1, fun r1 n1 => hN _ ?_⟩
      clear hN N
      refine seq_op fun N hN => ?_
      simp
      refine ⟨w, y, rfl, h1, hw, ok.2, fun r2 n2 => hN _ ?_⟩
      clear hN N
      refine seq_op fun N hN => ?_
      have h := h _ ⟨r1, r2, n1, n2, rfl⟩
      cases r1 with
      | none => simpa [rgO, both, prD] using h
      | some u =>
        cases r2 with
        | none => simpa [rgO, rg, both, prD] using h
        | some v =>
          simp [rgO, rg]
          refine hN _ ?_
          simp
          exact ⟨l2, h⟩
    have t3 := fun y8 y9 => tail _ _ y8 y9 (ok_pre (p := p) ha hb) h
    clear tail hN
    have hsl : p = "slt" ∨ p = "sle" ∨ p = "eq" ∨ p = "ne" ∨ p = "ult" ∨ p = "ule" := by
      rcases preds_cases hp with c | c | c | c | c | c | c | c | c | c
      · exact .inr (.inr (.inl c))
      · exact .inr (.inr (.inr (.inl c)))
      · exact .inr (.inr (.inr (.inr (.inl c))))
      · exact .inr (.inr (.inr (.inr (.inr c))))
      · exact absurd (.inl c) hg
      · exact absurd (.inr (.inl c)) hg
      · exact .inl c
      · exact .inr (.inl c)
      · exact absurd (.inr (.inr (.inl c))) hg
      · exact absurd (.inr (.inr (.inr c))) hg
    refine dIfS_two (fun c => c = decide ((p = "slt" ∨ p = "sle") ∧ (a.z &&& 2 ^ (w - 1) = 0 ∨ b.z &&& 2 ^ (w - 1) = 0))) (fun Ψ hΨ => ?_) (fun hc => ?_) (fun hc => ?_)
    · have hΨ' := hΨ _ rfl
      clear t3 h hΨ
      by_cases hs : p = "slt" ∨ p = "sle"
      · have e1 : ((w : Int) - 1).toNat = w - 1 := by omega
        have eb : ∀ z : Nat, Builtin.bitAnd ((z : Int) / 2 ^ (w - 1)) 1 = if z.testBit (w - 1) = true then 1 else 0 := fun z => by
          have e : (z : Int) / 2 ^ (w - 1) = ((z / 2 ^ (w - 1) : Nat) : Int) := by push_cast; rfl
          rw [e, show (1 : Int) = ((1 : Nat) : Int) from rfl, bA, Nat.and_one_is_mod, Nat.testBit_eq_decide_div_mod_eq]
          rcases Nat.mod_two_eq_zero_or_one (z / 2 ^ (w - 1)) with h | h <;> rw [h] <;> rfl
        have es : decide ((p = "slt" ∨ p = "sle") ∧ (a.z &&& 2 ^ (w - 1) = 0 ∨ b.z &&& 2 ^ (w - 1) = 0)) = (!a.z.testBit (w - 1) || !b.z.testBit (w - 1)) := by
          rw [Bool.eq_iff_iff, decide_eq_true_iff, bit_zero, bit_zero]
          cases a.z.testBit (w - 1) <;> cases b.z.testBit (w - 1) <;> simp [hs]
        rw [es] at hΨ'
        clear es hsl
        rcases hs with rfl | rfl
        · simp [inD, l2, rg, e1, eb]
          refine ⟨by omega, ?_⟩
          cases ea : a.z.testBit (w - 1)
          · simpa [ea] using hΨ'
          · rw [ea] at hΨ'
            simp
            exact ⟨by omega, hΨ'⟩
        · simp [inD, l2, rg, e1, eb]
          refine ⟨by omega, ?_⟩
          cases ea : a.z.testBit (w - 1)
          · simpa [ea] using hΨ'
          · rw [ea] at hΨ'
            simp
            exact ⟨by omega, hΨ'⟩
      · rw [decide_eq_false fun q => hs q.1] at hΨ'
        rcases hsl with c | c | rfl | rfl | rfl | rfl
        · exact absurd (.inl c) hs
        · exact absurd (.inr c) hs
        all_goals simp [inD, l2] <;> exact hΨ'
    · have hc : (p = "slt" ∨ p = "sle") ∧ (a.z &&& 2 ^ (w - 1) = 0 ∨ b.z &&& 2 ^ (w - 1) = 0) := by simpa using hc
      have t3 := t3 none none
      refine seq_op fun M hM => ?_
      simp
      refine hM _ ?_
      simp
      obtain ⟨hp2, hz⟩ := hc
      rcases hp2 with rfl | rfl
      · simpa [pre, hz, ri_rg] using t3
      · simpa [pre, hz, ri_rg] using t3
    have hc : ¬ ((p = "slt" ∨ p = "sle") ∧ (a.z &&& 2 ^ (w - 1) = 0 ∨ b.z &&& 2 ^ (w - 1) = 0)) := of_decide_eq_false hc.symm
    refine dIfS_two (fun c => c = decide (p = "eq")) (fun Ψ hΨ => ?_) (fun hc => ?_) (fun hc2 => ?_)
    · have hΨ := hΨ _ rfl
      simp
      by_cases c : p = "eq" <;> simpa [c] using hΨ
    · obtain rfl : p = "eq" := by simpa using hc
      have t3 := t3 none none
      simp only [pre, if_pos] at t3
      have am : (if (b.l : Int) > (a.l : Int) then (b.l : Int) else (a.l : Int)) = ((max a.l b.l : Nat) : Int) := by split <;> omega
      have an : (if (b.h : Int) < (a.h : Int) then (b.h : Int) else (a.h : Int)) = ((min a.h b.h : Nat) : Int) := by split <;> omega
      refine seq_op fun M hM => ?_
      refine tup4' ?_
      refine mx_at (x := (a.l : Int)) (y := (b.l : Int)) (rg_ix (a := a) rfl rfl) (rg_ix (a := b) rfl rfl) ?_
      refine mn_at (x := (a.h : Int)) (y := (b.h : Int)) (rg_ix (a := a) rfl rfl) (rg_ix (a := b) rfl rfl) ?_
      refine or_at (x := (a.z : Int)) (y := (b.z : Int)) (rg_ix (a := a) rfl rfl) (rg_ix (a := b) rfl rfl) ?_
      refine or_at (x := (a.o : Int)) (y := (b.o : Int)) (rg_ix (a := a) rfl rfl) (rg_ix (a := b) rfl rfl) ?_
      rw [am, an, bO, bO]
      refine ⟨l4, hM _ ?_⟩
      simp
      exact t3
    have hc2 : ¬ p = "eq" := by simpa using hc2
    refine dIfS_two (fun c => c = decide (p = "ne")) (fun Ψ hΨ => ?_) (fun hc => ?_) (fun hc3 => ?_)
    · have hΨ := hΨ _ rfl
      simp
      by_cases c : p = "ne" <;> simpa [c] using hΨ
    · obtain rfl : p = "ne" := by simpa using hc
      have t3 := t3 none none
      refine seq_op fun M hM => ?_
      simp
      refine ⟨a, b, rfl, hM _ ?_⟩
      simp
      refine ⟨b, a, rfl, ?_⟩
      simpa [pre] using t3
    have hc3 : ¬ p = "ne" := by simpa using hc3
    have epre : pre p w a b = oO (stO p) a b := by
      rcases hsl with rfl | rfl | rfl | rfl | rfl | rfl
      · have : ¬ (a.z &&& 2 ^ (w - 1) = 0 ∨ b.z &&& 2 ^ (w - 1) = 0) := fun q => hc ⟨.inl rfl, q⟩
        simp [pre, stO, this]
      · have : ¬ (a.z &&& 2 ^ (w - 1) = 0 ∨ b.z &&& 2 ^ (w - 1) = 0) := fun q => hc ⟨.inr rfl, q⟩
        simp [pre, stO, this]
      · exact absurd rfl hc2
      · exact absurd rfl hc3
      · simp [pre, stO]
      · simp [pre, stO]
    have hst : (wd p = "lt" ∧ stO p = 1) ∨ (¬ wd p = "lt" ∧ stO p = 0) := by
      rcases hsl with rfl | rfl | rfl | rfl | rfl | rfl
      · exact .inl (by decide)
      · exact .inr (by decide)
      · exact absurd rfl hc2
      · exact absurd rfl hc3
      · exact .inl (by decide)
      · exact .inr (by decide)
    rw [epre] at h t3
    clear epre hc hsl
    refine seq_op fun M hM => ?_
    have st : M [some (.d (.str p)), some (.d (.int w)), some (.d (rg a)), some (.d (rg b)), some (.d (.int ((2 ^ w - 1 : Nat) : Int))), some (.d (.str (wd p))), none, none, none, some (.d (.int (stO p)))] := by
      refine hM _ ?_
      clear hM M
      generalize stO p = s at *
      refine seq_op fun M hM => ?_
      refine dIfS_two (fun c => c = decide (s = 1 ∧ (b.h = 0 ∨ a.l = 2 ^ w - 1))) (fun Ψ hΨ => ?_) (fun hc => ?_) (fun hc => ?_)
      · have hΨ' := hΨ _ rfl
        clear hΨ hM t3 h hst
        generalize 2 ^ w - 1 = top at hΨ' ⊢
        simp [rg, inj34]
        by_cases c1 : s = 1
        · by_cases c2 : b.h = 0
          · simpa [c1, c2] using hΨ'
          · by_cases c3 : a.l = top
            · simpa [c1, c2, c3] using hΨ'
            · simpa [c1, c2, c3] using hΨ'
        · simpa [c1] using hΨ'
      · have hc' : s = 1 ∧ (b.h = 0 ∨ a.l = 2 ^ w - 1) := of_decide_eq_true hc.symm
        clear hc
        simp
        obtain ⟨es, hc⟩ := hc'
        clear hM t3 hst
        subst es
        have ok := ok_ord (s := 1) (by decide) ha hb
        obtain ⟨r1, n1⟩ := NX.total ok.1
        obtain ⟨r2, n2⟩ := NX.total ok.2
        refine h none ?_
        rcases hc with hc | hc
        · refine ⟨none, r2, .inl ⟨?_, rfl⟩, n2, rfl⟩
          show (if (b.h : Int) - 1 < (a.h : Int) then (b.h : Int) - 1 else (a.h : Int)) < (a.l : Int)
          split <;> omega
        · refine ⟨r1, none, n1, .inl ⟨?_, rfl⟩, by cases r1 <;> rfl⟩
          have := hb.2.1
          show (b.h : Int) < (if (b.l : Int) < (a.l : Int) + 1 then (a.l : Int) + 1 else (b.l : Int))
          have := Nat.two_pow_pos w
          split <;> omega
      · simp only [dNext]
        refine hM _ ?_
        clear hM M
        refine seq_op fun M hM => ?_
        simp [rg, le_size, lt_size, cmul_l, cpow_l, cdiv_l]
        refine hM _ ?_
        simp [le_size, lt_size, cmul_l, cpow_l, cdiv_l]
        exact t3 none (some (.d (.int s)))
    simp
    rcases hst with ⟨e1, e2⟩ | ⟨e1, e2⟩
    · simpa [e1, e2] using st
    · simpa [e1, e2] using st
theorem G__law_refined (T : Txt K mg w) : FnOk P w K mg base CX0 9 T.f__law_refined T.fd__law_refined ["predicate", "w", "a", "b"] (toSp K 4 (vp__law_refined 2)) := lref_at T


theorem pof {n : Int} (a : 0 ≤ n) (b : n < 10) : ∃ p : Str, p ∈ preds ∧ atI [PyData.str "ult", .str "ule", .str "eq", .str "ne", .str "slt", .str "ugt", .str "uge", .str "sle", .str "sgt", .str "sge"] n = some (.str p) := by
  rcases (show n = 0 ∨ n = 1 ∨ n = 2 ∨ n = 3 ∨ n = 4 ∨ n = 5 ∨ n = 6 ∨ n = 7 ∨ n = 8 ∨ n = 9 by omega) with rfl | rfl | rfl | rfl | rfl | rfl | rfl | rfl | rfl | rfl <;> exact ⟨_, by simp [preds], rfl⟩
theorem kind5 {r : Int} (h0 : 0 ≤ r) (h1 : r < 5) : ∃ (k : Str) (w : Nat), atI [PyData.str "i8", .str "i32", .str "i1", .str "i64", .str "i16"] r = some (.str k) ∧ KW k w := by
  have : r = 0 ∨ r = 1 ∨ r = 2 ∨ r = 3 ∨ r = 4 := by omega
  rcases this with rfl | rfl | rfl | rfl | rfl
  · exact ⟨"i8", 8, rfl, by simp [L__WIDTHS], by decide, by decide⟩
  · exact ⟨"i32", 32, rfl, by simp [L__WIDTHS], by decide, by decide⟩
  · exact ⟨"i1", 1, rfl, by simp [L__WIDTHS], by decide, by decide⟩
  · exact ⟨"i64", 64, rfl, by simp [L__WIDTHS], by decide, by decide⟩
  · exact ⟨"i16", 16, rfl, by simp [L__WIDTHS], by decide, by decide⟩
def pl (ps : List (Nat × Nat)) : List PyData := ps.map fun q => .tuple [.int (q.1 : Int), .int (q.2 : Int)]
theorem pl_snoc (ps : List (Nat × Nat)) (x y : Nat) : pl (ps ++ [(x, y)]) = pl ps ++ [.tuple [.int (x : Int), .int (y : Int)]] := by simp [pl]
theorem pl_at {ps : List (Nat × Nat)} {k : Nat} {z : PyData} (h : (pl ps)[k]? = some z) : ∃ q ∈ ps, z = .tuple [.int (q.1 : Int), .int (q.2 : Int)] := by
  rw [pl, List.getElem?_map] at h
  cases e : ps[k]? with
  | none => rw [e] at h; cases h
  | some v => rw [e] at h; exact ⟨v, List.mem_of_getElem? e, (Option.some.inj h).symm⟩
theorem prD_sh (r : Option (Rg × Rg)) : SeqAt.shaped (prD r) = true := by
  cases r with
  | none => rfl
  | some q =>
    exact (Okd.tuple (n := 1) (xs := [rg q.1, rg q.2]) (fun y hy => by
      simp at hy
      rcases hy with rfl | rfl <;> exact rg_okd _) (by simp)).shaped (by decide)
theorem prD_self (r : Option (Rg × Rg)) : PyData.eqv (prD r) (prD r) = true := by
  cases r with
  | none => rfl
  | some q => simp [prD, PyData.eqv, PyData.eqvAll, rg_eqv]
def wds : PyData := .list [.str "ult", .str "ule", .str "eq", .str "ne", .str "slt", .str "ugt", .str "uge", .str "sle", .str "sgt", .str "sge"]
theorem ok_law (T : Txt K mg w) : FnOk P w K mg base CX0 10 T.f_law T.fd_law ["script"] (spLaw K) := by
  refine T.F_law.ok sc_law (fun vs H Q E h => ?_) (fun cdv A outer s H vs Q E hr h => ?_)
  · obtain ⟨a, ns, rfl, _⟩ := h
    rfl
  obtain ⟨a, ns, rfl, hS, hlen, k⟩ := h
  refine ⟨_, (pss_cons (ps_set (i := 1) sc_law.nd rfl (Or.inr rfl) (pe_call (G__law_draw T) (hr.mono (by decide)) (by rfl) T.g__law_draw T.F__law_draw.kp T.b__law_draw .nil pass0 (pa_cons (pv 0) pa_nil)))
 (pss_cons (ps_set (i := 2) sc_law.nd rfl (Or.inl rfl) (pe_ix (kx_seq (K := K) rfl) (pe_lst (pa_cons pe_str (pa_cons pe_str (pa_cons pe_str (pa_cons pe_str (pa_cons pe_str pa_nil)))))) (pe_call (G__law_take T) (hr.mono (by decide)) (by rfl) T.g__law_take T.F__law_take.kp T.b__law_take .nil pass0 (pa_cons (pv 1) (pa_cons pe_int pa_nil))) (fun _ _ => rfl)))
 (pss_cons (ps_set (i := 3) sc_law.nd rfl (Or.inr rfl) (pe_call (G__law_width T) (hr.mono (by decide)) (by rfl) T.g__law_width T.F__law_width.kp T.b__law_width .nil pass0 (pa_cons (pv 2) pa_nil)))
 (pss_cons (ps_set (i := 4) sc_law.nd rfl (Or.inl rfl) (pe_lst (pa_cons pe_str (pa_cons pe_str (pa_cons pe_str (pa_cons pe_str (pa_cons pe_str (pa_cons pe_str (pa_cons pe_str (pa_cons pe_str (pa_cons pe_str (pa_cons pe_str pa_nil))))))))))))
 (pss_cons (ps_set (i := 5) sc_law.nd rfl (Or.inl rfl) (pe_ix (kx_seq (K := K) rfl) (pv 4) (pe_call (G__law_take T) (hr.mono (by decide)) (by rfl) T.g__law_take T.F__law_take.kp T.b__law_take .nil pass0 (pa_cons (pv 1) (pa_cons pe_int pa_nil))) (fun _ _ => rfl)))
 (pss_cons (ps_setLc (i := 6) (own := [("k", 14)]) (g := gName 14) (tt := tYes) rfl sc_law.nd rfl rfl (sw_true rfl rfl rfl (by decide +kernel)) (pi_range1 rfl T.range (pa_cons (pe_op op_add pe_int (pe_call (G__law_take T) (hr.mono (by decide)) (by rfl) T.g__law_take T.F__law_take.kp T.b__law_take .nil pass0 (pa_cons (pv 1) (pa_cons pe_int pa_nil)))) pa_nil)) (blkOk_by (N := ["script", "draw", "kind", "w", "words", "predicate", "first", "second", "a", "b", "found", "pairs", "x", "y", "k"]) (sc := defScope slaw) (by decide +kernel)) (fun _ _ _ _ _ => pg_name (i := 14) sc_law.nd rfl (Or.inl rfl)) (fun _ _ _ _ _ => pts_nil) (fun _ _ _ _ _ => (pe_call (G__law_number T) (hr.mono (by decide)) (by rfl) T.g__law_number T.F__law_number.kp T.b__law_number .nil pass0 (pa_cons (pv 1) (pa_cons (pv 3) pa_nil)))))
 (pss_cons (ps_set (i := 7) sc_law.nd rfl (Or.inl rfl) (pe_call (G__law_near T) (hr.mono (by decide)) (by rfl) T.g__law_near T.F__law_near.kp T.b__law_near .nil pass0 (pa_cons (pv 1) (pa_cons (pv 6) (pa_cons (pv 3) pa_nil)))))
 (pss_cons (ps_set (i := 8) sc_law.nd rfl (Or.inl rfl) (pe_call (G__law_loose T) (hr.mono (by decide)) (by rfl) T.g__law_loose T.F__law_loose.kp T.b__law_loose .nil pass0 (pa_cons (pv 1) (pa_cons (pe_call (G__law_tight T) (hr.mono (by decide)) (by rfl) T.g__law_tight T.F__law_tight.kp T.b__law_tight .nil pass0 (pa_cons (pv 6) (pa_cons (pv 3) pa_nil))) (pa_cons (pv 3) pa_nil)))))
 (pss_cons (ps_set (i := 9) sc_law.nd rfl (Or.inl rfl) (pe_call (G__law_loose T) (hr.mono (by decide)) (by rfl) T.g__law_loose T.F__law_loose.kp T.b__law_loose .nil pass0 (pa_cons (pv 1) (pa_cons (pe_call (G__law_tight T) (hr.mono (by decide)) (by rfl) T.g__law_tight T.F__law_tight.kp T.b__law_tight .nil pass0 (pa_cons (pv 7) (pa_cons (pv 3) pa_nil))) (pa_cons (pv 3) pa_nil)))))
 (pss_cons (ps_set (i := 10) sc_law.nd rfl (Or.inl rfl) (pe_call (G_refine T) hr (by rfl) T.g_refine T.F_refine.kp T.b_refine .nil pass0 (pa_cons (pv 5) (pa_cons (pv 2) (pa_cons (pv 8) (pa_cons (pv 9) pa_nil))))))
 (pss_cons (ps_set (i := 11) sc_law.nd rfl (Or.inl rfl) (pe_lst pa_nil))
 (pss_cons (ps_for PassesOwn.never rfl ((kpi_list (K := K) rfl (pv 6))) (pg_name (i := 12) sc_law.nd rfl (Or.inl rfl)) (pss_one (ps_for PassesOwn.never rfl ((kpi_list (K := K) rfl (pv 7))) (pg_name (i := 13) sc_law.nd rfl (Or.inl rfl)) (pss_one (ps_if (pt_cmpR op_eq (pe_call (G__law_compare T) (hr.mono (by decide)) (by rfl) T.g__law_compare T.F__law_compare.kp T.b__law_compare .nil pass0 (pa_cons (pv 5) (pa_cons (pv 3) (pa_cons (pv 12) (pa_cons (pv 13) pa_nil))))) pe_int (nomark _)) (pss_one (ps_expr (pe_bm PySem.F.plainAttrs_list PySem.F.slot_list_append PySem.F.type_list_append mt_append (pv 11) (pa_cons (pe_tup (pa_cons (pv 12) (pa_cons (pv 13) pa_nil))) pa_nil)))) pss_nil)))))
 (pss_cons (ps_if (pt_cmpR (kx_neD (K := K) rfl hr.units) (pv 10) (pe_call (G__law_refined T) hr (by rfl) T.g__law_refined T.F__law_refined.kp T.b__law_refined .nil pass0 (pa_cons (pv 5) (pa_cons (pv 3) (pa_cons (pv 8) (pa_cons (pv 9) pa_nil))))) (nomark _)) (pss_one (ps_ret pe_bl)) pss_nil)
 (pss_cons (ps_if (pt_cmpR op_isN (pv 10) pe_non (nomark _)) (pss_one (ps_ret (pe_cmpR (kx_eqD (K := K) rfl hr.units) (pv 11) (pe_lst pa_nil) (nomark _)))) pss_nil)
 (pss_cons (ps_if (PW.pt (pw_or (pt_not (pt_val (pe_callB (kx_isi (K := K) rfl) (by rfl) T.isinstance (by decide +kernel) (pa_cons (pv 10) (pa_cons (pe_bltn (v := .ty "tuple") (by rfl) T.tuple (by decide +kernel) rfl) pa_nil))))) (pw_or1 (pt_cmpR op_ne (pe_callB (kx_len (K := K) rfl) (by rfl) T.len PySem.boot_len (pa_cons (pv 10) pa_nil)) pe_int (nomark _))))) (pss_one (ps_ret pe_bl)) pss_nil)
 (pss_cons (ps_if (PW.pt (pw_or (pt_not (pt_val (pe_call (G__law_is_range T) (hr.mono (by decide)) (by rfl) T.g__law_is_range T.F__law_is_range.kp T.b__law_is_range .nil pass0 (pa_cons (pe_ix (kx_seq (K := K) rfl) (pv 10) pe_int (fun _ _ => rfl)) (pa_cons (pv 3) pa_nil))))) (pw_or1 (pt_not (pt_val (pe_call (G__law_is_range T) (hr.mono (by decide)) (by rfl) T.g__law_is_range T.F__law_is_range.kp T.b__law_is_range .nil pass0 (pa_cons (pe_ix (kx_seq (K := K) rfl) (pv 10) pe_int (fun _ _ => rfl)) (pa_cons (pv 3) pa_nil)))))))) (pss_one (ps_ret pe_bl)) pss_nil)
 (pss_cons (ps_if (PW.pt (pw_or (pt_not (pt_val (pe_call (G__law_keeps T) (hr.mono (by decide)) (by rfl) T.g__law_keeps T.F__law_keeps.kp T.b__law_keeps .nil pass0 (pa_cons (pe_ix (kx_seq (K := K) rfl) (pv 10) pe_int (fun _ _ => rfl)) (pa_cons (pv 8) pa_nil))))) (pw_or1 (pt_not (pt_val (pe_call (G__law_keeps T) (hr.mono (by decide)) (by rfl) T.g__law_keeps T.F__law_keeps.kp T.b__law_keeps .nil pass0 (pa_cons (pe_ix (kx_seq (K := K) rfl) (pv 10) pe_int (fun _ _ => rfl)) (pa_cons (pv 9) pa_nil)))))))) (pss_one (ps_ret pe_bl)) pss_nil)
 (pss_cons (ps_for PassesOwn.never rfl ((kpi_list (K := K) rfl (pv 11))) (pg_tup (n := 2) rfl (pgs_cons (pg_name (i := 12) sc_law.nd rfl (Or.inl rfl)) (pgs_cons (pg_name (i := 13) sc_law.nd rfl (Or.inl rfl)) pgs_nil))) (pss_one (ps_if (PW.pt (pw_or (pt_not (pt_val (pe_call (G__law_member T) (hr.mono (by decide)) (by rfl) T.g__law_member T.F__law_member.kp T.b__law_member .nil pass0 (pa_cons (pe_ix (kx_seq (K := K) rfl) (pv 10) pe_int (fun _ _ => rfl)) (pa_cons (pv 12) pa_nil))))) (pw_or1 (pt_not (pt_val (pe_call (G__law_member T) (hr.mono (by decide)) (by rfl) T.g__law_member T.F__law_member.kp T.b__law_member .nil pass0 (pa_cons (pe_ix (kx_seq (K := K) rfl) (pv 10) pe_int (fun _ _ => rfl)) (pa_cons (pv 13) pa_nil)))))))) (pss_one (ps_ret pe_bl)) pss_nil)))
 (pss_cons (ps_if (PW.pt (pw_and (pt_cmpR op_eq (pe_ix (kx_seq (K := K) rfl) (pv 5) pe_int (fun _ _ => rfl)) pe_str (nomark _)) (pw_and1 (pt_not (pt_val (pe_call (G__law_signs_known T) (hr.mono (by decide)) (by rfl) T.g__law_signs_known T.F__law_signs_known.kp T.b__law_signs_known .nil pass0 (pa_cons (pv 8) (pa_cons (pv 9) (pa_cons (pv 3) pa_nil))))))))) (pss_one (ps_ret pe_bl)) pss_nil)
 (pss_one (ps_ret (pe_call (G__law_bounds_meet T) (hr.mono (by decide)) (by rfl) T.g__law_bounds_meet T.F__law_bounds_meet.kp T.b__law_bounds_meet .nil pass0 (pa_cons (pv 5) (pa_cons (pv 3) (pa_cons (pe_tup (pa_cons (pv 8) (pa_cons (pv 9) pa_nil))) (pa_cons (pv 10) pa_nil)))))))))))))))))))))))))), ?_⟩
  refine law_in (n := 13) hS hlen k (fun ex He Hf => (sms_seq (sms_asg (sm_ix (f2 := false) (SmO.sm (smo_lst (sma_cons (sm_str _) (sma_cons (sm_str _) (sma_cons (sm_str _) (sma_cons (sm_str _) (sma_cons (sm_str _) sma_nil))))))) (sm_call len__law_take (smq_drw 1 (smq_cons (sm_int _) smq_nil)))) (smg_name 2))
 (sms_seq (sms_asg (sm_call len__law_width (smq_cons (sm_var 2) smq_nil)) (smg_name 3))
 (sms_seq (sms_asg (SmO.sm (smo_lst (sma_cons (sm_str _) (sma_cons (sm_str _) (sma_cons (sm_str _) (sma_cons (sm_str _) (sma_cons (sm_str _) (sma_cons (sm_str _) (sma_cons (sm_str _) (sma_cons (sm_str _) (sma_cons (sm_str _) (sma_cons (sm_str _) sma_nil)))))))))))) (smg_name 4))
 (sms_seq (sms_asg (sm_ix (f2 := false) (sm_var 4) (sm_call len__law_take (smq_drw 1 (smq_cons (sm_int _) smq_nil)))) (smg_name 5))
 (sms_seq (sms_asg (SmO.sm (smo_lc (i := 14) (smi_rng1 (f1 := false) (sm_op (f1 := false) (f2 := false) (opd_I0 (g' := fun i j => .int (i + j)) fun _ _ => rfl) (sm_int _) (sm_call len__law_take (smq_drw 1 (smq_cons (sm_int _) smq_nil))))) smt_yes (sm_call len__law_number (smq_drw 1 (smq_cons (sm_var 3) smq_nil))))) (smg_name 6))
 (sms_seq (sms_asg (sm_call len__law_near (smq_drw 1 (smq_cons (sm_var 6) (smq_cons (sm_var 3) smq_nil)))) (smg_name 7))
 (sms_seq (sms_asg (sm_call len__law_loose (smq_drw 1 (smq_cons (sm_call len__law_tight (smq_cons (sm_var 6) (smq_cons (sm_var 3) smq_nil))) (smq_cons (sm_var 3) smq_nil)))) (smg_name 8))
 (sms_seq (sms_asg (sm_call len__law_loose (smq_drw 1 (smq_cons (sm_call len__law_tight (smq_cons (sm_var 7) (smq_cons (sm_var 3) smq_nil))) (smq_cons (sm_var 3) smq_nil)))) (smg_name 9))
 (sms_seq (sms_asg (sm_call len_refine (smq_cons (sm_var 5) (smq_cons (sm_var 2) (smq_cons (sm_var 8) (smq_cons (sm_var 9) smq_nil))))) (smg_name 10))
 (sms_seq (sms_setO 11 (smo_lst sma_nil))
 (sms_seq (sms_for (smi_list (sm_var 6)) (smg_name 12)
 (sms_for (smi_list (sm_var 7)) (smg_name 13)
 (sms_if (smt_t (f1 := false) (sm_op (f1 := false) (f2 := false) opd_eq (sm_call len__law_compare (smq_cons (sm_var 5) (smq_cons (sm_var 3) (smq_cons (sm_var 12) (smq_cons (sm_var 13) smq_nil))))) (sm_int _)))
 (sms_app 11 (sm_tup (sma_cons (sm_var 12) (sma_cons (sm_var 13) sma_nil))))
 sms_next)))
 (sms_seq (sms_if (smt_t (f1 := false) (sm_op (f1 := false) (f2 := false) opd_neD (sm_var 10) (sm_call len__law_refined (smq_cons (sm_var 5) (smq_cons (sm_var 3) (smq_cons (sm_var 8) (smq_cons (sm_var 9) smq_nil)))))))
 (sms_ret (sm_bl _))
 sms_next)
 (sms_seq (sms_if (smt_t (f1 := false) (sm_op (f1 := false) (f2 := false) opd_isN (sm_var 10) sm_non))
 (sms_ret (sm_op (f1 := false) (f2 := false) opd_eqD (sm_varO 11) (SmO.sm (smo_lst sma_nil))))
 sms_next)
 (sms_seq (sms_if (smt_or (smt_not (smt_b (f1 := false) (sm_isi (f1 := false) "tuple" (sm_var 10)))) (smt_t (f1 := false) (sm_op (f1 := false) (f2 := false) opd_ne (sm_cb (f1 := false) cbd_len (sma_cons (sm_var 10) sma_nil)) (sm_int _))))
 (sms_ret (sm_bl _))
 sms_next)
 (sms_seq (sms_if (smt_or (smt_not (smt_b (f1 := false) (sm_call len__law_is_range (smq_cons (sm_ix (f2 := false) (sm_var 10) (sm_int _)) (smq_cons (sm_var 3) smq_nil))))) (smt_not (smt_b (f1 := false) (sm_call len__law_is_range (smq_cons (sm_ix (f2 := false) (sm_var 10) (sm_int _)) (smq_cons (sm_var 3) smq_nil))))))
 (sms_ret (sm_bl _))
 sms_next)
 (sms_seq (sms_if (smt_or (smt_not (smt_b (f1 := false) (sm_call len__law_keeps (smq_cons (sm_ix (f2 := false) (sm_var 10) (sm_int _)) (smq_cons (sm_var 8) smq_nil))))) (smt_not (smt_b (f1 := false) (sm_call len__law_keeps (smq_cons (sm_ix (f2 := false) (sm_var 10) (sm_int _)) (smq_cons (sm_var 9) smq_nil))))))
 (sms_ret (sm_bl _))
 sms_next)
 (sms_seq (sms_forO 11 (smg_tup (smg_cons (smg_name 12) (smg_cons (smg_name 13) smg_nil)))
 (sms_if (smt_or (smt_not (smt_b (f1 := false) (sm_call len__law_member (smq_cons (sm_ix (f2 := false) (sm_var 10) (sm_int _)) (smq_cons (sm_var 12) smq_nil))))) (smt_not (smt_b (f1 := false) (sm_call len__law_member (smq_cons (sm_ix (f2 := false) (sm_var 10) (sm_int _)) (smq_cons (sm_var 13) smq_nil))))))
 (sms_ret (sm_bl _))
 sms_next))
 (sms_seq (sms_if (smt_and (smt_t (f1 := false) (sm_op (f1 := false) (f2 := false) opd_eq (sm_ix (f2 := false) (sm_var 5) (sm_int _)) (sm_str _))) (smt_not (smt_b (f1 := false) (sm_call len__law_signs_known (smq_cons (sm_var 8) (smq_cons (sm_var 9) (smq_cons (sm_var 3) smq_nil)))))))
 (sms_ret (sm_bl _))
 sms_next)
 (sms_ret (sm_call len__law_bounds_meet (smq_cons (sm_var 5) (smq_cons (sm_var 3) (smq_cons (sm_tup (sma_cons (sm_var 8) (sma_cons (sm_var 9) sma_nil))) (smq_cons (sm_var 10) smq_nil))))))))))))))))))))))))) fun raw => ?_
  refine seq_op fun N hN => ?_
  simp
  refine ⟨by decide, fun r r0 r1 => ?_⟩
  obtain ⟨kd, w, e, hk⟩ := kind5 r0 r1
  refine ⟨_, e, hN _ ?_⟩
  clear hN N e
  have h1 := hk.2.1
  have hw := hk.2.2
  refine seq_op fun N hN => ?_
  simp
  refine ⟨kd, _, rfl, hk.1, hN _ ?_⟩
  clear hN N
  simp only [data_d]
  refine seq_op fun N hN => ?_
  simp
  refine ⟨by decide, hN _ ?_⟩
  clear hN N
  refine seq_op fun N hN => ?_
  simp
  intro r r0 r1
  obtain ⟨p, hp, e⟩ := pof r0 r1
  refine ⟨_, e, hN _ ?_⟩
  clear hN N e r0 r1 r
  refine seq_op fun N hN => ?_
  simp
  refine oLc_q (Q := fun n => 1 ≤ n ∧ n ≤ 3) (fun Ψ hΨ => ?_) (Ps w) ⟨[], fun _ h => (nomatch h), rfl⟩ (fun k acc Ψ hl hP hz => ?_) (fun n acc hn hl hP => ?_)
  · simp
    intro r r0 r1
    have := hΨ (1 + r).toNat (by omega) (by omega)
    rwa [show (((1 + r).toNat : Nat) : Int) = 1 + r by omega] at this
  · simp
    exact ⟨w, rfl, h1, hw, fun n hn => hz _ (ps_snoc hP hn)⟩
  obtain ⟨xs, xw, rfl⟩ := hP
  rw [nl_len] at hl
  have x0 : 0 < xs.length := by omega
  have xl : xs.length ≤ 100 := by omega
  clear hl hn
  refine hN _ ?_
  clear hN N
  refine seq_op fun N hN => ?_
  simp
  refine ⟨xs, w, rfl, ⟨x0, xw, xl⟩, h1, hw, fun ys hy => ?_⟩
  obtain ⟨y0, yw, yl⟩ := hy
  refine hN _ ?_
  clear hN N
  simp only [data_own]
  refine seq_op fun N hN => ?_
  simp
  refine ⟨xs, w, rfl, x0, xw, hw, fun m M m1 m2 M1 M2 => ?_⟩
  obtain ⟨t1, t2⟩ := tight_ok xw m1 m2 M1 M2
  refine ⟨_, w, rfl, t1.1, t1.2.1, h1, hw, fun l u i j g1 g2 g3 => hN _ ?_⟩
  obtain ⟨ha, ma⟩ := loose_ok (m := i) (n := j) t1 g1 g2 g3
  have ma := fun v hv => ma v (t2 v hv)
  generalize (⟨l, u, _, _⟩ : Rg) = a at ha ma ⊢
  clear hN N t1 t2 g1 g2 g3 m1 m2 M1 M2
  refine seq_op fun N hN => ?_
  simp
  refine ⟨ys, w, rfl, y0, yw, hw, fun m M m1 m2 M1 M2 => ?_⟩
  obtain ⟨t1, t2⟩ := tight_ok yw m1 m2 M1 M2
  refine ⟨_, w, rfl, t1.1, t1.2.1, h1, hw, fun l u i j g1 g2 g3 => hN _ ?_⟩
  obtain ⟨hb, mb⟩ := loose_ok (m := i) (n := j) t1 g1 g2 g3
  have mb := fun v hv => mb v (t2 v hv)
  generalize (⟨l, u, _, _⟩ : Rg) = b at hb mb ⊢
  clear hN N t1 t2 g1 g2 g3 m1 m2 M1 M2
  refine seq_op fun N hN => ?_
  simp
  refine ⟨p, kd, w, a, b, rfl, hp, rk34_lt p, hk, ha, hb, fun r hr => hN _ ?_⟩
  clear hN N
  have snd := fun (x y : Nat) (hx : x ∈ xs) (hy : y ∈ ys) => ref_mem hr hp h1 (xw x hx) (yw y hy) (ma x hx) (mb y hy)
  refine seq_op fun N hN => ?_
  simp
  intro adr
  refine hN _ ?_
  clear hN N
  refine seq_op fun N hN => ?_
  obtain ⟨J, hJ⟩ : ∃ J : List (Nat × Nat) → Prop, ∀ ps, J ps ↔ ∀ q ∈ ps, q.1 ∈ xs ∧ q.2 ∈ ys ∧ cmpI p w (q.1 : Int) (q.2 : Int) = true := ⟨_, fun _ => Iff.rfl⟩
  obtain ⟨I, hI⟩ : ∃ I : Nat → Dl → Prop, ∀ k δ, I k δ ↔ ∃ (ps : List (Nat × Nat)) (y12 y13 : Option R), J ps ∧ ps.length ≤ k ∧ δ = [some (.raw raw), some .drw, some (.d (.str kd)), some (.d (.int w)), some (.d wds), some (.d (.str p)), some (.d (.list (nl xs))), some (.d (.list (nl ys))), some (.d (rg a)), some (.d (rg b)), some (.d (prD r)), some (.own adr (pl ps)), y12, y13, none] := ⟨_, fun _ _ => Iff.rfl⟩
  refine dFor_w (xs := nl xs) (fun Ψ h => by simpa using h) (fun k => I (k * 100)) ((hI _ _).mpr ⟨[], none, none, (hJ _).mpr fun _ h => (nomatch h), by decide, rfl⟩) (fun k z δ hz hI1 => ?_) (fun δ hI1 => ?_)
  · obtain ⟨ps, y12, y13, hps, hpl, rfl⟩ := (hI _ _).mp hI1
    obtain ⟨x, hx, rfl⟩ := nl_at hz
    have hk1 : k < 100 := by
      have := (List.getElem?_eq_some_iff.mp hz).1
      rw [nl_len] at this
      omega
    refine dFor_w (xs := nl ys) (fun Ψ h => by simpa using h) (fun k2 δ => I (k * 100 + k2) δ ∧ δ[12]? = some (some (.d (.int x)))) ⟨(hI _ _).mpr ⟨ps, _, y13, hps, hpl, rfl⟩, rfl⟩ (fun k2 z δ hz hI2 => ?_) (fun δ hI2 => ?_)
    · obtain ⟨hI2, e12⟩ := hI2
      obtain ⟨ps, y12, y13, hps, hpl, rfl⟩ := (hI _ _).mp hI2
      obtain rfl : y12 = some (.d (.int x)) := Option.some.inj e12
      obtain ⟨y, hy, rfl⟩ := nl_at hz
      have hk2 : k2 < 100 := by
        have := (List.getElem?_eq_some_iff.mp hz).1
        rw [nl_len] at this
        omega
      refine dIfS_two (fun c => c = cmpI p w (x : Int) (y : Int)) (fun Ψ hΨ => ?_) (fun hc => ?_) (fun hc => ?_)
      · have hΨ := hΨ _ rfl
        simp
        refine ⟨p, w, x, y, rfl, hp, h1, hw, ?_⟩
        cases e : cmpI p w (x : Int) (y : Int) <;> simpa [e, b2i] using hΨ
      · simp
        have lp : (pl ps).length = ps.length := by simp [pl]
        refine ⟨by decide, by rw [lp]; exact Nat.lt_of_le_of_lt (show ps.length ≤ 10000 by omega) (by decide), ?_⟩
        rw [← pl_snoc]
        refine (hI _ _).mpr ⟨_, _, _, (hJ _).mpr fun q hq => ?_, by rw [List.length_append]; show ps.length + 1 ≤ _; omega, rfl⟩
        rcases List.mem_append.mp hq with hq | hq
        · exact (hJ _).mp hps q hq
        · obtain rfl := List.mem_singleton.mp hq
          exact ⟨hx, hy, hc.symm⟩
      · simp only [dNext]
        exact ⟨(hI _ _).mpr ⟨ps, _, _, hps, by omega, rfl⟩, rfl⟩
    · obtain ⟨hI2, e12⟩ := hI2
      obtain ⟨ps, y12, y13, hps, hpl, rfl⟩ := (hI _ _).mp hI2
      rw [nl_len] at hpl
      exact (hI _ _).mpr ⟨ps, _, _, hps, by omega, rfl⟩
  obtain ⟨ps, y12, y13, hps, hpl, rfl⟩ := (hI _ _).mp hI1
  refine hN _ ?_
  clear hN N hpl hI1 hI I
  have hps := (hJ _).mp hps
  refine seq_op fun N hN => ?_
  refine dIfS_two (fun c => c = false) (fun Ψ hΨ => ?_) (fun hc => by cases hc) (fun _ => ?_)
  · have hΨ := hΨ _ rfl
    simp
    refine ⟨p, w, a, b, rfl, hp, rk34_lt p, h1, hw, ha, hb, fun q hq => ?_⟩
    rw [hr.uniq hq]
    have s1 := prD_sh q
    have s2 := prD_self q
    simp [s1, s2]
    exact hΨ
  simp only [dNext]
  refine hN _ ?_
  clear hN N
  cases r with
  | none =>
    have : ps = [] := List.eq_nil_iff_forall_not_mem.mpr fun q hq => by
      obtain ⟨q1, q2, q3⟩ := hps q hq
      obtain ⟨u, v, e, _⟩ := snd q.1 q.2 q1 q2 q3
      cases e
    subst this
    refine seq_op fun N hN => ?_
    simp [prD, pl]
    exact ⟨by decide +kernel, by simp [PyData.eqv, PyData.eqvAll]⟩
  | some q =>
    obtain ⟨u, v⟩ := q
    obtain ⟨ku, kv⟩ := ref_kp hr
    refine seq_op fun N hN => ?_
    refine dIfS_two (fun c => c = false) (fun Ψ hΨ => ?_) (fun hc => by cases hc) (fun _ => ?_)
    · have hΨ := hΨ _ rfl
      simpa [prD] using hΨ
    simp only [dNext]
    refine hN _ ?_
    clear hN N
    refine seq_op fun N hN => ?_
    refine dIfS_two (fun c => c = false) (fun Ψ hΨ => ?_) (fun hc => by cases hc) (fun _ => ?_)
    · have hΨ := hΨ _ rfl
      simp [prD]
      exact .inr ⟨rfl, hΨ⟩
    simp only [dNext]
    refine hN _ ?_
    clear hN N
    refine seq_op fun N hN => ?_
    refine dIfS_two (fun c => c = false) (fun Ψ hΨ => ?_) (fun hc => by cases hc) (fun _ => ?_)
    · have hΨ := hΨ _ rfl
      simp [prD]
      refine ⟨u, w, rfl, ku.i, hw, ku.le, ku.dis, ?_⟩
      simp
      refine ⟨v, w, rfl, kv.i, hw, kv.le, kv.dis, ?_⟩
      simpa using hΨ
    simp only [dNext]
    refine hN _ ?_
    clear hN N
    refine seq_op fun N hN => ?_
    refine dIfS_two (fun c => c = false) (fun Ψ hΨ => ?_) (fun hc => by cases hc) (fun _ => ?_)
    · have hΨ := hΨ _ rfl
      simp [prD]
      refine ⟨w, u, a, rfl, ku, ?_⟩
      simp
      refine ⟨w, v, b, rfl, kv, ?_⟩
      simpa using hΨ
    simp only [dNext]
    refine hN _ ?_
    clear hN N
    refine seq_op fun N hN => ?_
    obtain ⟨I, hI⟩ : ∃ I : Nat → Dl → Prop, ∀ k δ, I k δ ↔ ∃ (y12 y13 : Option R), δ = [some (.raw raw), some .drw, some (.d (.str kd)), some (.d (.int w)), some (.d wds), some (.d (.str p)), some (.d (.list (nl xs))), some (.d (.list (nl ys))), some (.d (rg a)), some (.d (rg b)), some (.d (prD (some (u, v)))), some (.own adr (pl ps)), y12, y13, none] := ⟨_, fun _ _ => Iff.rfl⟩
    unfold dForO
    refine ⟨adr, pl ps, rfl, I, (hI _ _).mpr ⟨_, _, rfl⟩, fun k z δ hz hI1 => ?_, fun δ hI1 => ?_⟩
    · obtain ⟨y12, y13, rfl⟩ := (hI _ _).mp hI1
      obtain ⟨q, hq, rfl⟩ := pl_at hz
      obtain ⟨q1, q2, q3⟩ := hps q hq
      obtain ⟨u', v', e, m1, m2⟩ := snd q.1 q.2 q1 q2 q3
      obtain ⟨rfl, rfl⟩ : u = u' ∧ v = v' := by
        have := Option.some.inj e
        exact ⟨congrArg Prod.fst this, congrArg Prod.snd this⟩
      refine ⟨rfl, ?_⟩
      simp only [dgTup, dgCons, dgName, dgNil]
      refine ⟨_, rfl, rfl, _, _, rfl, _, _, rfl, rfl, ?_⟩
      refine dIfS_two (fun c => c = false) (fun Ψ hΨ => ?_) (fun hc => by cases hc) (fun _ => ?_)
      · have hΨ := hΨ _ rfl
        simp [prD]
        refine ⟨u, q.1, rfl, ?_⟩
        rw [decide_eq_true m1]
        simp
        refine ⟨v, q.2, rfl, ?_⟩
        rw [decide_eq_true m2]
        simpa using hΨ
      simp only [dNext]
      exact (hI _ _).mpr ⟨_, _, rfl⟩
    obtain ⟨y12, y13, rfl⟩ := (hI _ _).mp hI1
    refine ⟨rfl, hN _ ?_⟩
    clear hN N hI1 hI I
    refine seq_op fun N hN => ?_
    refine dIfS_two (fun c => c = false → isSg p → ¬ (a.z &&& 2 ^ (w - 1) = 0 ∨ b.z &&& 2 ^ (w - 1) = 0)) (fun Ψ hΨ => ?_) (fun _ => ?_) (fun hc => ?_)
    · have hT := hΨ true fun q => by cases q
      have hF := hΨ false
      clear hΨ hN snd hr hps
      have go : vp__law_signs_known [.d (rg a), .d (rg b), .d (.int w)] fun r => r.data = .bool false ∧ Ψ true ∨ r.data = .bool true ∧ Ψ false := by
        refine ⟨w, a, b, rfl, h1, hw, ?_⟩
        by_cases c : a.z &&& 2 ^ (w - 1) = 0 ∨ b.z &&& 2 ^ (w - 1) = 0
        · simpa [c] using hT
        · simpa [c] using hF fun _ _ => c
      rcases preds_cases hp with rfl | rfl | rfl | rfl | rfl | rfl | rfl | rfl | rfl | rfl
      · simp [pl_eq, pc_eq, nos_e]
        exact hF fun _ q => absurd q (by unfold isSg; decide)
      · simp [pl_ne, pc_ne, nos_n]
        exact hF fun _ q => absurd q (by unfold isSg; decide)
      · simp [pl_ult, pc_ult, nos_u]
        exact hF fun _ q => absurd q (by unfold isSg; decide)
      · simp [pl_ule, pc_ule, nos_u]
        exact hF fun _ q => absurd q (by unfold isSg; decide)
      · simp [pl_ugt, pc_ugt, nos_u]
        exact hF fun _ q => absurd q (by unfold isSg; decide)
      · simp [pl_uge, pc_uge, nos_u]
        exact hF fun _ q => absurd q (by unfold isSg; decide)
      · simp [pl_slt, pc_slt, yes_s]
        exact go
      · simp [pl_sle, pc_sle, yes_s]
        exact go
      · simp [pl_sgt, pc_sgt, yes_s]
        exact go
      · simp [pl_sge, pc_sge, yes_s]
        exact go
    · simp
    simp only [dNext]
    refine hN _ ?_
    simp
    refine ⟨by decide, p, w, a, b, u, v, rfl, hp, ref_meet hr hp (hc rfl), rfl⟩


end
theorem all_mk {l : PySem.W.OpenLaw} {w : World} {K : PySem.W.Frag} {h : Heap} {mg : Str → Option Value} {fa : Addr} (X : K.In h) (G : h.Ns mainGlobals mg) (hfa : mg "law" = some (.ref fa))
    {f0 : Addr} {od0 an0 : Option Addr} {sl0 : Array (Option Value)} {oc0 kV0 dc0 pm0 cd0 ct0 : Value}
    {f1 : Addr} {od1 an1 : Option Addr} {sl1 : Array (Option Value)} {oc1 kV1 dc1 pm1 cd1 ct1 : Value}
    {f2 : Addr} {od2 an2 : Option Addr} {sl2 : Array (Option Value)} {oc2 kV2 dc2 pm2 cd2 ct2 : Value}
    {f3 : Addr} {od3 an3 : Option Addr} {sl3 : Array (Option Value)} {oc3 kV3 dc3 pm3 cd3 ct3 : Value}
    {f4 : Addr} {od4 an4 : Option Addr} {sl4 : Array (Option Value)} {oc4 kV4 dc4 pm4 cd4 ct4 : Value}
    {f5 : Addr} {od5 an5 : Option Addr} {sl5 : Array (Option Value)} {oc5 kV5 dc5 pm5 cd5 ct5 : Value}
    {f6 : Addr} {od6 an6 : Option Addr} {sl6 : Array (Option Value)} {oc6 kV6 dc6 pm6 cd6 ct6 : Value}
    {f7 : Addr} {od7 an7 : Option Addr} {sl7 : Array (Option Value)} {oc7 kV7 dc7 pm7 cd7 ct7 : Value}
    {f8 : Addr} {od8 an8 : Option Addr} {sl8 : Array (Option Value)} {oc8 kV8 dc8 pm8 cd8 ct8 : Value}
    {f9 : Addr} {od9 an9 : Option Addr} {sl9 : Array (Option Value)} {oc9 kV9 dc9 pm9 cd9 ct9 : Value}
    {f10 : Addr} {od10 an10 : Option Addr} {sl10 : Array (Option Value)} {oc10 kV10 dc10 pm10 cd10 ct10 : Value}
    {f11 : Addr} {od11 an11 : Option Addr} {sl11 : Array (Option Value)} {oc11 kV11 dc11 pm11 cd11 ct11 : Value}
    {f12 : Addr} {od12 an12 : Option Addr} {sl12 : Array (Option Value)} {oc12 kV12 dc12 pm12 cd12 ct12 : Value}
    {f13 : Addr} {od13 an13 : Option Addr} {sl13 : Array (Option Value)} {oc13 kV13 dc13 pm13 cd13 ct13 : Value}
    {f14 : Addr} {od14 an14 : Option Addr} {sl14 : Array (Option Value)} {oc14 kV14 dc14 pm14 cd14 ct14 : Value}
    {f15 : Addr} {od15 an15 : Option Addr} {sl15 : Array (Option Value)} {oc15 kV15 dc15 pm15 cd15 ct15 : Value}
    {f16 : Addr} {od16 an16 : Option Addr} {sl16 : Array (Option Value)} {oc16 kV16 dc16 pm16 cd16 ct16 : Value}
    {f17 : Addr} {od17 an17 : Option Addr} {sl17 : Array (Option Value)} {oc17 kV17 dc17 pm17 cd17 ct17 : Value}
    {f18 : Addr} {od18 an18 : Option Addr} {sl18 : Array (Option Value)} {oc18 kV18 dc18 pm18 cd18 ct18 : Value}
    {f19 : Addr} {od19 an19 : Option Addr} {sl19 : Array (Option Value)} {oc19 kV19 dc19 pm19 cd19 ct19 : Value}
    {f20 : Addr} {od20 an20 : Option Addr} {sl20 : Array (Option Value)} {oc20 kV20 dc20 pm20 cd20 ct20 : Value}
    {f21 : Addr} {od21 an21 : Option Addr} {sl21 : Array (Option Value)} {oc21 kV21 dc21 pm21 cd21 ct21 : Value}
    {f22 : Addr} {od22 an22 : Option Addr} {sl22 : Array (Option Value)} {oc22 kV22 dc22 pm22 cd22 ct22 : Value}
    {f23 : Addr} {od23 an23 : Option Addr} {sl23 : Array (Option Value)} {oc23 kV23 dc23 pm23 cd23 ct23 : Value}
    {f24 : Addr} {od24 an24 : Option Addr} {sl24 : Array (Option Value)} {oc24 kV24 dc24 pm24 cd24 ct24 : Value}
    {f25 : Addr} {od25 an25 : Option Addr} {sl25 : Array (Option Value)} {oc25 kV25 dc25 pm25 cd25 ct25 : Value}
    {f26 : Addr} {od26 an26 : Option Addr} {sl26 : Array (Option Value)} {oc26 kV26 dc26 pm26 cd26 ct26 : Value}
    {f27 : Addr} {od27 an27 : Option Addr} {sl27 : Array (Option Value)} {oc27 kV27 dc27 pm27 cd27 ct27 : Value}
    {f28 : Addr} {od28 an28 : Option Addr} {sl28 : Array (Option Value)} {oc28 kV28 dc28 pm28 cd28 ct28 : Value}
    {f29 : Addr} {od29 an29 : Option Addr} {sl29 : Array (Option Value)} {oc29 kV29 dc29 pm29 cd29 ct29 : Value}
    {f30 : Addr} {od30 an30 : Option Addr} {sl30 : Array (Option Value)} {oc30 kV30 dc30 pm30 cd30 ct30 : Value}
    (a0 : PySem.W.nsIn K mainGlobals "width" = some (some (.ref f0))) (l0 : K.lookup f0 = some ⟨oc0, od0, .func (PySem.W.fnOf "width" "width" (defArgs swidth) (defBody swidth) (defScope swidth) .none kV0 dc0 pm0 an0 cd0 ct0), sl0⟩) (c0 : PySem.W.codeIn K cd0 "width" = true) (k0 : PySem.W.keepIn K (.ref f0) = true)
    (a1 : PySem.W.nsIn K mainGlobals "swapped" = some (some (.ref f1))) (l1 : K.lookup f1 = some ⟨oc1, od1, .func (PySem.W.fnOf "swapped" "swapped" (defArgs sswapped) (defBody sswapped) (defScope sswapped) .none kV1 dc1 pm1 an1 cd1 ct1), sl1⟩) (c1 : PySem.W.codeIn K cd1 "swapped" = true) (k1 : PySem.W.keepIn K (.ref f1) = true)
    (a2 : PySem.W.nsIn K mainGlobals "top_of" = some (some (.ref f2))) (l2 : K.lookup f2 = some ⟨oc2, od2, .func (PySem.W.fnOf "top_of" "top_of" (defArgs stop_of) (defBody stop_of) (defScope stop_of) .none kV2 dc2 pm2 an2 cd2 ct2), sl2⟩) (c2 : PySem.W.codeIn K cd2 "top_of" = true) (k2 : PySem.W.keepIn K (.ref f2) = true)
    (a3 : PySem.W.nsIn K mainGlobals "half_of" = some (some (.ref f3))) (l3 : K.lookup f3 = some ⟨oc3, od3, .func (PySem.W.fnOf "half_of" "half_of" (defArgs shalf_of) (defBody shalf_of) (defScope shalf_of) .none kV3 dc3 pm3 an3 cd3 ct3), sl3⟩) (c3 : PySem.W.codeIn K cd3 "half_of" = true) (k3 : PySem.W.keepIn K (.ref f3) = true)
    (a4 : PySem.W.nsIn K mainGlobals "single" = some (some (.ref f4))) (l4 : K.lookup f4 = some ⟨oc4, od4, .func (PySem.W.fnOf "single" "single" (defArgs ssingle) (defBody ssingle) (defScope ssingle) .none kV4 dc4 pm4 an4 cd4 ct4), sl4⟩) (c4 : PySem.W.codeIn K cd4 "single" = true) (k4 : PySem.W.keepIn K (.ref f4) = true)
    (a5 : PySem.W.nsIn K mainGlobals "is_single" = some (some (.ref f5))) (l5 : K.lookup f5 = some ⟨oc5, od5, .func (PySem.W.fnOf "is_single" "is_single" (defArgs sis_single) (defBody sis_single) (defScope sis_single) .none kV5 dc5 pm5 an5 cd5 ct5), sl5⟩) (c5 : PySem.W.codeIn K cd5 "is_single" = true) (k5 : PySem.W.keepIn K (.ref f5) = true)
    (a6 : PySem.W.nsIn K mainGlobals "_tightened" = some (some (.ref f6))) (l6 : K.lookup f6 = some ⟨oc6, od6, .func (PySem.W.fnOf "_tightened" "_tightened" (defArgs s_tightened) (defBody s_tightened) (defScope s_tightened) .none kV6 dc6 pm6 an6 cd6 ct6), sl6⟩) (c6 : PySem.W.codeIn K cd6 "_tightened" = true) (k6 : PySem.W.keepIn K (.ref f6) = true)
    (a7 : PySem.W.nsIn K mainGlobals "normal" = some (some (.ref f7))) (l7 : K.lookup f7 = some ⟨oc7, od7, .func (PySem.W.fnOf "normal" "normal" (defArgs snormal) (defBody snormal) (defScope snormal) .none kV7 dc7 pm7 an7 cd7 ct7), sl7⟩) (c7 : PySem.W.codeIn K cd7 "normal" = true) (k7 : PySem.W.keepIn K (.ref f7) = true)
    (a8 : PySem.W.nsIn K mainGlobals "refine" = some (some (.ref f8))) (l8 : K.lookup f8 = some ⟨oc8, od8, .func (PySem.W.fnOf "refine" "refine" (defArgs srefine) (defBody srefine) (defScope srefine) .none kV8 dc8 pm8 an8 cd8 ct8), sl8⟩) (c8 : PySem.W.codeIn K cd8 "refine" = true) (k8 : PySem.W.keepIn K (.ref f8) = true)
    (a9 : PySem.W.nsIn K mainGlobals "_ordered" = some (some (.ref f9))) (l9 : K.lookup f9 = some ⟨oc9, od9, .func (PySem.W.fnOf "_ordered" "_ordered" (defArgs s_ordered) (defBody s_ordered) (defScope s_ordered) .none kV9 dc9 pm9 an9 cd9 ct9), sl9⟩) (c9 : PySem.W.codeIn K cd9 "_ordered" = true) (k9 : PySem.W.keepIn K (.ref f9) = true)
    (a10 : PySem.W.nsIn K mainGlobals "_without" = some (some (.ref f10))) (l10 : K.lookup f10 = some ⟨oc10, od10, .func (PySem.W.fnOf "_without" "_without" (defArgs s_without) (defBody s_without) (defScope s_without) .none kV10 dc10 pm10 an10 cd10 ct10), sl10⟩) (c10 : PySem.W.codeIn K cd10 "_without" = true) (k10 : PySem.W.keepIn K (.ref f10) = true)
    (a11 : PySem.W.nsIn K mainGlobals "_law_draw" = some (some (.ref f11))) (l11 : K.lookup f11 = some ⟨oc11, od11, .func (PySem.W.fnOf "_law_draw" "_law_draw" (defArgs s_law_draw) (defBody s_law_draw) (defScope s_law_draw) .none kV11 dc11 pm11 an11 cd11 ct11), sl11⟩) (c11 : PySem.W.codeIn K cd11 "_law_draw" = true) (k11 : PySem.W.keepIn K (.ref f11) = true)
    (a12 : PySem.W.nsIn K mainGlobals "_law_take" = some (some (.ref f12))) (l12 : K.lookup f12 = some ⟨oc12, od12, .func (PySem.W.fnOf "_law_take" "_law_take" (defArgs s_law_take) (defBody s_law_take) (defScope s_law_take) .none kV12 dc12 pm12 an12 cd12 ct12), sl12⟩) (c12 : PySem.W.codeIn K cd12 "_law_take" = true) (k12 : PySem.W.keepIn K (.ref f12) = true)
    (a13 : PySem.W.nsIn K mainGlobals "_law_whole" = some (some (.ref f13))) (l13 : K.lookup f13 = some ⟨oc13, od13, .func (PySem.W.fnOf "_law_whole" "_law_whole" (defArgs s_law_whole) (defBody s_law_whole) (defScope s_law_whole) .none kV13 dc13 pm13 an13 cd13 ct13), sl13⟩) (c13 : PySem.W.codeIn K cd13 "_law_whole" = true) (k13 : PySem.W.keepIn K (.ref f13) = true)
    (a14 : PySem.W.nsIn K mainGlobals "_law_width" = some (some (.ref f14))) (l14 : K.lookup f14 = some ⟨oc14, od14, .func (PySem.W.fnOf "_law_width" "_law_width" (defArgs s_law_width) (defBody s_law_width) (defScope s_law_width) .none kV14 dc14 pm14 an14 cd14 ct14), sl14⟩) (c14 : PySem.W.codeIn K cd14 "_law_width" = true) (k14 : PySem.W.keepIn K (.ref f14) = true)
    (a15 : PySem.W.nsIn K mainGlobals "_law_number" = some (some (.ref f15))) (l15 : K.lookup f15 = some ⟨oc15, od15, .func (PySem.W.fnOf "_law_number" "_law_number" (defArgs s_law_number) (defBody s_law_number) (defScope s_law_number) .none kV15 dc15 pm15 an15 cd15 ct15), sl15⟩) (c15 : PySem.W.codeIn K cd15 "_law_number" = true) (k15 : PySem.W.keepIn K (.ref f15) = true)
    (a16 : PySem.W.nsIn K mainGlobals "_law_signed" = some (some (.ref f16))) (l16 : K.lookup f16 = some ⟨oc16, od16, .func (PySem.W.fnOf "_law_signed" "_law_signed" (defArgs s_law_signed) (defBody s_law_signed) (defScope s_law_signed) .none kV16 dc16 pm16 an16 cd16 ct16), sl16⟩) (c16 : PySem.W.codeIn K cd16 "_law_signed" = true) (k16 : PySem.W.keepIn K (.ref f16) = true)
    (a17 : PySem.W.nsIn K mainGlobals "_law_compare" = some (some (.ref f17))) (l17 : K.lookup f17 = some ⟨oc17, od17, .func (PySem.W.fnOf "_law_compare" "_law_compare" (defArgs s_law_compare) (defBody s_law_compare) (defScope s_law_compare) .none kV17 dc17 pm17 an17 cd17 ct17), sl17⟩) (c17 : PySem.W.codeIn K cd17 "_law_compare" = true) (k17 : PySem.W.keepIn K (.ref f17) = true)
    (a18 : PySem.W.nsIn K mainGlobals "_law_member" = some (some (.ref f18))) (l18 : K.lookup f18 = some ⟨oc18, od18, .func (PySem.W.fnOf "_law_member" "_law_member" (defArgs s_law_member) (defBody s_law_member) (defScope s_law_member) .none kV18 dc18 pm18 an18 cd18 ct18), sl18⟩) (c18 : PySem.W.codeIn K cd18 "_law_member" = true) (k18 : PySem.W.keepIn K (.ref f18) = true)
    (a19 : PySem.W.nsIn K mainGlobals "_law_is_range" = some (some (.ref f19))) (l19 : K.lookup f19 = some ⟨oc19, od19, .func (PySem.W.fnOf "_law_is_range" "_law_is_range" (defArgs s_law_is_range) (defBody s_law_is_range) (defScope s_law_is_range) .none kV19 dc19 pm19 an19 cd19 ct19), sl19⟩) (c19 : PySem.W.codeIn K cd19 "_law_is_range" = true) (k19 : PySem.W.keepIn K (.ref f19) = true)
    (a20 : PySem.W.nsIn K mainGlobals "_law_tight" = some (some (.ref f20))) (l20 : K.lookup f20 = some ⟨oc20, od20, .func (PySem.W.fnOf "_law_tight" "_law_tight" (defArgs s_law_tight) (defBody s_law_tight) (defScope s_law_tight) .none kV20 dc20 pm20 an20 cd20 ct20), sl20⟩) (c20 : PySem.W.codeIn K cd20 "_law_tight" = true) (k20 : PySem.W.keepIn K (.ref f20) = true)
    (a21 : PySem.W.nsIn K mainGlobals "_law_loose" = some (some (.ref f21))) (l21 : K.lookup f21 = some ⟨oc21, od21, .func (PySem.W.fnOf "_law_loose" "_law_loose" (defArgs s_law_loose) (defBody s_law_loose) (defScope s_law_loose) .none kV21 dc21 pm21 an21 cd21 ct21), sl21⟩) (c21 : PySem.W.codeIn K cd21 "_law_loose" = true) (k21 : PySem.W.keepIn K (.ref f21) = true)
    (a22 : PySem.W.nsIn K mainGlobals "_law_normal" = some (some (.ref f22))) (l22 : K.lookup f22 = some ⟨oc22, od22, .func (PySem.W.fnOf "_law_normal" "_law_normal" (defArgs s_law_normal) (defBody s_law_normal) (defScope s_law_normal) .none kV22 dc22 pm22 an22 cd22 ct22), sl22⟩) (c22 : PySem.W.codeIn K cd22 "_law_normal" = true) (k22 : PySem.W.keepIn K (.ref f22) = true)
    (a23 : PySem.W.nsIn K mainGlobals "_law_turn" = some (some (.ref f23))) (l23 : K.lookup f23 = some ⟨oc23, od23, .func (PySem.W.fnOf "_law_turn" "_law_turn" (defArgs s_law_turn) (defBody s_law_turn) (defScope s_law_turn) .none kV23 dc23 pm23 an23 cd23 ct23), sl23⟩) (c23 : PySem.W.codeIn K cd23 "_law_turn" = true) (k23 : PySem.W.keepIn K (.ref f23) = true)
    (a24 : PySem.W.nsIn K mainGlobals "_law_moved" = some (some (.ref f24))) (l24 : K.lookup f24 = some ⟨oc24, od24, .func (PySem.W.fnOf "_law_moved" "_law_moved" (defArgs s_law_moved) (defBody s_law_moved) (defScope s_law_moved) .none kV24 dc24 pm24 an24 cd24 ct24), sl24⟩) (c24 : PySem.W.codeIn K cd24 "_law_moved" = true) (k24 : PySem.W.keepIn K (.ref f24) = true)
    (a25 : PySem.W.nsIn K mainGlobals "_law_refined" = some (some (.ref f25))) (l25 : K.lookup f25 = some ⟨oc25, od25, .func (PySem.W.fnOf "_law_refined" "_law_refined" (defArgs s_law_refined) (defBody s_law_refined) (defScope s_law_refined) .none kV25 dc25 pm25 an25 cd25 ct25), sl25⟩) (c25 : PySem.W.codeIn K cd25 "_law_refined" = true) (k25 : PySem.W.keepIn K (.ref f25) = true)
    (a26 : PySem.W.nsIn K mainGlobals "_law_keeps" = some (some (.ref f26))) (l26 : K.lookup f26 = some ⟨oc26, od26, .func (PySem.W.fnOf "_law_keeps" "_law_keeps" (defArgs s_law_keeps) (defBody s_law_keeps) (defScope s_law_keeps) .none kV26 dc26 pm26 an26 cd26 ct26), sl26⟩) (c26 : PySem.W.codeIn K cd26 "_law_keeps" = true) (k26 : PySem.W.keepIn K (.ref f26) = true)
    (a27 : PySem.W.nsIn K mainGlobals "_law_near" = some (some (.ref f27))) (l27 : K.lookup f27 = some ⟨oc27, od27, .func (PySem.W.fnOf "_law_near" "_law_near" (defArgs s_law_near) (defBody s_law_near) (defScope s_law_near) .none kV27 dc27 pm27 an27 cd27 ct27), sl27⟩) (c27 : PySem.W.codeIn K cd27 "_law_near" = true) (k27 : PySem.W.keepIn K (.ref f27) = true)
    (a28 : PySem.W.nsIn K mainGlobals "_law_signs_known" = some (some (.ref f28))) (l28 : K.lookup f28 = some ⟨oc28, od28, .func (PySem.W.fnOf "_law_signs_known" "_law_signs_known" (defArgs s_law_signs_known) (defBody s_law_signs_known) (defScope s_law_signs_known) .none kV28 dc28 pm28 an28 cd28 ct28), sl28⟩) (c28 : PySem.W.codeIn K cd28 "_law_signs_known" = true) (k28 : PySem.W.keepIn K (.ref f28) = true)
    (a29 : PySem.W.nsIn K mainGlobals "_law_bounds_meet" = some (some (.ref f29))) (l29 : K.lookup f29 = some ⟨oc29, od29, .func (PySem.W.fnOf "_law_bounds_meet" "_law_bounds_meet" (defArgs s_law_bounds_meet) (defBody s_law_bounds_meet) (defScope s_law_bounds_meet) .none kV29 dc29 pm29 an29 cd29 ct29), sl29⟩) (c29 : PySem.W.codeIn K cd29 "_law_bounds_meet" = true) (k29 : PySem.W.keepIn K (.ref f29) = true)
    (a30 : PySem.W.nsIn K mainGlobals "law" = some (some (.ref f30))) (l30 : K.lookup f30 = some ⟨oc30, od30, .func (PySem.W.fnOf "law" "law" (defArgs slaw) (defBody slaw) (defScope slaw) .none kV30 dc30 pm30 an30 cd30 ct30), sl30⟩) (c30 : PySem.W.codeIn K cd30 "law" = true) (k30 : PySem.W.keepIn K (.ref f30) = true)
    (z_max : PySem.W.nsIn K mainGlobals "max" = some none)
    (z_min : PySem.W.nsIn K mainGlobals "min" = some none)
    (z_int : PySem.W.nsIn K mainGlobals "int" = some none)
    (z_abs : PySem.W.nsIn K mainGlobals "abs" = some none)
    (z_len : PySem.W.nsIn K mainGlobals "len" = some none)
    (z_isinstance : PySem.W.nsIn K mainGlobals "isinstance" = some none)
    (z_bool : PySem.W.nsIn K mainGlobals "bool" = some none)
    (z_range : PySem.W.nsIn K mainGlobals "range" = some none)
    (z_tuple : PySem.W.nsIn K mainGlobals "tuple" = some none)
    {ad__WIDTHS : Addr} {es__WIDTHS : Array DictEntry} {n__WIDTHS : Nat} (ac__WIDTHS : PySem.W.nsIn K mainGlobals "_WIDTHS" = some (some (.ref ad__WIDTHS))) (al__WIDTHS : K.lookup ad__WIDTHS = some ⟨.type "dict", none, .dict es__WIDTHS n__WIDTHS, #[]⟩) (ak__WIDTHS : PySem.W.KeysLit w.params es__WIDTHS.toList)
    {t__WIDTHS_0 : Tok} (ae__WIDTHS_0 : PySem.W.nsIn K ad__WIDTHS "i1" = some (some (.int 1 t__WIDTHS_0)))
    {t__WIDTHS_1 : Tok} (ae__WIDTHS_1 : PySem.W.nsIn K ad__WIDTHS "i8" = some (some (.int 8 t__WIDTHS_1)))
    {t__WIDTHS_2 : Tok} (ae__WIDTHS_2 : PySem.W.nsIn K ad__WIDTHS "i16" = some (some (.int 16 t__WIDTHS_2)))
    {t__WIDTHS_3 : Tok} (ae__WIDTHS_3 : PySem.W.nsIn K ad__WIDTHS "i32" = some (some (.int 32 t__WIDTHS_3)))
    {t__WIDTHS_4 : Tok} (ae__WIDTHS_4 : PySem.W.nsIn K ad__WIDTHS "i64" = some (some (.int 64 t__WIDTHS_4)))
    {ad__SWAPPED : Addr} {es__SWAPPED : Array DictEntry} {n__SWAPPED : Nat} (ac__SWAPPED : PySem.W.nsIn K mainGlobals "_SWAPPED" = some (some (.ref ad__SWAPPED))) (al__SWAPPED : K.lookup ad__SWAPPED = some ⟨.type "dict", none, .dict es__SWAPPED n__SWAPPED, #[]⟩) (ak__SWAPPED : PySem.W.KeysLit w.params es__SWAPPED.toList)
    {t__SWAPPED_0 : Tok} (ae__SWAPPED_0 : PySem.W.nsIn K ad__SWAPPED "eq" = some (some (.str "eq" t__SWAPPED_0)))
    {t__SWAPPED_1 : Tok} (ae__SWAPPED_1 : PySem.W.nsIn K ad__SWAPPED "ne" = some (some (.str "ne" t__SWAPPED_1)))
    {t__SWAPPED_2 : Tok} (ae__SWAPPED_2 : PySem.W.nsIn K ad__SWAPPED "ult" = some (some (.str "ugt" t__SWAPPED_2)))
    {t__SWAPPED_3 : Tok} (ae__SWAPPED_3 : PySem.W.nsIn K ad__SWAPPED "ugt" = some (some (.str "ult" t__SWAPPED_3)))
    {t__SWAPPED_4 : Tok} (ae__SWAPPED_4 : PySem.W.nsIn K ad__SWAPPED "ule" = some (some (.str "uge" t__SWAPPED_4)))
    {t__SWAPPED_5 : Tok} (ae__SWAPPED_5 : PySem.W.nsIn K ad__SWAPPED "uge" = some (some (.str "ule" t__SWAPPED_5)))
    {t__SWAPPED_6 : Tok} (ae__SWAPPED_6 : PySem.W.nsIn K ad__SWAPPED "slt" = some (some (.str "sgt" t__SWAPPED_6)))
    {t__SWAPPED_7 : Tok} (ae__SWAPPED_7 : PySem.W.nsIn K ad__SWAPPED "sgt" = some (some (.str "slt" t__SWAPPED_7)))
    {t__SWAPPED_8 : Tok} (ae__SWAPPED_8 : PySem.W.nsIn K ad__SWAPPED "sle" = some (some (.str "sge" t__SWAPPED_8)))
    {t__SWAPPED_9 : Tok} (ae__SWAPPED_9 : PySem.W.nsIn K ad__SWAPPED "sge" = some (some (.str "sle" t__SWAPPED_9)))
    : ∃ fd : FuncData, (∀ (s : Shared) (v : Value), BindsTo s fd ⟨[v], []⟩ [("script", v)]) ∧ ∀ base : Heap, K.In base → base.Ns mainGlobals mg → FnOk l.prog w K mg base CX0 10 fa fd ["script"] (spLaw K) := by
  have e := hfa.symm.trans (PySem.W.mg_of X G a30)
  cases e
  have F0 := fun_mk (st := swidth) l0 c0 k0
  have b0 := F0.binds (ps := ["kind"]) fun _ _ _ _ _ _ us hl => match us, hl with | [_], _ => rfl
  have F1 := fun_mk (st := sswapped) l1 c1 k1
  have b1 := F1.binds (ps := ["predicate"]) fun _ _ _ _ _ _ us hl => match us, hl with | [_], _ => rfl
  have F2 := fun_mk (st := stop_of) l2 c2 k2
  have b2 := F2.binds (ps := ["kind"]) fun _ _ _ _ _ _ us hl => match us, hl with | [_], _ => rfl
  have F3 := fun_mk (st := shalf_of) l3 c3 k3
  have b3 := F3.binds (ps := ["kind"]) fun _ _ _ _ _ _ us hl => match us, hl with | [_], _ => rfl
  have F4 := fun_mk (st := ssingle) l4 c4 k4
  have b4 := F4.binds (ps := ["kind", "value"]) fun _ _ _ _ _ _ us hl => match us, hl with | [_, _], _ => rfl
  have F5 := fun_mk (st := sis_single) l5 c5 k5
  have b5 := F5.binds (ps := ["bounds"]) fun _ _ _ _ _ _ us hl => match us, hl with | [_], _ => rfl
  have F6 := fun_mk (st := s_tightened) l6 c6 k6
  have b6 := F6.binds (ps := ["kind", "bounds"]) fun _ _ _ _ _ _ us hl => match us, hl with | [_, _], _ => rfl
  have F7 := fun_mk (st := snormal) l7 c7 k7
  have b7 := F7.binds (ps := ["kind", "bounds"]) fun _ _ _ _ _ _ us hl => match us, hl with | [_, _], _ => rfl
  have F8 := fun_mk (st := srefine) l8 c8 k8
  have b8 := F8.binds (ps := ["predicate", "kind", "a", "b"]) fun _ _ _ _ _ _ us hl => match us, hl with | [_, _, _, _], _ => rfl
  have F9 := fun_mk (st := s_ordered) l9 c9 k9
  have b9 := F9.binds (ps := ["relation", "a", "b"]) fun _ _ _ _ _ _ us hl => match us, hl with | [_, _, _], _ => rfl
  have F10 := fun_mk (st := s_without) l10 c10 k10
  have b10 := F10.binds (ps := ["a", "b"]) fun _ _ _ _ _ _ us hl => match us, hl with | [_, _], _ => rfl
  have F11 := fun_mk (st := s_law_draw) l11 c11 k11
  have b11 := F11.binds (ps := ["script"]) fun _ _ _ _ _ _ us hl => match us, hl with | [_], _ => rfl
  have F12 := fun_mk (st := s_law_take) l12 c12 k12
  have b12 := F12.binds (ps := ["draw", "many"]) fun _ _ _ _ _ _ us hl => match us, hl with | [_, _], _ => rfl
  have F13 := fun_mk (st := s_law_whole) l13 c13 k13
  have b13 := F13.binds (ps := ["value"]) fun _ _ _ _ _ _ us hl => match us, hl with | [_], _ => rfl
  have F14 := fun_mk (st := s_law_width) l14 c14 k14
  have b14 := F14.binds (ps := ["kind"]) fun _ _ _ _ _ _ us hl => match us, hl with | [_], _ => rfl
  have F15 := fun_mk (st := s_law_number) l15 c15 k15
  have b15 := F15.binds (ps := ["draw", "w"]) fun _ _ _ _ _ _ us hl => match us, hl with | [_, _], _ => rfl
  have F16 := fun_mk (st := s_law_signed) l16 c16 k16
  have b16 := F16.binds (ps := ["w", "x"]) fun _ _ _ _ _ _ us hl => match us, hl with | [_, _], _ => rfl
  have F17 := fun_mk (st := s_law_compare) l17 c17 k17
  have b17 := F17.binds (ps := ["predicate", "w", "x", "y"]) fun _ _ _ _ _ _ us hl => match us, hl with | [_, _, _, _], _ => rfl
  have F18 := fun_mk (st := s_law_member) l18 c18 k18
  have b18 := F18.binds (ps := ["bounds", "value"]) fun _ _ _ _ _ _ us hl => match us, hl with | [_, _], _ => rfl
  have F19 := fun_mk (st := s_law_is_range) l19 c19 k19
  have b19 := F19.binds (ps := ["bounds", "w"]) fun _ _ _ _ _ _ us hl => match us, hl with | [_, _], _ => rfl
  have F20 := fun_mk (st := s_law_tight) l20 c20 k20
  have b20 := F20.binds (ps := ["values", "w"]) fun _ _ _ _ _ _ us hl => match us, hl with | [_, _], _ => rfl
  have F21 := fun_mk (st := s_law_loose) l21 c21 k21
  have b21 := F21.binds (ps := ["draw", "bounds", "w"]) fun _ _ _ _ _ _ us hl => match us, hl with | [_, _, _], _ => rfl
  have F22 := fun_mk (st := s_law_normal) l22 c22 k22
  have b22 := F22.binds (ps := ["bounds", "w"]) fun _ _ _ _ _ _ us hl => match us, hl with | [_, _], _ => rfl
  have F23 := fun_mk (st := s_law_turn) l23 c23 k23
  have b23 := F23.binds (ps := ["bounds", "w"]) fun _ _ _ _ _ _ us hl => match us, hl with | [_, _], _ => rfl
  have F24 := fun_mk (st := s_law_moved) l24 c24 k24
  have b24 := F24.binds (ps := ["a", "b"]) fun _ _ _ _ _ _ us hl => match us, hl with | [_, _], _ => rfl
  have F25 := fun_mk (st := s_law_refined) l25 c25 k25
  have b25 := F25.binds (ps := ["predicate", "w", "a", "b"]) fun _ _ _ _ _ _ us hl => match us, hl with | [_, _, _, _], _ => rfl
  have F26 := fun_mk (st := s_law_keeps) l26 c26 k26
  have b26 := F26.binds (ps := ["found", "given"]) fun _ _ _ _ _ _ us hl => match us, hl with | [_, _], _ => rfl
  have F27 := fun_mk (st := s_law_near) l27 c27 k27
  have b27 := F27.binds (ps := ["draw", "first", "w"]) fun _ _ _ _ _ _ us hl => match us, hl with | [_, _, _], _ => rfl
  have F28 := fun_mk (st := s_law_signs_known) l28 c28 k28
  have b28 := F28.binds (ps := ["a", "b", "w"]) fun _ _ _ _ _ _ us hl => match us, hl with | [_, _, _], _ => rfl
  have F29 := fun_mk (st := s_law_bounds_meet) l29 c29 k29
  have b29 := F29.binds (ps := ["predicate", "w", "given", "found"]) fun _ _ _ _ _ _ us hl => match us, hl with | [_, _, _, _], _ => rfl
  have F30 := fun_mk (st := slaw) l30 c30 k30
  have b30 := F30.binds (ps := ["script"]) fun _ _ _ _ _ _ us hl => match us, hl with | [_], _ => rfl
  exact ⟨PySem.W.fnOf "law" "law" (defArgs slaw) (defBody slaw) (defScope slaw) .none kV30 dc30 pm30 an30 cd30 ct30, fun s v => .of_eq rfl, fun base _ _ => ok_law ⟨f0, _, F0, PySem.W.mg_of X G a0, b0, f1, _, F1, PySem.W.mg_of X G a1, b1, f2, _, F2, PySem.W.mg_of X G a2, b2, f3, _, F3, PySem.W.mg_of X G a3, b3, f4, _, F4, PySem.W.mg_of X G a4, b4, f5, _, F5, PySem.W.mg_of X G a5, b5, f6, _, F6, PySem.W.mg_of X G a6, b6, f7, _, F7, PySem.W.mg_of X G a7, b7, f8, _, F8, PySem.W.mg_of X G a8, b8, f9, _, F9, PySem.W.mg_of X G a9, b9, f10, _, F10, PySem.W.mg_of X G a10, b10, f11, _, F11, PySem.W.mg_of X G a11, b11, f12, _, F12, PySem.W.mg_of X G a12, b12, f13, _, F13, PySem.W.mg_of X G a13, b13, f14, _, F14, PySem.W.mg_of X G a14, b14, f15, _, F15, PySem.W.mg_of X G a15, b15, f16, _, F16, PySem.W.mg_of X G a16, b16, f17, _, F17, PySem.W.mg_of X G a17, b17, f18, _, F18, PySem.W.mg_of X G a18, b18, f19, _, F19, PySem.W.mg_of X G a19, b19, f20, _, F20, PySem.W.mg_of X G a20, b20, f21, _, F21, PySem.W.mg_of X G a21, b21, f22, _, F22, PySem.W.mg_of X G a22, b22, f23, _, F23, PySem.W.mg_of X G a23, b23, f24, _, F24, PySem.W.mg_of X G a24, b24, f25, _, F25, PySem.W.mg_of X G a25, b25, f26, _, F26, PySem.W.mg_of X G a26, b26, f27, _, F27, PySem.W.mg_of X G a27, b27, f28, _, F28, PySem.W.mg_of X G a28, b28, f29, _, F29, PySem.W.mg_of X G a29, b29, fa, _, F30, PySem.W.mg_of X G a30, b30, PySem.W.mg_none_of X G z_max, PySem.W.mg_none_of X G z_min, PySem.W.mg_none_of X G z_int, PySem.W.mg_none_of X G z_abs, PySem.W.mg_none_of X G z_len, PySem.W.mg_none_of X G z_isinstance, PySem.W.mg_none_of X G z_bool, PySem.W.mg_none_of X G z_range, PySem.W.mg_none_of X G z_tuple, ad__WIDTHS, PySem.W.mg_of X G ac__WIDTHS, (KdL.cons (kd_i al__WIDTHS ak__WIDTHS ae__WIDTHS_0) rfl (KdL.cons (kd_i al__WIDTHS ak__WIDTHS ae__WIDTHS_1) rfl (KdL.cons (kd_i al__WIDTHS ak__WIDTHS ae__WIDTHS_2) rfl (KdL.cons (kd_i al__WIDTHS ak__WIDTHS ae__WIDTHS_3) rfl (KdL.cons (kd_i al__WIDTHS ak__WIDTHS ae__WIDTHS_4) rfl KdL.nil))))), ad__SWAPPED, PySem.W.mg_of X G ac__SWAPPED, (KdL.cons (kd_s al__SWAPPED ak__SWAPPED ae__SWAPPED_0) rfl (KdL.cons (kd_s al__SWAPPED ak__SWAPPED ae__SWAPPED_1) rfl (KdL.cons (kd_s al__SWAPPED ak__SWAPPED ae__SWAPPED_2) rfl (KdL.cons (kd_s al__SWAPPED ak__SWAPPED ae__SWAPPED_3) rfl (KdL.cons (kd_s al__SWAPPED ak__SWAPPED ae__SWAPPED_4) rfl (KdL.cons (kd_s al__SWAPPED ak__SWAPPED ae__SWAPPED_5) rfl (KdL.cons (kd_s al__SWAPPED ak__SWAPPED ae__SWAPPED_6) rfl (KdL.cons (kd_s al__SWAPPED ak__SWAPPED ae__SWAPPED_7) rfl (KdL.cons (kd_s al__SWAPPED ak__SWAPPED ae__SWAPPED_8) rfl (KdL.cons (kd_s al__SWAPPED ak__SWAPPED ae__SWAPPED_9) rfl KdL.nil))))))))))⟩⟩
end Toy
open PySem PySem.W PyProof.Rows
set_option maxRecDepth 100000 in
set_option maxHeartbeats 0 in
theorem PySem.Challenge.cw_burnish_k34_refine_keeps_true_pairs_holds : PySem.Challenge.rw_burnish_k34_refine_keeps_true_pairs.Holds := by
  w_on; o_law; k_head; (case hw => w_witness2)
  k_fill
  refine L2.walk_of (l := PySem.Challenge.rw_burnish_k34_refine_keeps_true_pairs) (n := 63) (k := 10) (x := "script") (CX := fun _ => L2.CX0) (sp := fun w => VL.spLaw _) rfl (by decide) rfl ⟨rfl, by decide, by decide⟩ (fun w h Y => PySem.W.kIn_of Y) ?F (fun _ _ a ns hl _ hS => ⟨a, ns, rfl, hS, hl, fun _ => rfl⟩) (fun _ _ _ _ _ h => h)
  case F =>
    intro w mg fa h KX G hmg
    refine' Toy.all_mk KX G hmg ?a0 ?l0 ?c0 ?k0 ?a1 ?l1 ?c1 ?k1 ?a2 ?l2 ?c2 ?k2 ?a3 ?l3 ?c3 ?k3 ?a4 ?l4 ?c4 ?k4 ?a5 ?l5 ?c5 ?k5 ?a6 ?l6 ?c6 ?k6 ?a7 ?l7 ?c7 ?k7 ?a8 ?l8 ?c8 ?k8 ?a9 ?l9 ?c9 ?k9 ?a10 ?l10 ?c10 ?k10 ?a11 ?l11 ?c11 ?k11 ?a12 ?l12 ?c12 ?k12 ?a13 ?l13 ?c13 ?k13 ?a14 ?l14 ?c14 ?k14 ?a15 ?l15 ?c15 ?k15 ?a16 ?l16 ?c16 ?k16 ?a17 ?l17 ?c17 ?k17 ?a18 ?l18 ?c18 ?k18 ?a19 ?l19 ?c19 ?k19 ?a20 ?l20 ?c20 ?k20 ?a21 ?l21 ?c21 ?k21 ?a22 ?l22 ?c22 ?k22 ?a23 ?l23 ?c23 ?k23 ?a24 ?l24 ?c24 ?k24 ?a25 ?l25 ?c25 ?k25 ?a26 ?l26 ?c26 ?k26 ?a27 ?l27 ?c27 ?k27 ?a28 ?l28 ?c28 ?k28 ?a29 ?l29 ?c29 ?k29 ?a30 ?l30 ?c30 ?k30 ?z_max ?z_min ?z_int ?z_abs ?z_len ?z_isinstance ?z_bool ?z_range ?z_tuple ?ac__WIDTHS ?al__WIDTHS ?ak__WIDTHS ?ae__WIDTHS_0 ?ae__WIDTHS_1 ?ae__WIDTHS_2 ?ae__WIDTHS_3 ?ae__WIDTHS_4 ?ac__SWAPPED ?al__SWAPPED ?ak__SWAPPED ?ae__SWAPPED_0 ?ae__SWAPPED_1 ?ae__SWAPPED_2 ?ae__SWAPPED_3 ?ae__SWAPPED_4 ?ae__SWAPPED_5 ?ae__SWAPPED_6 ?ae__SWAPPED_7 ?ae__SWAPPED_8 ?ae__SWAPPED_9
    (case a0 => k_is)
    (case l0 => k_is)
    (case c0 => k_is)
    (case k0 => k_is)
    (case a1 => k_is)
    (case l1 => k_is)
    (case c1 => k_is)
    (case k1 => k_is)
    (case a2 => k_is)
    (case l2 => k_is)
    (case c2 => k_is)
    (case k2 => k_is)
    (case a3 => k_is)
    (case l3 => k_is)
    (case c3 => k_is)
    (case k3 => k_is)
    (case a4 => k_is)
    (case l4 => k_is)
    (case c4 => k_is)
    (case k4 => k_is)
    (case a5 => k_is)
    (case l5 => k_is)
    (case c5 => k_is)
    (case k5 => k_is)
    (case a6 => k_is)
    (case l6 => k_is)
    (case c6 => k_is)
    (case k6 => k_is)
    (case a7 => k_is)
    (case l7 => k_is)
    (case c7 => k_is)
    (case k7 => k_is)
    (case a8 => k_is)
    (case l8 => k_is)
    (case c8 => k_is)
    (case k8 => k_is)
    (case a9 => k_is)
    (case l9 => k_is)
    (case c9 => k_is)
    (case k9 => k_is)
    (case a10 => k_is)
    (case l10 => k_is)
    (case c10 => k_is)
    (case k10 => k_is)
    (case a11 => k_is)
    (case l11 => k_is)
    (case c11 => k_is)
    (case k11 => k_is)
    (case a12 => k_is)
    (case l12 => k_is)
    (case c12 => k_is)
    (case k12 => k_is)
    (case a13 => k_is)
    (case l13 => k_is)
    (case c13 => k_is)
    (case k13 => k_is)
    (case a14 => k_is)
    (case l14 => k_is)
    (case c14 => k_is)
    (case k14 => k_is)
    (case a15 => k_is)
    (case l15 => k_is)
    (case c15 => k_is)
    (case k15 => k_is)
    (case a16 => k_is)
    (case l16 => k_is)
    (case c16 => k_is)
    (case k16 => k_is)
    (case a17 => k_is)
    (case l17 => k_is)
    (case c17 => k_is)
    (case k17 => k_is)
    (case a18 => k_is)
    (case l18 => k_is)
    (case c18 => k_is)
    (case k18 => k_is)
    (case a19 => k_is)
    (case l19 => k_is)
    (case c19 => k_is)
    (case k19 => k_is)
    (case a20 => k_is)
    (case l20 => k_is)
    (case c20 => k_is)
    (case k20 => k_is)
    (case a21 => k_is)
    (case l21 => k_is)
    (case c21 => k_is)
    (case k21 => k_is)
    (case a22 => k_is)
    (case l22 => k_is)
    (case c22 => k_is)
    (case k22 => k_is)
    (case a23 => k_is)
    (case l23 => k_is)
    (case c23 => k_is)
    (case k23 => k_is)
    (case a24 => k_is)
    (case l24 => k_is)
    (case c24 => k_is)
    (case k24 => k_is)
    (case a25 => k_is)
    (case l25 => k_is)
    (case c25 => k_is)
    (case k25 => k_is)
    (case a26 => k_is)
    (case l26 => k_is)
    (case c26 => k_is)
    (case k26 => k_is)
    (case a27 => k_is)
    (case l27 => k_is)
    (case c27 => k_is)
    (case k27 => k_is)
    (case a28 => k_is)
    (case l28 => k_is)
    (case c28 => k_is)
    (case k28 => k_is)
    (case a29 => k_is)
    (case l29 => k_is)
    (case c29 => k_is)
    (case k29 => k_is)
    (case a30 => k_is)
    (case l30 => k_is)
    (case c30 => k_is)
    (case k30 => k_is)
    (case z_max => k_is)
    (case z_min => k_is)
    (case z_int => k_is)
    (case z_abs => k_is)
    (case z_len => k_is)
    (case z_isinstance => k_is)
    (case z_bool => k_is)
    (case z_range => k_is)
    (case z_tuple => k_is)
    (case ac__WIDTHS => k_is)
    (case al__WIDTHS => k_is)
    (case ak__WIDTHS => k_keys)
    (case ae__WIDTHS_0 => k_is)
    (case ae__WIDTHS_1 => k_is)
    (case ae__WIDTHS_2 => k_is)
    (case ae__WIDTHS_3 => k_is)
    (case ae__WIDTHS_4 => k_is)
    (case ac__SWAPPED => k_is)
    (case al__SWAPPED => k_is)
    (case ak__SWAPPED => k_keys)
    (case ae__SWAPPED_0 => k_is)
    (case ae__SWAPPED_1 => k_is)
    (case ae__SWAPPED_2 => k_is)
    (case ae__SWAPPED_3 => k_is)
    (case ae__SWAPPED_4 => k_is)
    (case ae__SWAPPED_5 => k_is)
    (case ae__SWAPPED_6 => k_is)
    (case ae__SWAPPED_7 => k_is)
    (case ae__SWAPPED_8 => k_is)
    (case ae__SWAPPED_9 => k_is)
