import PyProof.Rows.All
import Wide.All
import OpenK.AllK
import Wide.FinOn
import HandS.ForMost
import HandS.IsInst
import HandS.Wide
import HandS.More
import HandS.WideBits
import KE.GoesEnum
import HandS.TupAny
import KE.DataMinMax
import HandS.SortKw
import HandS.FStr
import HandS.Zip
import HandS.CallLocal
import PyProof.Rows.StrJoinMade
import PyProof.StrLaws
import PyProof.ReprRoads
import HandS.Rev
import HandS.Style
import HandS.Conv
import HandS.Flow
import HandS.CallLocal
import HandS.More
import HandS.NoneIn
import PySem.Challenge.RW_burnish_k30_transfer_contains_results
set_option Elab.async false
set_option linter.all false
set_option maxRecDepth 100000
set_option maxHeartbeats 4000000
/-! A layer of values over the hand layer: data are trees, the heap is hidden. -/
namespace VL
open PySem L2

/-! ### data in a heap -/
def keyD : Key → PyData
  | .inl i => .int i
  | .inr x => .str x
mutual
inductive Rp (K : PySem.W.Frag) (H : Hp) : V → PyData → Prop
  | non : Rp K H .non .none
  | bl (b : Bool) : Rp K H (.bl b) (.bool b)
  | int (i : Int) : Rp K H (.int i) (.int i)
  | str (x : Str) : Rp K H (.str x) (.str x)
  | lst {a : Addr} {xs : List V} {ds : List PyData} : H a = some (.lst xs) → RpA K H xs ds → Rp K H (.ref a) (.list ds)
  | tup {a : Addr} {xs : List V} {ds : List PyData} : SqT K H a xs → RpA K H xs ds → Rp K H (.ref a) (.tuple ds)
  | dic {a : Addr} {kvs : List (Key × V)} {es : List (PyData × PyData)} : H a = some (.dK kvs) → RpD K H kvs es → Rp K H (.ref a) (.dict es)
inductive RpA (K : PySem.W.Frag) (H : Hp) : List V → List PyData → Prop
  | nil : RpA K H [] []
  | cons {v : V} {vs : List V} {d : PyData} {ds : List PyData} : Rp K H v d → RpA K H vs ds → RpA K H (v :: vs) (d :: ds)
inductive RpD (K : PySem.W.Frag) (H : Hp) : List (Key × V) → List (PyData × PyData) → Prop
  | nil : RpD K H [] []
  | cons {k : Key} {v : V} {kvs : List (Key × V)} {d : PyData} {es : List (PyData × PyData)} : Rp K H v d → RpD K H kvs es → RpD K H ((k, v) :: kvs) ((keyD k, d) :: es)
end
section
variable {K : PySem.W.Frag} {H H' : Hp}
theorem same_t {a : Addr} {xs : List V} (e : Same H H') (h : SqT K H a xs) : SqT K H' a xs := by
  rcases h with (h | ⟨o, h⟩) | h
  · exact .inl (.inl (e _ _ h))
  · exact .inl (.inr ⟨o, e _ _ h⟩)
  · exact .inr h
mutual
theorem Rp.mono (e : Same H H') : ∀ {v : V} {d : PyData}, Rp K H v d → Rp K H' v d
  | _, _, .non => .non
  | _, _, .bl b => .bl b
  | _, _, .int i => .int i
  | _, _, .str x => .str x
  | _, _, .lst h r => .lst (e _ _ h) (RpA.mono e r)
  | _, _, .tup h r => .tup (same_t e h) (RpA.mono e r)
  | _, _, .dic h r => .dic (e _ _ h) (RpD.mono e r)
theorem RpA.mono (e : Same H H') : ∀ {vs : List V} {ds : List PyData}, RpA K H vs ds → RpA K H' vs ds
  | _, _, .nil => .nil
  | _, _, .cons h r => .cons (Rp.mono e h) (RpA.mono e r)
theorem RpD.mono (e : Same H H') : ∀ {vs : List (Key × V)} {ds : List (PyData × PyData)}, RpD K H vs ds → RpD K H' vs ds
  | _, _, .nil => .nil
  | _, _, .cons h r => .cons (Rp.mono e h) (RpD.mono e r)
end
mutual
theorem Rp.dp : ∀ {v : V} {d : PyData}, Rp K H v d → d.canLay0 = true → Dp K H v d
  | _, _, .non, _ => .non
  | _, _, .bl b, _ => .bl b
  | _, _, .int i, _ => .int i
  | _, _, .str x, _ => .str x
  | _, _, .lst h r, c => .lst (SqL.of h) (RpA.dp r (by simpa [PyData.canLay0] using c))
  | _, _, .tup h r, c => .tup h (RpA.dp r (by simpa [PyData.canLay0] using c))
  | _, _, .dic h r, c => by simp [PyData.canLay0] at c
theorem RpA.dp : ∀ {vs : List V} {ds : List PyData}, RpA K H vs ds → PyData.canLayAll0 ds = true → DpAll K H vs ds
  | _, _, .nil, _ => .nil
  | _, _, .cons h r, c => by
    simp only [PyData.canLayAll0, Bool.and_eq_true] at c
    exact .cons (Rp.dp h c.1) (RpA.dp r c.2)
end
theorem RpA.length : ∀ {vs : List V} {ds : List PyData}, RpA K H vs ds → vs.length = ds.length
  | _, _, .nil => rfl
  | _, _, .cons _ r => by rw [List.length_cons, List.length_cons, RpA.length r]
theorem RpA.get : ∀ {vs : List V} {ds : List PyData} {i : Nat} {d : PyData}, RpA K H vs ds → ds[i]? = some d → ∃ v, vs[i]? = some v ∧ Rp K H v d
  | _, _, _, _, .nil, e => by simp at e
  | _, _, 0, _, .cons h _, e => by simp at e; subst e; exact ⟨_, rfl, h⟩
  | _, _, i + 1, _, .cons _ r, e => by
    obtain ⟨v, h1, h2⟩ := RpA.get (i := i) r (by simpa using e)
    exact ⟨v, by simpa using h1, h2⟩
theorem RpA.get' : ∀ {vs : List V} {ds : List PyData} {i : Nat} {v : V}, RpA K H vs ds → vs[i]? = some v → ∃ d, ds[i]? = some d ∧ Rp K H v d
  | _, _, _, _, .nil, e => by simp at e
  | _, _, 0, _, .cons h _, e => by simp at e; subst e; exact ⟨_, rfl, h⟩
  | _, _, i + 1, _, .cons _ r, e => by
    obtain ⟨v, h1, h2⟩ := RpA.get' (i := i) r (by simpa using e)
    exact ⟨v, by simpa using h1, h2⟩
theorem RpA.append : ∀ {vs us : List V} {ds es : List PyData}, RpA K H vs ds → RpA K H us es → RpA K H (vs ++ us) (ds ++ es)
  | _, _, _, _, .nil, r => r
  | _, _, _, _, .cons h r, s => .cons h (RpA.append r s)
theorem RpA.snoc {vs : List V} {ds : List PyData} {v : V} {d : PyData} (r : RpA K H vs ds) (h : Rp K H v d) : RpA K H (vs ++ [v]) (ds ++ [d]) := r.append (.cons h .nil)
theorem RpA.set {v : V} {d : PyData} (h : Rp K H v d) : ∀ {vs : List V} {ds : List PyData} (i : Nat), RpA K H vs ds → RpA K H (vs.set i v) (ds.set i d)
  | _, _, _, .nil => .nil
  | _, _, 0, .cons _ r => .cons h r
  | _, _, i + 1, .cons g r => .cons g (RpA.set h i r)
theorem RpA.take : ∀ {vs : List V} {ds : List PyData} (n : Nat), RpA K H vs ds → RpA K H (vs.take n) (ds.take n)
  | _, _, 0, _ => .nil
  | _, _, _ + 1, .nil => .nil
  | _, _, n + 1, .cons h r => .cons h (RpA.take n r)
theorem RpA.drop : ∀ {vs : List V} {ds : List PyData} (n : Nat), RpA K H vs ds → RpA K H (vs.drop n) (ds.drop n)
  | _, _, 0, r => r
  | _, _, _ + 1, .nil => .nil
  | _, _, n + 1, .cons _ r => RpA.drop n r
theorem RpA.ints : ∀ {vs : List V} {ns : List Int}, RpA K H vs (ns.map PyData.int) → vs = ns.map V.int
  | _, [], .nil => rfl
  | _, _ :: _, .cons (.int _) r => by rw [List.map_cons, RpA.ints r]
end

/-! ### the row of numbers that a law draws from -/
def DrawAt (H0 H : Hp) (p : Addr) : Prop := ∃ (c : Addr) (i v s : Int) (cells : List Int), H p = some (.lst [.ref c, .int i, .int v, .int s]) ∧ H0 c = some (.lst (cells.map V.int)) ∧ H0 p = none ∧
  (∀ x ∈ cells, 0 ≤ x) ∧ -1 ≤ i ∧ 0 ≤ v ∧ 0 ≤ s ∧ s < 2147483647

/-! ### slots -/
inductive R where
  | d (x : PyData) | own (a : Addr) (xs : List PyData) | drw | raw (v : V) | scr (ns : List Int)
inductive RX where
  | d (x : PyData) | own (xs : List PyData)
abbrev Dl := List (Option R)
structure Ctx where
  K : PySem.W.Frag
  ex : Option Addr
  He : Hp
  Hf : Hp
structure Wf (C : Ctx) (H0 H : Hp) : Prop where
  sub : Same H0 H
  kp : ∀ b o, C.ex ≠ some b → C.He b = some o → H b = some o
  fz : Same C.Hf H0
  nw : ∀ b o, H0 b = some o → C.Hf b = some o ∨ C.He b = none
  dr : ∀ p, C.ex = some p → DrawAt H0 H p
def RR (C : Ctx) (H0 H : Hp) (v : V) : R → Prop
  | .d x => Rp C.K H0 v x
  | .own a xs => v = .ref a ∧ H0 a = none ∧ C.He a = none ∧ C.ex ≠ some a ∧ ∃ vs, H a = some (.lst vs) ∧ RpA C.K H0 vs xs
  | .drw => ∃ p, C.ex = some p ∧ v = .ref p
  | .raw u => v = u
  | .scr ns => ∃ a, v = .ref a ∧ SqL C.K H0 a (ns.map V.int)
structure St (C : Ctx) (H0 H : Hp) (σ : L2.St) (δ : Dl) : Prop extends Wf C H0 H where
  len : σ.length = δ.length
  sl : ∀ (i : Nat) (r : R), δ[i]? = some (some r) → ∃ v, σ[i]? = some (some v) ∧ RR C H0 H v r
  sep : ∀ (i j : Nat) (a b : Addr) (xs ys : List PyData), i ≠ j → δ[i]? = some (some (.own a xs)) → δ[j]? = some (some (.own b ys)) → a ≠ b
/-- an expression's way -/
structure Go (C : Ctx) (H0 H H0' H' : Hp) : Prop where
  wf : Wf C H0' H'
  fz : Same H0 H0'
  kp : ∀ b o, C.ex ≠ some b → H b = some o → H' b = some o
  nw : ∀ b o, H0' b = some o → H0 b = some o ∨ H b = none
section
variable {C : Ctx} {H0 H H0' H' H0'' H'' : Hp} {σ : L2.St} {δ : Dl} {v : V} {x : PyData}
theorem Go.refl (w : Wf C H0 H) : Go C H0 H H0 H := ⟨w, Same.refl _, fun _ _ _ e => e, fun _ _ e => .inl e⟩
theorem Go.trans (a : Go C H0 H H0' H') (b : Go C H0' H' H0'' H'') : Go C H0 H H0'' H'' := by
  refine ⟨b.wf, a.fz.trans b.fz, fun c o n e => b.kp c o n (a.kp c o n e), fun c o e => ?_⟩
  rcases b.nw c o e with h | h
  · exact a.nw c o h
  · cases q : H c with
    | none => exact .inr rfl
    | some u =>
      by_cases n : C.ex = some c
      · obtain ⟨_, _, _, _, _, _, _, z, _⟩ := b.wf.dr c n
        rw [e] at z; cases z
      · have := a.kp c u n q
        rw [h] at this; cases this
theorem RR.go {r : R} (h : RR C H0 H v r) (g : Go C H0 H H0' H') : RR C H0' H' v r := by
  cases r with
  | d x => exact Rp.mono g.fz h
  | own a xs =>
    obtain ⟨e, h1, h2, h3, vs, h4, h5⟩ := h
    refine ⟨e, ?_, h2, h3, vs, g.kp a _ h3 h4, h5.mono g.fz⟩
    cases q : H0' a with
    | none => rfl
    | some o =>
      rcases g.nw a o q with z | z
      · rw [h1] at z; cases z
      · rw [h4] at z; cases z
  | drw => exact h
  | raw u => exact h
  | scr ns => obtain ⟨a, e, q⟩ := h; exact ⟨a, e, g.fz.seq q⟩
theorem St.go (s : St C H0 H σ δ) (g : Go C H0 H H0' H') : St C H0' H' σ δ where
  toWf := g.wf
  len := s.len
  sl := fun i r e => let ⟨v, e1, h⟩ := s.sl i r e; ⟨v, e1, h.go g⟩
  sep := s.sep
theorem St.set_d (s : St C H0 H σ δ) (i : Nat) (h : Rp C.K H0 v x) : St C H0 H (σ.set i (some v)) (δ.set i (some (.d x))) where
  toWf := s.toWf
  len := by rw [List.length_set, List.length_set, s.len]
  sl := fun j r e => by
    by_cases q : i = j
    · subst q
      rw [List.getElem?_set_self'] at e
      cases hd : δ[i]? with
      | none => rw [hd] at e; simp at e
      | some z =>
        rw [hd] at e
        simp at e
        subst e
        have : i < σ.length := by rw [s.len]; exact (List.getElem?_eq_some_iff.mp hd).1
        exact ⟨v, by rw [List.getElem?_set_self this], h⟩
    · rw [List.getElem?_set_ne q] at e
      obtain ⟨u, e1, h1⟩ := s.sl j r e
      exact ⟨u, by rw [List.getElem?_set_ne q]; exact e1, h1⟩
  sep := fun j k a b xs ys n e1 e2 => by
    have f : ∀ {j : Nat} {a : Addr} {xs : List PyData}, (δ.set i (some (R.d x)))[j]? = some (some (R.own a xs)) → δ[j]? = some (some (R.own a xs)) := fun {j a xs} e => by
      by_cases q : i = j
      · subst q
        rw [List.getElem?_set_self'] at e
        cases hd : δ[i]? with
        | none => rw [hd] at e; simp at e
        | some z => rw [hd] at e; simp at e
      · rw [List.getElem?_set_ne q] at e; exact e
    exact s.sep j k a b xs ys n (f e1) (f e2)
theorem St.none (s : St C H0 H σ δ) (i : Nat) : St C H0 H (σ.set i none) (δ.set i none) where
  toWf := s.toWf
  len := by rw [List.length_set, List.length_set, s.len]
  sl := fun j r e => by
    by_cases q : i = j
    · subst q
      rw [List.getElem?_set_self'] at e
      cases hd : δ[i]? with
      | none => rw [hd] at e; simp at e
      | some z => rw [hd] at e; simp at e
    · rw [List.getElem?_set_ne q] at e
      obtain ⟨u, e1, h1⟩ := s.sl j r e
      exact ⟨u, by rw [List.getElem?_set_ne q]; exact e1, h1⟩
  sep := fun j k a b xs ys n e1 e2 => by
    have f : ∀ {j : Nat} {a : Addr} {xs : List PyData}, (δ.set i (Option.none))[j]? = some (some (R.own a xs)) → δ[j]? = some (some (R.own a xs)) := fun {j a xs} e => by
      by_cases q : i = j
      · subst q
        rw [List.getElem?_set_self'] at e
        cases hd : δ[i]? with
        | none => rw [hd] at e; simp at e
        | some z => rw [hd] at e; simp at e
      · rw [List.getElem?_set_ne q] at e; exact e
    exact s.sep j k a b xs ys n (f e1) (f e2)
/-- a new owned list is given to a slot -/
theorem St.set_own {a : Addr} {vs : List V} {xs : List PyData} (s : St C H0 H σ δ) (i : Nat) (hf : ∀ (j : Nat) (b : Addr) (ys : List PyData), δ[j]? = some (some (R.own b ys)) → b ≠ a) (h1 : H0 a = Option.none) (h2 : C.He a = Option.none) (h3 : C.ex ≠ some a) (h4 : H a = some (.lst vs)) (h5 : RpA C.K H0 vs xs) :
    St C H0 H (σ.set i (some (.ref a))) (δ.set i (some (.own a xs))) where
  toWf := s.toWf
  len := by rw [List.length_set, List.length_set, s.len]
  sl := fun j r e => by
    by_cases q : i = j
    · subst q
      rw [List.getElem?_set_self'] at e
      cases hd : δ[i]? with
      | none => rw [hd] at e; simp at e
      | some z =>
        rw [hd] at e
        simp at e
        subst e
        have : i < σ.length := by rw [s.len]; exact (List.getElem?_eq_some_iff.mp hd).1
        exact ⟨.ref a, by rw [List.getElem?_set_self this], rfl, h1, h2, h3, vs, h4, h5⟩
    · rw [List.getElem?_set_ne q] at e
      obtain ⟨u, e1, h1⟩ := s.sl j r e
      exact ⟨u, by rw [List.getElem?_set_ne q]; exact e1, h1⟩
  sep := fun j k b c ys zs n e1 e2 => by
    have f : ∀ {j : Nat} {b : Addr} {ys : List PyData}, (δ.set i (some (R.own a xs)))[j]? = some (some (R.own b ys)) → (i = j ∧ b = a) ∨ (i ≠ j ∧ δ[j]? = some (some (R.own b ys))) := fun {j b ys} e => by
      by_cases q : i = j
      · subst q
        rw [List.getElem?_set_self'] at e
        cases hd : δ[i]? with
        | none => rw [hd] at e; simp at e
        | some z => rw [hd] at e; simp at e; exact .inl ⟨rfl, e.1.symm⟩
      · rw [List.getElem?_set_ne q] at e; exact .inr ⟨q, e⟩
    rcases f e1 with ⟨q1, z1⟩ | ⟨q1, z1⟩ <;> rcases f e2 with ⟨q2, z2⟩ | ⟨q2, z2⟩
    · exact absurd (q1.symm.trans q2) n
    · rw [z1]; exact (hf k c zs z2).symm
    · rw [z2]; exact hf j b ys z1
    · exact s.sep j k b c ys zs n z1 z2
/-- the owned list in slot i is written -/
theorem St.write {a : Addr} {vs : List V} {xs ys : List PyData} (s : St C H0 H σ δ) (i : Nat) (e : δ[i]? = some (some (.own a ys))) (h5 : RpA C.K H0 vs xs) : St C H0 (upd H a (.lst vs)) σ (δ.set i (some (.own a xs))) := by
  obtain ⟨v, e1, rfl, h1, h2, h3, us, h4, h6⟩ := s.sl i _ e
  refine ⟨⟨fun b o q => ?_, fun b o n q => ?_, s.fz, s.nw, fun p q => ?_⟩, by rw [List.length_set, s.len], fun j r q => ?_, fun j k b c zs ws n q1 q2 => ?_⟩
  · rw [upd_ne (fun z => by rw [z, h1] at q; cases q)]; exact s.sub b o q
  · rw [upd_ne (fun z => by rw [z, h2] at q; cases q)]; exact s.kp b o n q
  · obtain ⟨c, i', v', s', cells, g1, g2, g3⟩ := s.dr p q
    exact ⟨c, i', v', s', cells, by rw [upd_ne (fun z => h3 (by rw [← z]; exact q))]; exact g1, g2, g3⟩
  · by_cases z : i = j
    · subst z
      rw [List.getElem?_set_self'] at q
      rw [e] at q
      simp at q
      subst q
      exact ⟨_, e1, rfl, h1, h2, h3, vs, upd_same, h5⟩
    · rw [List.getElem?_set_ne z] at q
      obtain ⟨u, f1, f2⟩ := s.sl j r q
      refine ⟨u, f1, ?_⟩
      cases r with
      | d x => exact f2
      | own b zs =>
        obtain ⟨k1, k2, k3, k4, ws, k5, k6⟩ := f2
        exact ⟨k1, k2, k3, k4, ws, by rw [upd_ne (s.sep j i b a zs ys (fun z' => z z'.symm) q e)]; exact k5, k6⟩
      | drw => exact f2
      | raw u => exact f2
      | scr ns => exact f2
  · have f : ∀ {j : Nat} {b : Addr} {zs : List PyData}, (δ.set i (some (R.own a xs)))[j]? = some (some (R.own b zs)) → ∃ zs', δ[j]? = some (some (R.own b zs')) := fun {j b zs} e' => by
      by_cases q : i = j
      · subst q
        rw [List.getElem?_set_self', e] at e'
        simp at e'
        exact ⟨ys, by rw [e, e'.1]⟩
      · rw [List.getElem?_set_ne q] at e'; exact ⟨zs, e'⟩
    obtain ⟨z1, w1⟩ := f q1
    obtain ⟨z2, w2⟩ := f q2
    exact s.sep j k b c z1 z2 n w1 w2
/-- an owned list stands still from here on -/
theorem St.freeze {a : Addr} {xs : List PyData} (s : St C H0 H σ δ) (i : Nat) (e : δ[i]? = some (some (.own a xs))) : ∃ H0', Same H0 H0' ∧ St C H0' H σ (δ.set i (some (.d (.list xs)))) := by
  obtain ⟨v, e1, rfl, h1, h2, h3, us, h4, h6⟩ := s.sl i _ e
  have gr : Same H0 (upd H0 a (.lst us)) := fun b o q => by rw [upd_ne (fun z => by rw [z, h1] at q; cases q)]; exact q
  have w' : Wf C (upd H0 a (.lst us)) H := by
    refine ⟨fun b o q => ?_, s.kp, s.fz.trans gr, fun b o q => ?_, fun p q => ?_⟩
    · by_cases z : b = a
      · subst z; rw [upd_same] at q; cases q; exact h4
      · rw [upd_ne z] at q; exact s.sub b o q
    · by_cases z : b = a
      · subst z; exact .inr h2
      · rw [upd_ne z] at q; exact s.nw b o q
    · obtain ⟨c, i', v', s', cells, g1, g2, g3, g4⟩ := s.dr p q
      exact ⟨c, i', v', s', cells, g1, gr _ _ g2, by rw [upd_ne (fun z => h3 (by rw [← z]; exact q))]; exact g3, g4⟩
  refine ⟨_, gr, w', by rw [List.length_set, s.len], fun j r q => ?_, fun j k b c zs ws n q1 q2 => ?_⟩
  · by_cases z : i = j
    · subst z
      rw [List.getElem?_set_self', e] at q
      simp at q
      subst q
      exact ⟨_, e1, .lst upd_same (h6.mono gr)⟩
    · rw [List.getElem?_set_ne z] at q
      obtain ⟨u, f1, f2⟩ := s.sl j r q
      refine ⟨u, f1, ?_⟩
      cases r with
      | d x => exact Rp.mono gr f2
      | own b zs =>
        obtain ⟨k1, k2, k3, k4, ws, k5, k6⟩ := f2
        exact ⟨k1, by rw [upd_ne (s.sep j i b a zs xs (fun z' => z z'.symm) q e)]; exact k2, k3, k4, ws, k5, k6.mono gr⟩
      | drw => exact f2
      | raw u => exact f2
      | scr ns => obtain ⟨a', e', q'⟩ := f2; exact ⟨a', e', gr.seq q'⟩
  · have f : ∀ {j : Nat} {b : Addr} {zs : List PyData}, (δ.set i (some (R.d (.list xs))))[j]? = some (some (R.own b zs)) → δ[j]? = some (some (R.own b zs)) := fun {j b zs} e' => by
      by_cases q : i = j
      · subst q
        rw [List.getElem?_set_self', e] at e'
        simp at e'
      · rw [List.getElem?_set_ne q] at e'; exact e'
    exact s.sep j k b c zs ws n (f q1) (f q2)
end

/-! ### what a reading of the hand layer asks, by data -/
abbrev DE := Dl → (PyData → Prop) → Prop
abbrev DT := Dl → (Bool → Prop) → Prop
abbrev DA := Dl → (List PyData → Prop) → Prop
abbrev DR := Dl → (List R → Prop) → Prop
abbrev DO := Dl → (List PyData → Prop) → Prop
def hid (C : Ctx) (H : Hp) : Hp := fun b => if C.ex = some b then none else H b
def loc (C : Ctx) (f : Bool) (H0 H : Hp) : Hp := match f with
  | true => H0
  | false => hid C H
section
variable {C : Ctx} {H0 H H0' H' H0'' H'' : Hp} {σ : L2.St} {δ : Dl} {v : V} {x : PyData} {f g : Bool}
theorem hid_sub (C : Ctx) (H : Hp) : Same (hid C H) H := fun b o e => by
  unfold hid at e
  split at e
  · cases e
  · exact e
theorem hid_of {a : Addr} {o : HO} (h : H a = some o) (n : C.ex ≠ some a) : hid C H a = some o := by
  unfold hid
  rw [if_neg n]
  exact h
theorem Wf.hid (w : Wf C H0 H) : Same H0 (hid C H) := fun b o e => by
  refine hid_of (w.sub b o e) fun z => ?_
  obtain ⟨_, _, _, _, _, _, _, q, _⟩ := w.dr b z
  rw [e] at q; cases q
theorem Wf.loc (w : Wf C H0 H) : Same (loc C f H0 H) H := by
  cases f with
  | true => exact w.sub
  | false => exact hid_sub C H
theorem Wf.to (w : Wf C H0 H) : Same H0 (VL.loc C f H0 H) := by
  cases f with
  | true => exact Same.refl _
  | false => exact w.hid
theorem Go.loc (q : Go C H0 H H0' H') : Same (loc C f H0 H) (loc C f H0' H') := by
  cases f with
  | true => exact q.fz
  | false =>
    intro b o e
    show VL.hid C H' b = some o
    have e : VL.hid C H b = some o := e
    unfold VL.hid at e
    split at e
    · cases e
    · rename_i n
      exact hid_of (q.kp b o n e) n
/-- a new frozen object -/
theorem Go.new {p : Addr} {o : HO} (w : Wf C H0 H) (hp : H p = none) : Go C H0 H (upd H0 p o) (upd H p o) := by
  have h0 : H0 p = none := by
    cases q : H0 p with
    | none => rfl
    | some u => rw [w.sub p u q] at hp; cases hp
  have gr : Same H0 (upd H0 p o) := fun b u q => by rw [upd_ne (fun z => by rw [z, h0] at q; cases q)]; exact q
  refine ⟨⟨fun b u q => ?_, fun b u n q => ?_, w.fz.trans gr, fun b u q => ?_, fun c q => ?_⟩, gr, fun b u n q => ?_, fun b u q => ?_⟩
  · by_cases z : b = p
    · subst z; rw [upd_same] at q ⊢; exact q
    · rw [upd_ne z] at q ⊢; exact w.sub b u q
  · have e := w.kp b u n q
    rw [upd_ne (fun z => by rw [z, hp] at e; cases e)]; exact e
  · by_cases z : b = p
    · subst z
      cases hq : C.He b with
      | none => exact .inr rfl
      | some y =>
        by_cases n : C.ex = some b
        · obtain ⟨_, _, _, _, _, g1, _⟩ := w.dr b n
          rw [hp] at g1; cases g1
        · rw [w.kp b y n hq] at hp; cases hp
    · rw [upd_ne z] at q; exact w.nw b u q
  · obtain ⟨k, i', v', s', cells, g1, g2, g3, g4⟩ := w.dr c q
    have nc : c ≠ p := fun z => by rw [z, hp] at g1; cases g1
    exact ⟨k, i', v', s', cells, by rw [upd_ne nc]; exact g1, gr _ _ g2, by rw [upd_ne nc]; exact g3, g4⟩
  · rw [upd_ne (fun z => by rw [z, hp] at q; cases q)]; exact q
  · by_cases z : b = p
    · subst z; exact .inr hp
    · rw [upd_ne z] at q; exact .inl q
/-- a new object that is not frozen -/
theorem Go.free {p : Addr} {o : HO} (w : Wf C H0 H) (hp : H p = none) : Go C H0 H H0 (upd H p o) := by
  have h0 : H0 p = none := by
    cases q : H0 p with
    | none => rfl
    | some u => rw [w.sub p u q] at hp; cases hp
  refine ⟨⟨fun b u q => ?_, fun b u n q => ?_, w.fz, w.nw, fun c q => ?_⟩, Same.refl _, fun b u n q => ?_, fun b u q => .inl q⟩
  · rw [upd_ne (fun z => by rw [z, h0] at q; cases q)]; exact w.sub b u q
  · have e := w.kp b u n q
    rw [upd_ne (fun z => by rw [z, hp] at e; cases e)]; exact e
  · obtain ⟨k, i', v', s', cells, g1, g2, g3, g4⟩ := w.dr c q
    have nc : c ≠ p := fun z => by rw [z, hp] at g1; cases g1
    exact ⟨k, i', v', s', cells, by rw [upd_ne nc]; exact g1, g2, g3, g4⟩
  · rw [upd_ne (fun z => by rw [z, hp] at q; cases q)]; exact q

def Sm (C : Ctx) (f : Bool) (te : TE) (de : DE) : Prop := ∀ (σ : L2.St) (δ : Dl) (H0 H : Hp) (Φ : PyData → Prop) (Q : VK), St C H0 H σ δ → de δ Φ →
  (∀ H0' H' v x, Go C H0 H H0' H' → Rp C.K (loc C f H0' H') v x → Φ x → Q v H') → te σ H Q
def SmT (C : Ctx) (tt : TT) (dt : DT) : Prop := ∀ (σ : L2.St) (δ : Dl) (H0 H : Hp) (Φ : Bool → Prop) (Q : Bool → Hp → Prop), St C H0 H σ δ → dt δ Φ →
  (∀ H0' H' b, Go C H0 H H0' H' → Φ b → Q b H') → tt σ H Q
def SmA (C : Ctx) (f : Bool) (ta : TA) (da : DA) : Prop := ∀ (σ : L2.St) (δ : Dl) (H0 H : Hp) (Φ : List PyData → Prop) (Q : List V → Hp → Prop), St C H0 H σ δ → da δ Φ →
  (∀ H0' H' vs xs, Go C H0 H H0' H' → RpA C.K (loc C f H0' H') vs xs → Φ xs → Q vs H') → ta σ H Q
inductive RRs (C : Ctx) (H0 H : Hp) : List V → List R → Prop
  | nil : RRs C H0 H [] []
  | cons {v : V} {r : R} {vs : List V} {rs : List R} : RR C H0 H v r → RRs C H0 H vs rs → RRs C H0 H (v :: vs) (r :: rs)
theorem RRs.go : ∀ {vs : List V} {rs : List R}, RRs C H0 H vs rs → Go C H0 H H0' H' → RRs C H0' H' vs rs
  | _, _, .nil, _ => .nil
  | _, _, .cons h r, g => .cons (h.go g) (RRs.go r g)
theorem RRs.length : ∀ {vs : List V} {rs : List R}, RRs C H0 H vs rs → vs.length = rs.length
  | _, _, .nil => rfl
  | _, _, .cons _ r => by rw [List.length_cons, List.length_cons, RRs.length r]
def SmR (C : Ctx) (ta : TA) (da : DR) : Prop := ∀ (σ : L2.St) (δ : Dl) (H0 H : Hp) (Φ : List R → Prop) (Q : List V → Hp → Prop), St C H0 H σ δ → da δ Φ →
  (∀ H0' H' vs rs, Go C H0 H H0' H' → RRs C H0' H' vs rs → Φ rs → Q vs H') → ta σ H Q
/-- a new list, not frozen yet -/
def SmO (C : Ctx) (te : TE) (de : DO) : Prop := ∀ (σ : L2.St) (δ : Dl) (H0 H : Hp) (Φ : List PyData → Prop) (Q : VK), St C H0 H σ δ → de δ Φ →
  (∀ H0' H' a vs xs, Go C H0 H H0' H' → H a = none → H0' a = none → H' a = some (.lst vs) → RpA C.K H0' vs xs → Φ xs → Q (.ref a) H') → te σ H Q
theorem Go.he {a : Addr} (w : Wf C H0 H) (hp : H a = none) : C.He a = none ∧ C.ex ≠ some a := by
  have n : C.ex ≠ some a := fun z => by
    obtain ⟨_, _, _, _, _, g1, _⟩ := w.dr a z
    rw [hp] at g1; cases g1
  refine ⟨?_, n⟩
  cases hq : C.He a with
  | none => rfl
  | some y => rw [w.kp a y n hq] at hp; cases hp
/-- .. is frozen -/
theorem Go.frz {a : Addr} {vs : List V} (w : Wf C H0 H) (q : Go C H0 H H0' H') (hp : H a = none) (h0 : H0' a = none) (h : H' a = some (.lst vs)) : Go C H0 H (upd H0' a (.lst vs)) H' := by
  have gr : Same H0' (upd H0' a (.lst vs)) := fun b u e => by rw [upd_ne (fun z => by rw [z, h0] at e; cases e)]; exact e
  obtain ⟨he, n⟩ := Go.he w hp
  refine ⟨⟨fun b u e => ?_, q.wf.kp, q.wf.fz.trans gr, fun b u e => ?_, fun c e => ?_⟩, q.fz.trans gr, q.kp, fun b u e => ?_⟩
  · by_cases z : b = a
    · subst z; rw [upd_same] at e; cases e; exact h
    · rw [upd_ne z] at e; exact q.wf.sub b u e
  · by_cases z : b = a
    · subst z; exact .inr he
    · rw [upd_ne z] at e; exact q.wf.nw b u e
  · obtain ⟨k, i', v', s', cells, g1, g2, g3, g4⟩ := q.wf.dr c e
    exact ⟨k, i', v', s', cells, g1, gr _ _ g2, by rw [upd_ne (fun z => n (by rw [← z]; exact e))]; exact g3, g4⟩
  · by_cases z : b = a
    · subst z; exact .inr hp
    · rw [upd_ne z] at e; exact q.nw b u e

/-! ### expressions -/
variable {te ta tb tc : TE} {de da db dc : DE} {tt tu : TT} {dt du : DT} {tas : TA} {das : DA} {f1 f2 : Bool}
theorem Sm.fz (h : Sm C true te de) : Sm C f te de := fun σ δ H0 H Φ Q s w q => h σ δ H0 H Φ Q s w fun H0' H' v x g r p => q H0' H' v x g (r.mono g.wf.to) p
theorem SmA.fz (h : SmA C true tas das) : SmA C f tas das := fun σ δ H0 H Φ Q s w q => h σ δ H0 H Φ Q s w fun H0' H' v x g r p => q H0' H' v x g (r.mono g.wf.to) p
@[simp] def dVar (i : Nat) : DE := fun δ Φ => ∃ x, δ[i]? = some (some (.d x)) ∧ Φ x
theorem sm_var (i : Nat) : Sm C f (tVar i) (dVar i) := fun σ δ H0 H Φ Q s ⟨x, e, p⟩ q => by
  obtain ⟨v, e1, h⟩ := s.sl i _ e
  exact ⟨v, e1, q H0 H v x (.refl s.toWf) (Rp.mono s.toWf.to h) p⟩
/-- an owned list, looked at -/
@[simp] def dVarO (i : Nat) : DE := fun δ Φ => ∃ a xs, δ[i]? = some (some (.own a xs)) ∧ Φ (.list xs)
theorem sm_varO (i : Nat) : Sm C false (tVar i) (dVarO i) := fun σ δ H0 H Φ Q s ⟨a, xs, e, p⟩ q => by
  obtain ⟨v, e1, rfl, h1, h2, h3, vs, h4, h5⟩ := s.sl i _ e
  exact ⟨_, e1, q H0 H _ _ (.refl s.toWf) (.lst (hid_of h4 h3) (h5.mono s.toWf.hid)) p⟩
@[simp] def dC (x : PyData) : DE := fun _ Φ => Φ x
theorem sm_int (i : Int) : Sm C f (tC (.int i)) (dC (.int i)) := fun σ δ H0 H Φ Q s p q => q H0 H _ _ (.refl s.toWf) (.int i) p
theorem sm_bl (i : Bool) : Sm C f (tC (.bl i)) (dC (.bool i)) := fun σ δ H0 H Φ Q s p q => q H0 H _ _ (.refl s.toWf) (.bl i) p
theorem sm_str (i : Str) : Sm C f (tC (.str i)) (dC (.str i)) := fun σ δ H0 H Φ Q s p q => q H0 H _ _ (.refl s.toWf) (.str i) p
theorem sm_non : Sm C f (tC .non) (dC .none) := fun σ δ H0 H Φ Q s p q => q H0 H _ _ (.refl s.toWf) .non p
/-- an operation on two values whose answer is scalar and that leaves the heap -/
def OpD (C : Ctx) (r : R2) (g : PyData → PyData → (PyData → Prop) → Prop) : Prop := ∀ (H : Hp) (v u : V) (x y : PyData) (Φ : PyData → Prop) (Q : VK), Rp C.K H v x → Rp C.K H u y → g x y Φ → (∀ w z, (∀ H, Rp C.K H w z) → Φ z → Q w H) → r v u H Q
@[simp] def dOp (g : PyData → PyData → (PyData → Prop) → Prop) (da db : DE) : DE := fun δ Φ => da δ fun x => db δ fun y => g x y Φ
theorem sm_op {r : R2} {g : PyData → PyData → (PyData → Prop) → Prop} (hr : OpD C r g) (ha : Sm C f1 ta da) (hb : Sm C f2 tb db) : Sm C f (tOp r ta tb) (dOp g da db) := fun σ δ H0 H Φ Q s w q =>
  ha σ δ H0 H _ _ s w fun H01 H1 v x g1 r1 w1 => hb σ δ H01 H1 _ _ (s.go g1) w1 fun H02 H2 u y g2 r2 w2 =>
    hr H2 v u x y Φ Q ((r1.mono g2.loc).mono g2.wf.loc) (r2.mono g2.wf.loc) w2 fun w' z hz p => q H02 H2 w' z (g1.trans g2) (hz _) p
def isScalV : V → Option PyData
  | .non => some .none
  | .bl b => some (.bool b)
  | .int i => some (.int i)
  | .str s => some (.str s)
  | _ => none
theorem isScal_rp {K : PySem.W.Frag} {v : V} {x : PyData} (h : isScalV v = some x) (H : Hp) : Rp K H v x := by
  cases v <;> simp [isScalV] at h <;> subst h <;> constructor
@[simp] def gI0 (g : Int → Int → PyData) : PyData → PyData → (PyData → Prop) → Prop := fun x y Φ => ∃ i j, x = .int i ∧ y = .int j ∧ Φ (g i j)
@[simp] def gI (c : Int → Int → Prop) (g : Int → Int → PyData) : PyData → PyData → (PyData → Prop) → Prop := fun x y Φ => ∃ i j, x = .int i ∧ y = .int j ∧ c i j ∧ Φ (g i j)
theorem opd_I0 {g : Int → Int → V} {g' : Int → Int → PyData} (h : ∀ i j, isScalV (g i j) = some (g' i j)) : OpD C (rI0 g) (gI0 g') := fun H v u x y Φ Q rv ru ⟨i, j, e1, e2, p⟩ q => by
  subst e1 e2
  cases rv
  cases ru
  exact ⟨i, j, rfl, rfl, q _ _ (isScal_rp (h i j)) p⟩
theorem opd_I {c : Int → Int → Prop} {g : Int → Int → V} {g' : Int → Int → PyData} (h : ∀ i j, isScalV (g i j) = some (g' i j)) : OpD C (rI c g) (gI c g') := fun H v u x y Φ Q rv ru ⟨i, j, e1, e2, e3, p⟩ q => by
  subst e1 e2
  cases rv
  cases ru
  exact ⟨i, j, rfl, rfl, e3, q _ _ (isScal_rp (h i j)) p⟩
@[simp] def toV : PyData → Option V
  | .none => some .non
  | .bool b => some (.bl b)
  | .int i => some (.int i)
  | .str s => some (.str s)
  | _ => none
theorem toV_rp {K : PySem.W.Frag} {H : Hp} {v w : V} {x : PyData} (h : Rp K H v x) (e : toV x = some w) : v = w := by
  cases h <;> simp [toV] at e <;> subst e <;> rfl
@[simp] def gEq (neg : Bool) : PyData → PyData → (PyData → Prop) → Prop := fun x y Φ => ∃ v u, toV x = some v ∧ toV y = some u ∧ scal v u = true ∧ Φ (.bool (if neg then !decide (v = u) else decide (v = u)))
theorem opd_eq : OpD C rEq (gEq false) := fun H v u x y Φ Q rv ru ⟨v', u', e1, e2, e3, p⟩ q => by
  have a := toV_rp rv e1
  have b := toV_rp ru e2
  subst a b
  exact ⟨e3, q _ _ (fun _ => .bl _) p⟩
theorem opd_ne : OpD C rNe (gEq true) := fun H v u x y Φ Q rv ru ⟨v', u', e1, e2, e3, p⟩ q => by
  have a := toV_rp rv e1
  have b := toV_rp ru e2
  subst a b
  exact ⟨e3, q _ _ (fun _ => .bl _) p⟩
@[simp] def gEqD (neg : Bool) : PyData → PyData → (PyData → Prop) → Prop := fun x y Φ => SeqAt.shaped x = true ∧ SeqAt.shaped y = true ∧ Φ (.bool (if neg then !PyData.eqv x y else PyData.eqv x y))
theorem opd_eqD : OpD C (rEqD C.K) (gEqD false) := fun H v u x y Φ Q rv ru ⟨e1, e2, p⟩ q =>
  ⟨x, y, rv.dp (SeqAt.canLay_of_shaped e1), ru.dp (SeqAt.canLay_of_shaped e2), e1, e2, q _ _ (fun _ => .bl _) p⟩
theorem opd_neD : OpD C (rNeD C.K) (gEqD true) := fun H v u x y Φ Q rv ru ⟨e1, e2, p⟩ q =>
  ⟨x, y, rv.dp (SeqAt.canLay_of_shaped e1), ru.dp (SeqAt.canLay_of_shaped e2), e1, e2, q _ _ (fun _ => .bl _) p⟩
@[simp] def isN : PyData → Bool
  | .none => true
  | _ => false
@[simp] def gIsN (neg : Bool) : PyData → PyData → (PyData → Prop) → Prop := fun x y Φ => y = .none ∧ Φ (.bool (if neg then !isN x else isN x))
theorem isN_rp {K : PySem.W.Frag} {H : Hp} {v : V} {x : PyData} (h : Rp K H v x) : decide (v = .non) = isN x := by
  cases h <;> simp [isN]
theorem opd_isN : OpD C (fun x y H Q => y = .non ∧ Q (.bl (decide (x = .non))) H) (gIsN false) := fun H v u x y Φ Q rv ru ⟨e1, p⟩ q => by
  subst e1
  cases ru
  rw [isN_rp rv]
  exact ⟨rfl, q _ _ (fun _ => .bl _) p⟩
theorem opd_notN : OpD C (fun x y H Q => y = .non ∧ Q (.bl (!decide (x = .non))) H) (gIsN true) := fun H v u x y Φ Q rv ru ⟨e1, p⟩ q => by
  subst e1
  cases ru
  rw [isN_rp rv]
  exact ⟨rfl, q _ _ (fun _ => .bl _) p⟩
@[simp] def flatD : PyData → Bool
  | .none => true
  | .bool _ => true
  | .int _ => true
  | .str _ => true
  | _ => false
theorem flat_rp {K : PySem.W.Frag} {H : Hp} {v : V} {x : PyData} (h : Rp K H v x) : flatV v = flatD x := by
  cases h <;> rfl
theorem flats_rp {K : PySem.W.Frag} {H : Hp} : ∀ {vs : List V} {xs : List PyData}, RpA K H vs xs → vs.all flatV = xs.all flatD
  | _, _, .nil => rfl
  | _, _, .cons h r => by rw [List.all_cons, List.all_cons, flat_rp h, flats_rp r]
theorem eqV_rp {K : PySem.W.Frag} {H : Hp} {v u : V} {x y : PyData} (h : Rp K H v x) (k : Rp K H u y) (fx : flatD x = true) (fy : flatD y = true) : eqV v u = PyData.eqv x y := by
  cases h <;> cases k <;> simp [flatD] at fx fy <;> simp [eqV, PyData.eqv]
def inD (x : PyData) (xs : List PyData) : Bool := xs.any fun y => PyData.eqv y x
theorem inV_rp {K : PySem.W.Frag} {H : Hp} {v : V} {x : PyData} (h : Rp K H v x) (fx : flatD x = true) : ∀ {vs : List V} {xs : List PyData}, RpA K H vs xs → xs.all flatD = true → inV v vs = inD x xs
  | _, _, .nil, _ => rfl
  | _, _, .cons k r, e => by
    rw [List.all_cons, Bool.and_eq_true] at e
    have ih := inV_rp h fx r e.2
    unfold inV inD at *
    rw [List.any_cons, List.any_cons, eqV_rp k h e.1 fx, ih]
@[simp] def seqOf : PyData → Option (List PyData)
  | .list xs => some xs
  | .tuple xs => some xs
  | _ => none
@[simp] def gIn (neg : Bool) : PyData → PyData → (PyData → Prop) → Prop := fun x y Φ => ∃ xs, seqOf y = some xs ∧ flatD x = true ∧ xs.all flatD = true ∧ Φ (.bool (if neg then !inD x xs else inD x xs))
theorem opd_in (neg : Bool) : OpD C (rIn C.K neg) (gIn neg) := fun H v u x y Φ Q rv ru ⟨xs, e1, e2, e3, p⟩ q => by
  cases ru with
  | lst h r =>
    simp [seqOf] at e1
    subst e1
    exact ⟨_, _, rfl, .inl (SqL.of h), by rw [flat_rp rv, e2], by rw [flats_rp r, e3], by rw [inV_rp rv e2 r e3]; exact q _ _ (fun _ => .bl _) p⟩
  | tup h r =>
    simp [seqOf] at e1
    subst e1
    exact ⟨_, _, rfl, .inr h, by rw [flat_rp rv, e2], by rw [flats_rp r, e3], by rw [inV_rp rv e2 r e3]; exact q _ _ (fun _ => .bl _) p⟩
  | _ => simp [seqOf] at e1
/-- a text added to a text -/
def gCatS : PyData → PyData → (PyData → Prop) → Prop := fun x y Φ => ∃ a b, x = .str a ∧ y = .str b ∧ a.length + b.length ≤ sizeLine ∧ Φ (.str (a ++ b))
/-- an item -/
theorem atI_rp {K : PySem.W.Frag} {H : Hp} {vs : List V} {xs : List PyData} {i : Int} {y : PyData} (r : RpA K H vs xs) (e : atI xs i = some y) : ∃ v, atI vs i = some v ∧ Rp K H v y := by
  unfold atI at e ⊢
  rw [r.length]
  cases h : ixN xs.length i with
  | none => rw [h] at e; simp at e
  | some j =>
    rw [h] at e
    exact r.get e
@[simp] def gIx : PyData → PyData → (PyData → Prop) → Prop := fun x y Φ => ∃ i, y = .int i ∧ match x with
  | .list xs => ∃ z, atI xs i = some z ∧ Φ z
  | .tuple xs => ∃ z, atI xs i = some z ∧ Φ z
  | .str s => s.length ≤ sizeLine ∧ ∃ c, atI s.cps.toList i = some c ∧ Φ (.str ⟨#[c]⟩)
  | _ => False
theorem sm_ix (ha : Sm C f ta da) (hb : Sm C f2 tb db) : Sm C f (tOp (rIx C.K) ta tb) (dOp gIx da db) := fun σ δ H0 H Φ Q s w q =>
  ha σ δ H0 H _ _ s w fun H01 H1 v x g1 r1 w1 => hb σ δ H01 H1 _ _ (s.go g1) w1 fun H02 H2 u y g2 r2 w2 => by
    obtain ⟨i, rfl, w2⟩ := w2
    cases r2
    have r3 := r1.mono g2.loc
    cases r3 with
    | lst h r =>
      obtain ⟨z, e, p⟩ := w2
      obtain ⟨v, e1, rv⟩ := atI_rp r e
      exact .inl ⟨_, _, i, v, rfl, rfl, SqL.of (g2.wf.loc _ _ h), e1, q H02 H2 v z (g1.trans g2) rv p⟩
    | tup h r =>
      obtain ⟨z, e, p⟩ := w2
      obtain ⟨v, e1, rv⟩ := atI_rp r e
      exact .inr (.inl ⟨_, _, i, v, rfl, rfl, same_t g2.wf.loc h, e1, q H02 H2 v z (g1.trans g2) rv p⟩)
    | str t =>
      obtain ⟨e0, c, e, p⟩ := w2
      exact .inr (.inr ⟨t, i, c, rfl, rfl, e0, e, q H02 H2 _ _ (g1.trans g2) (.str _) p⟩)
    | _ => exact w2.elim
@[simp] def dUn (g : Int → PyData) (da : DE) : DE := fun δ Φ => da δ fun x => ∃ i, x = .int i ∧ Φ (g i)
theorem sm_un {g : Int → V} {g' : Int → PyData} (h : ∀ i, isScalV (g i) = some (g' i)) (ha : Sm C f1 ta da) : Sm C f (tUn (rU g) ta) (dUn g' da) := fun σ δ H0 H Φ Q s w q =>
  ha σ δ H0 H _ _ s w fun H01 H1 v x g1 r1 ⟨i, e, p⟩ => by
    subst e
    cases r1
    exact ⟨i, rfl, q H01 H1 _ _ g1 (isScal_rp (h i) _) p⟩

/-! ### argument lists, displays, calls -/
@[simp] def dNil : DA := fun _ Φ => Φ []
@[simp] def dCons (da : DE) (ds : DA) : DA := fun δ Φ => da δ fun x => ds δ fun xs => Φ (x :: xs)
theorem sma_nil : SmA C f tNil dNil := fun σ δ H0 H Φ Q s w q => q H0 H _ _ (.refl s.toWf) .nil w
theorem sma_cons (ha : Sm C f ta da) (hb : SmA C f tas das) : SmA C f (tCons ta tas) (dCons da das) := fun σ δ H0 H Φ Q s w q =>
  ha σ δ H0 H _ _ s w fun H01 H1 v x g1 r1 w1 => hb σ δ H01 H1 _ _ (s.go g1) w1 fun H02 H2 us ys g2 r2 w2 =>
    q H02 H2 _ _ (g1.trans g2) (.cons (r1.mono g2.loc) r2) w2
@[simp] def dTup (ds : DA) : DE := fun δ Φ => ds δ fun xs => xs.length ≤ sizeLine ∧ Φ (.tuple xs)
theorem Go.same_new {p : Addr} {o : HO} (h0 : H0 p = none) : Same H0 (upd H0 p o) := fun b u q => by rw [upd_ne (fun z => by rw [z, h0] at q; cases q)]; exact q
theorem Wf.none (w : Wf C H0 H) {p : Addr} (hp : H p = Option.none) : H0 p = Option.none := by
  cases q : H0 p with
  | none => rfl
  | some u => rw [w.sub p u q] at hp; cases hp
theorem sm_tup (ha : SmA C true tas das) : Sm C f (tTup tas) (dTup das) := fun σ δ H0 H Φ Q s w q =>
  ha σ δ H0 H _ _ s w fun H01 H1 vs xs g1 r1 ⟨e, p⟩ => ⟨by rw [r1.length]; exact e, fun l hl => by
    have g2 := Go.new (o := .tup vs) g1.wf hl
    refine q _ _ _ _ (g1.trans g2) ?_ p
    exact Rp.mono g2.wf.to (.tup (SqT.of upd_same) (r1.mono (Go.same_new (g1.wf.none hl))))⟩
@[simp] def oLst (ds : DA) : DO := fun δ Φ => ds δ fun xs => xs.length ≤ sizeLine ∧ Φ xs
theorem smo_lst (ha : SmA C true tas das) : SmO C (tLst tas) (oLst das) := fun σ δ H0 H Φ Q s w q =>
  ha σ δ H0 H _ _ s w fun H01 H1 vs xs g1 r1 ⟨e, p⟩ => ⟨by rw [r1.length]; exact e, fun l hl => by
    have g2 := Go.free (o := .lst vs) g1.wf hl
    refine q _ _ l vs xs (g1.trans g2) ?_ (g1.wf.none hl) upd_same r1 p
    cases z : H l with
    | none => rfl
    | some u =>
      by_cases n : C.ex = some l
      · obtain ⟨_, _, _, _, _, k1, _⟩ := g1.wf.dr l n
        rw [hl] at k1; cases k1
      · rw [g1.kp l u n z] at hl; cases hl⟩
/-- a new list as data -/
@[simp] def dO (o : DO) : DE := fun δ Φ => o δ fun xs => Φ (.list xs)
theorem SmO.sm {o : DO} (h : SmO C te o) : Sm C f te (dO o) := fun σ δ H0 H Φ Q s w q =>
  h σ δ H0 H _ _ s w fun H01 H1 a vs xs g1 e1 e2 e3 r p => by
    have g2 := Go.frz s.toWf g1 e1 e2 e3
    refine q _ _ _ _ g2 (Rp.mono g2.wf.to ?_) p
    exact .lst upd_same (r.mono (Go.same_new e2))
/-- a new list, its elements from others -/
@[simp] def oCat (da db : DE) : DO := fun δ Φ => da δ fun x => db δ fun y => ∃ xs ys, x = .list xs ∧ y = .list ys ∧ xs.length + ys.length ≤ sizeLine ∧ Φ (xs ++ ys)
theorem Go.fresh {p : Addr} (g : Go C H0 H H0' H') (hp : H' p = none) : H p = none := by
  cases z : H p with
  | none => rfl
  | some u =>
    by_cases n : C.ex = some p
    · obtain ⟨_, _, _, _, _, k1, _⟩ := g.wf.dr p n
      rw [hp] at k1; cases k1
    · rw [g.kp p u n z] at hp; cases hp
theorem smo_cat (ha : Sm C true ta da) (hb : Sm C true tb db) : SmO C (tOp rCat ta tb) (oCat da db) := fun σ δ H0 H Φ Q s w q =>
  ha σ δ H0 H _ _ s w fun H01 H1 v x g1 r1 w1 => hb σ δ H01 H1 _ _ (s.go g1) w1 fun H02 H2 u y g2 r2 ⟨xs, ys, e1, e2, e3, p⟩ => by
    subst e1 e2
    have r3 := r1.mono g2.fz
    cases r3 with
    | @lst a1 us1 _ h r =>
      cases r2 with
      | @lst a2 us2 _ h' r' =>
        refine ⟨_, _, _, _, rfl, rfl, g2.wf.sub _ _ h, g2.wf.sub _ _ h', by rw [r.length, r'.length]; exact e3, fun l hl => ?_⟩
        have g3 := Go.free (o := .lst (us1 ++ us2)) g2.wf hl
        exact q _ _ l _ _ ((g1.trans g2).trans g3) ((g1.trans g2).fresh hl) (g2.wf.none hl) upd_same (r.append r') p
@[simp] def oList (da : DE) : DO := fun δ Φ => da δ fun x => ∃ xs, seqOf x = some xs ∧ Φ xs
theorem smo_list (ha : Sm C true ta da) : SmO C (tCB (fun xs H Q => ∃ p ys, xs = [.ref p] ∧ (SqL C.K H p ys ∨ SqT C.K H p ys) ∧ ∀ l, H l = none → Q (.ref l) (upd H l (.lst ys))) (tCons ta tNil)) (oList da) := fun σ δ H0 H Φ Q s w q =>
  ha σ δ H0 H _ _ s w fun H01 H1 v x g1 r1 ⟨xs, e, p⟩ => by
    cases r1 with
    | lst h r =>
      simp [seqOf] at e
      subst e
      exact ⟨_, _, rfl, .inl (SqL.of (g1.wf.sub _ _ h)), fun l hl => q _ _ l _ _ (g1.trans (Go.free (o := .lst _) g1.wf hl)) (g1.fresh hl) (g1.wf.none hl) upd_same r p⟩
    | tup h r =>
      simp [seqOf] at e
      subst e
      exact ⟨_, _, rfl, .inr (same_t g1.wf.sub h), fun l hl => q _ _ l _ _ (g1.trans (Go.free (o := .lst _) g1.wf hl)) (g1.fresh hl) (g1.wf.none hl) upd_same r p⟩
    | _ => simp [seqOf] at e
/-- tuple(x) -/
@[simp] def dTuple (da : DE) : DE := fun δ Φ => da δ fun x => ∃ xs, seqOf x = some xs ∧ Φ (.tuple xs)
/-- the elements of a list that is looked at, kept in the frozen part -/
theorem sm_tuple (ha : Sm C true ta da) : Sm C f (tCB (fun xs H Q => ∃ p ys, xs = [.ref p] ∧ ((SqL C.K H p ys ∧ ∀ l, H l = none → Q (.ref l) (upd H l (.tup ys))) ∨ (SqT C.K H p ys ∧ Q (.ref p) H))) (tCons ta tNil)) (dTuple da) := fun σ δ H0 H Φ Q s w q =>
  ha σ δ H0 H _ _ s w fun H01 H1 v x g1 r1 ⟨xs, e, p⟩ => by
    cases r1 with
    | @lst a1 us1 _ h r =>
      simp [seqOf] at e
      subst e
      refine ⟨_, _, rfl, .inl ⟨SqL.of (g1.wf.sub _ _ h), fun l hl => ?_⟩⟩
      have g2 := Go.new (o := .tup us1) g1.wf hl
      exact q _ _ _ _ (g1.trans g2) (Rp.mono g2.wf.to (.tup (SqT.of upd_same) (r.mono (Go.same_new (g1.wf.none hl))))) p
    | tup h r =>
      simp [seqOf] at e
      subst e
      exact ⟨_, _, rfl, .inr ⟨same_t g1.wf.sub h, q _ _ _ _ g1 (Rp.mono g1.wf.to (.tup h r)) p⟩⟩
    | _ => simp [seqOf] at e
/-- a built-in on data, its answer scalar -/
def CbD (C : Ctx) (r : List V → Hp → VK → Prop) (g : List PyData → (PyData → Prop) → Prop) : Prop := ∀ (H : Hp) (vs : List V) (xs : List PyData) (Φ : PyData → Prop) (Q : VK), RpA C.K H vs xs → g xs Φ → (∀ w z, (∀ H, Rp C.K H w z) → Φ z → Q w H) → r vs H Q
@[simp] def dCB (g : List PyData → (PyData → Prop) → Prop) (ds : DA) : DE := fun δ Φ => ds δ fun xs => g xs Φ
theorem sm_cb {r : List V → Hp → VK → Prop} {g : List PyData → (PyData → Prop) → Prop} (hr : CbD C r g) (ha : SmA C f1 tas das) : Sm C f (tCB r tas) (dCB g das) := fun σ δ H0 H Φ Q s w q =>
  ha σ δ H0 H _ _ s w fun H01 H1 vs xs g1 r1 w1 => hr H1 vs xs Φ Q (r1.mono g1.wf.loc) w1 fun w' z hz p => q _ _ w' z g1 (hz _) p
@[simp] def gLen : List PyData → (PyData → Prop) → Prop := fun xs Φ => ∃ x, xs = [x] ∧ match x with
  | .list ys => Φ (.int ys.length)
  | .tuple ys => Φ (.int ys.length)
  | .str s => s.length ≤ sizeLine ∧ Φ (.int s.length)
  | _ => False
theorem cbd_len : CbD C (fun xs H Q => ∃ x n, xs = [x] ∧ LenV C.K x H n ∧ Q (.int n) H) gLen := fun H vs xs Φ Q r ⟨x, e, p⟩ q => by
  subst e
  cases r with
  | cons h n =>
    cases n
    cases h with
    | lst h r => exact ⟨_, _, rfl, .inl ⟨_, SqL.of h, rfl⟩, by rw [r.length]; exact q _ _ (fun _ => .int _) p⟩
    | tup h r => exact ⟨_, _, rfl, .inr ⟨_, h, rfl⟩, by rw [r.length]; exact q _ _ (fun _ => .int _) p⟩
    | str t => exact ⟨_, _, rfl, ⟨p.1, rfl⟩, q _ _ (fun _ => .int _) p.2⟩
    | _ => exact p.elim
@[simp] def gAbs : List PyData → (PyData → Prop) → Prop := fun xs Φ => ∃ i, xs = [.int i] ∧ Φ (.int (if i < 0 then -i else i))
theorem cbd_abs : CbD C (fun xs H Q => ∃ i, xs = [.int i] ∧ Q (.int (if i < 0 then -i else i)) H) gAbs := fun H vs xs Φ Q r ⟨i, e, p⟩ q => by
  subst e
  cases r with
  | cons h n => cases n; cases h; exact ⟨i, rfl, q _ _ (fun _ => .int _) p⟩
@[simp] def gMax : List PyData → (PyData → Prop) → Prop := fun xs Φ => ∃ i j, xs = [.int i, .int j] ∧ Φ (.int (if j > i then j else i))
theorem cbd_max : CbD C (fun xs H Q => ∃ i j, xs = [.int i, .int j] ∧ Q (.int (if j > i then j else i)) H) gMax := fun H vs xs Φ Q r ⟨i, j, e, p⟩ q => by
  subst e
  cases r with
  | cons h n => cases h; cases n with | cons h n => cases n; cases h; exact ⟨i, j, rfl, q _ _ (fun _ => .int _) p⟩
@[simp] def gMin : List PyData → (PyData → Prop) → Prop := fun xs Φ => ∃ i j, xs = [.int i, .int j] ∧ Φ (.int (if j < i then j else i))
theorem cbd_min : CbD C (fun xs H Q => ∃ i j, xs = [.int i, .int j] ∧ Q (.int (if j < i then j else i)) H) gMin := fun H vs xs Φ Q r ⟨i, j, e, p⟩ q => by
  subst e
  cases r with
  | cons h n => cases h; cases n with | cons h n => cases n; cases h; exact ⟨i, j, rfl, q _ _ (fun _ => .int _) p⟩
@[simp] def gInt : List PyData → (PyData → Prop) → Prop := fun xs Φ => ∃ x, xs = [x] ∧ match x with
  | .int i => Φ (.int i)
  | .bool k => Φ (.int (if k then 1 else 0))
  | _ => False
theorem cbd_int : CbD C (fun xs H Q => (∃ i, xs = [.int i] ∧ Q (.int i) H) ∨ ∃ k, xs = [.bl k] ∧ Q (.int (if k then 1 else 0)) H) gInt := fun H vs xs Φ Q r ⟨x, e, p⟩ q => by
  subst e
  cases r with
  | cons h n =>
    cases n
    cases h with
    | int i => exact .inl ⟨i, rfl, q _ _ (fun _ => .int _) p⟩
    | bl k => exact .inr ⟨k, rfl, q _ _ (fun _ => .int _) p⟩
    | _ => exact p.elim
@[simp] def gStr : List PyData → (PyData → Prop) → Prop := fun xs Φ => ∃ i, xs = [.int i] ∧ i.natAbs.log2 < 1920 ∧ Φ (.str (toString i))
theorem cbd_str : CbD C (fun xs H Q => ∃ i, xs = [.int i] ∧ i.natAbs.log2 < 1920 ∧ Q (.str (toString i)) H) gStr := fun H vs xs Φ Q r ⟨i, e, e2, p⟩ q => by
  subst e
  cases r with
  | cons h n => cases n; cases h; exact ⟨i, rfl, e2, q _ _ (fun _ => .str _) p⟩
/-- isinstance of data -/
def tyD : PyData → String
  | .none => "NoneType"
  | .bool _ => "bool"
  | .int _ => "int"
  | .str _ => "str"
  | .list _ => "list"
  | .tuple _ => "tuple"
  | .dict _ => "dict"
@[simp] def dIsi (n : String) (da : DE) : DE := fun δ Φ => da δ fun x => ∃ b, kitB (tyD x) n = some b ∧ Φ (.bool b)
theorem tyD_rp {K : PySem.W.Frag} {v : V} {x : PyData} (h : Rp K H v x) : TyX K H v (.type (tyD x)) := by
  cases h with
  | non => exact .base .non
  | bl b => exact .base (.bl b)
  | int b => exact .base (.int b)
  | str b => exact .base (.str b)
  | lst h _ => exact .base (.lst h)
  | dic h _ => exact .base (.dK h)
  | tup h _ =>
    rcases h with (h | ⟨o, h⟩) | ⟨o, its, n, h, c, _⟩
    · exact .base (.tup h)
    · exact .fTuple h
    · exact .kTuple h c
theorem sm_isi (n : String) (ha : Sm C f1 ta da) : Sm C f (tCB (rIsi C.K) (tCons ta (tCons (tC (.ty n)) tNil))) (dIsi n da) := fun σ δ H0 H Φ Q s w q =>
  ha σ δ H0 H _ _ s w fun H01 H1 v x g1 r1 ⟨b, e, p⟩ =>
    ⟨v, .ty n, _, _, b, rfl, .ty n, tyD_rp (r1.mono g1.wf.loc), kit_ty e, q _ _ _ _ g1 (.bl b) p⟩

/-! ### values by tests -/
@[simp] def dIf (dt : DT) (da db : DE) : DE := fun δ Φ => dt δ fun b => if b = true then da δ Φ else db δ Φ
theorem sm_if (ht : SmT C tt dt) (ha : Sm C f ta da) (hb : Sm C f tb db) : Sm C f (tIf tt ta tb) (dIf dt da db) := fun σ δ H0 H Φ Q s w q =>
  ht σ δ H0 H _ _ s w fun H01 H1 b g1 w1 => by
    cases b with
    | true => exact iteT (ha σ δ H01 H1 Φ Q (s.go g1) (by simpa using w1) fun H02 H2 v x g2 r p => q _ _ _ _ (g1.trans g2) r p)
    | false => exact iteF (hb σ δ H01 H1 Φ Q (s.go g1) (by simpa using w1) fun H02 H2 v x g2 r p => q _ _ _ _ (g1.trans g2) r p)
@[simp] def dAndV (da db : DE) : DE := fun δ Φ => da δ fun x => ∃ c, x = .bool c ∧ if c = true then db δ Φ else Φ (.bool false)
theorem sm_and (ha : Sm C f1 ta da) (hb : Sm C f tb db) : Sm C f (tAndV ta tb) (dAndV da db) := fun σ δ H0 H Φ Q s w q =>
  ha σ δ H0 H _ _ s w fun H01 H1 v x g1 r1 ⟨c, e, w1⟩ => by
    subst e
    cases r1
    refine ⟨c, rfl, ?_⟩
    cases c with
    | true => exact iteT (hb σ δ H01 H1 Φ Q (s.go g1) (by simpa using w1) fun H02 H2 v x g2 r p => q _ _ _ _ (g1.trans g2) r p)
    | false => exact iteF (q _ _ _ _ g1 (.bl false) (by simpa using w1))
@[simp] def dOrV (da db : DE) : DE := fun δ Φ => da δ fun x => ∃ c, x = .bool c ∧ if c = true then Φ (.bool true) else db δ Φ
theorem sm_or (ha : Sm C f1 ta da) (hb : Sm C f tb db) : Sm C f (tOrV ta tb) (dOrV da db) := fun σ δ H0 H Φ Q s w q =>
  ha σ δ H0 H _ _ s w fun H01 H1 v x g1 r1 ⟨c, e, w1⟩ => by
    subst e
    cases r1
    refine ⟨c, rfl, ?_⟩
    cases c with
    | false => exact iteF (hb σ δ H01 H1 Φ Q (s.go g1) (by simpa using w1) fun H02 H2 v x g2 r p => q _ _ _ _ (g1.trans g2) r p)
    | true => exact iteT (q _ _ _ _ g1 (.bl true) (by simpa using w1))
@[simp] def dNotV (da : DE) : DE := fun δ Φ => da δ fun x => ∃ c, x = .bool c ∧ Φ (.bool (!c))
theorem sm_not (ha : Sm C f1 ta da) : Sm C f (tNotV ta) (dNotV da) := fun σ δ H0 H Φ Q s w q =>
  ha σ δ H0 H _ _ s w fun H01 H1 v x g1 r1 ⟨c, e, w1⟩ => by
    subst e
    cases r1
    exact ⟨c, rfl, q _ _ _ _ g1 (.bl _) w1⟩

/-! ### tests -/
@[simp] def dB (da : DE) : DT := fun δ Φ => da δ fun x => ∃ c, x = .bool c ∧ Φ c
theorem smt_b (ha : Sm C f1 ta da) : SmT C (tB ta) (dB da) := fun σ δ H0 H Φ Q s w q =>
  ha σ δ H0 H _ _ s w fun H01 H1 v x g1 r1 ⟨c, e, w1⟩ => by
    subst e
    cases r1
    exact ⟨c, rfl, q _ _ _ g1 w1⟩
theorem smt_t (ha : Sm C f1 ta da) : SmT C (tTest ta) (dB da) := fun σ δ H0 H Φ Q s w q =>
  ha σ δ H0 H _ _ s w fun H01 H1 v x g1 r1 ⟨c, e, w1⟩ => by
    subst e
    cases r1
    exact ⟨c, rfl, q _ _ _ g1 w1⟩
@[simp] def dAnd (dt du : DT) : DT := fun δ Φ => dt δ fun c => if c = true then du δ Φ else Φ false
theorem smt_and (ht : SmT C tt dt) (hu : SmT C tu du) : SmT C (tAnd tt tu) (dAnd dt du) := fun σ δ H0 H Φ Q s w q =>
  ht σ δ H0 H _ _ s w fun H01 H1 b g1 w1 => by
    cases b with
    | true => exact iteT (hu σ δ H01 H1 Φ Q (s.go g1) (by simpa using w1) fun H02 H2 c g2 p => q _ _ _ (g1.trans g2) p)
    | false => exact iteF (q _ _ _ g1 (by simpa using w1))
@[simp] def dOr (dt du : DT) : DT := fun δ Φ => dt δ fun c => if c = true then Φ true else du δ Φ
theorem smt_or (ht : SmT C tt dt) (hu : SmT C tu du) : SmT C (tOr tt tu) (dOr dt du) := fun σ δ H0 H Φ Q s w q =>
  ht σ δ H0 H _ _ s w fun H01 H1 b g1 w1 => by
    cases b with
    | false => exact iteF (hu σ δ H01 H1 Φ Q (s.go g1) (by simpa using w1) fun H02 H2 c g2 p => q _ _ _ (g1.trans g2) p)
    | true => exact iteT (q _ _ _ g1 (by simpa using w1))
@[simp] def dNot (dt : DT) : DT := fun δ Φ => dt δ fun c => Φ (!c)
theorem smt_not (ht : SmT C tt dt) : SmT C (tNot tt) (dNot dt) := fun σ δ H0 H Φ Q s w q =>
  ht σ δ H0 H _ _ s w fun H01 H1 b g1 w1 => q _ _ _ g1 w1
end
end VL

namespace VL
open PySem L2
section
variable {C : Ctx} {H0 H H0' H' H0'' H'' : Hp} {σ : L2.St} {δ : Dl} {v : V} {x : PyData} {f : Bool}
variable {te ta tb tc : TE} {de da db dc : DE} {tt tu : TT} {dt du : DT} {tas : TA} {das : DA} {f1 f2 : Bool}
/-! ### calls -/
def RRa (K : PySem.W.Frag) (ex : Option Addr) (H0 : Hp) (v : V) : R → Prop
  | .d x => Rp K H0 v x
  | .own _ _ => False
  | .drw => ∃ p, ex = some p ∧ v = .ref p
  | .raw u => v = u
  | .scr ns => ∃ a, v = .ref a ∧ SqL K H0 a (ns.map V.int)
theorem RRa.mono {K : PySem.W.Frag} {ex : Option Addr} {r : R} (h : RRa K ex H0 v r) (e : Same H0 H0') : RRa K ex H0' v r := by
  cases r with
  | d x => exact Rp.mono e h
  | own a xs => exact h
  | drw => exact h
  | raw u => exact h
  | scr ns => obtain ⟨a, e', q⟩ := h; exact ⟨a, e', e.seq q⟩
inductive RRas (K : PySem.W.Frag) (ex : Option Addr) (H0 : Hp) : List V → List R → Prop
  | nil : RRas K ex H0 [] []
  | cons {v : V} {r : R} {vs : List V} {rs : List R} : RRa K ex H0 v r → RRas K ex H0 vs rs → RRas K ex H0 (v :: vs) (r :: rs)
theorem RRas.length {K : PySem.W.Frag} {ex : Option Addr} : ∀ {vs : List V} {rs : List R}, RRas K ex H0 vs rs → vs.length = rs.length
  | _, _, .nil => rfl
  | _, _, .cons _ r => by rw [List.length_cons, List.length_cons, RRas.length r]
theorem RRas.get {K : PySem.W.Frag} {ex : Option Addr} : ∀ {vs : List V} {rs : List R} {i : Nat} {r : R}, RRas K ex H0 vs rs → rs[i]? = some r → ∃ v, vs[i]? = some v ∧ RRa K ex H0 v r
  | _, _, _, _, .nil, e => by simp at e
  | _, _, 0, _, .cons h _, e => by simp at e; subst e; exact ⟨_, rfl, h⟩
  | _, _, i + 1, _, .cons _ r, e => by
    obtain ⟨v, h1, h2⟩ := RRas.get (i := i) r (by simpa using e)
    exact ⟨v, by simpa using h1, h2⟩
def SmQ (C : Ctx) (ta : TA) (da : DR) : Prop := ∀ (σ : L2.St) (δ : Dl) (H0 H : Hp) (Φ : List R → Prop) (Q : List V → Hp → Prop), St C H0 H σ δ → da δ Φ →
  (∀ H0' H' vs rs, Go C H0 H H0' H' → RRas C.K C.ex H0' vs rs → Φ rs → Q vs H') → ta σ H Q
@[simp] def qNil : DR := fun _ Φ => Φ []
@[simp] def qCons (da : DE) (ds : DR) : DR := fun δ Φ => da δ fun x => ds δ fun xs => Φ (.d x :: xs)
@[simp] def qDrw (i : Nat) (ds : DR) : DR := fun δ Φ => δ[i]? = some (some .drw) ∧ ds δ fun xs => Φ (.drw :: xs)
variable {dqs : DR}
theorem smq_nil : SmQ C tNil qNil := fun σ δ H0 H Φ Q s w q => q H0 H _ _ (.refl s.toWf) .nil w
theorem smq_cons (ha : Sm C true ta da) (hb : SmQ C tas dqs) : SmQ C (tCons ta tas) (qCons da dqs) := fun σ δ H0 H Φ Q s w q =>
  ha σ δ H0 H _ _ s w fun H01 H1 v x g1 r1 w1 => hb σ δ H01 H1 _ _ (s.go g1) w1 fun H02 H2 us ys g2 r2 w2 =>
    q H02 H2 _ _ (g1.trans g2) (RRas.cons (r := R.d x) (Rp.mono g2.fz r1) r2) w2
theorem smq_drw (i : Nat) (hb : SmQ C tas dqs) : SmQ C (tCons (tVar i) tas) (qDrw i dqs) := fun σ δ H0 H Φ Q s ⟨e, w⟩ q => by
  obtain ⟨v, e1, p, h1, h2⟩ := s.sl i _ e
  exact ⟨v, e1, hb σ δ H0 H _ _ s w fun H02 H2 us ys g2 r2 w2 => q H02 H2 _ _ g2 (RRas.cons (r := R.drw) ⟨p, h1, h2⟩ r2) w2⟩

@[simp] def qScr (i : Nat) (ds : DR) : DR := fun δ Φ => ∃ ns, δ[i]? = some (some (.scr ns)) ∧ ds δ fun xs => Φ (.scr ns :: xs)
theorem smq_scr (i : Nat) (hb : SmQ C tas dqs) : SmQ C (tCons (tVar i) tas) (qScr i dqs) := fun σ δ H0 H Φ Q s ⟨ns, e, w⟩ q => by
  obtain ⟨v, e1, a, h1, h2⟩ := s.sl i _ e
  exact ⟨v, e1, hb σ δ H0 H _ _ s w fun H02 H2 us ys g2 r2 w2 => q H02 H2 _ _ g2 (RRas.cons (r := R.scr ns) ⟨a, h1, g2.fz.seq h2⟩ r2) w2⟩

/-- what a def answers, by data -/
abbrev VSp := List R → (RX → Prop) → Prop
def RXR (C : Ctx) (H0 H : Hp) (v : V) : RX → Prop
  | .d x => Rp C.K H0 v x
  | .own xs => ∃ a vs, v = .ref a ∧ H0 a = none ∧ C.He a = none ∧ C.ex ≠ some a ∧ H a = some (.lst vs) ∧ RpA C.K H0 vs xs
def RX.data : RX → PyData
  | .d x => x
  | .own xs => .list xs
@[simp] theorem data_d (x : PyData) : (RX.d x).data = x := rfl
@[simp] theorem data_own (xs : List PyData) : (RX.own xs).data = .list xs := rfl
def toSp (K : PySem.W.Frag) (n : Nat) (p : VSp) : Sp := fun vs H Q _ => vs.length = n ∧ ∃ (ex : Option Addr) (H0 : Hp) (rs : List R) (Φ : RX → Prop), Wf ⟨K, ex, H, H0⟩ H0 H ∧ RRas K ex H0 vs rs ∧ p rs Φ ∧
  ∀ H0' H' v r, Wf ⟨K, ex, H, H0⟩ H0' H' → RXR ⟨K, ex, H, H0⟩ H0' H' v r → Φ r → Q v H'
theorem Wf.inner (w : Wf C H0 H) : Wf ⟨C.K, C.ex, H, H0⟩ H0 H := ⟨w.sub, fun _ _ _ e => e, Same.refl _, fun _ _ e => .inl e, w.dr⟩
theorem Go.outer (w : Wf C H0 H) (g : Wf ⟨C.K, C.ex, H, H0⟩ H0' H') : Go C H0 H H0' H' := by
  refine ⟨⟨g.sub, fun b o n e => g.kp b o n (w.kp b o n e), w.fz.trans g.fz, fun b o e => ?_, g.dr⟩, g.fz, g.kp, fun b o e => ?_⟩
  · rcases g.nw b o e with z | z
    · exact w.nw b o z
    · cases q : C.He b with
      | none => exact .inr rfl
      | some y =>
        by_cases n : C.ex = some b
        · obtain ⟨_, _, _, _, _, _, _, k, _⟩ := g.dr b n
          rw [e] at k; cases k
        · have := w.kp b y n q
          have z : H b = none := z
          rw [this] at z; cases z
  · exact g.nw b o e
@[simp] def dCall (p : VSp) (ds : DR) : DE := fun δ Φ => ds δ fun rs => p rs fun r => Φ r.data
theorem sm_call {n : Nat} {p : VSp} {E : XK} (hp : ∀ rs Φ, p rs Φ → rs.length = n) (ha : SmQ C tas dqs) : Sm C f (tCall (toSp C.K n p) [] E tas) (dCall p dqs) := fun σ δ H0 H Φ Q s w q =>
  ha σ δ H0 H _ _ s w fun H01 H1 vs rs g1 r1 w1 => by
    show toSp C.K n p (vs ++ []) H1 Q E
    rw [List.append_nil]
    refine ⟨by rw [r1.length]; exact hp _ _ w1, C.ex, H01, rs, _, g1.wf.inner, r1, w1, fun H02 H2 v r g2 h2 p2 => ?_⟩
    have g3 := Go.outer g1.wf g2
    cases r with
    | d x => exact q _ _ _ _ (g1.trans g3) (Rp.mono g3.wf.to h2) p2
    | own xs =>
      obtain ⟨a, us, rfl, k1, k2, k3, k4, k5⟩ := h2
      have g4 := Go.frz s.toWf (g1.trans g3) (g1.fresh k2) k1 k4
      exact q _ _ _ _ g4 (Rp.mono g4.wf.to (.lst upd_same (k5.mono (Go.same_new k1)))) p2
@[simp] def oCall (p : VSp) (ds : DR) : DO := fun δ Φ => ds δ fun rs => p rs fun r => ∃ xs, r = .own xs ∧ Φ xs
theorem smo_call {n : Nat} {p : VSp} {E : XK} (hp : ∀ rs Φ, p rs Φ → rs.length = n) (ha : SmQ C tas dqs) : SmO C (tCall (toSp C.K n p) [] E tas) (oCall p dqs) := fun σ δ H0 H Φ Q s w q =>
  ha σ δ H0 H _ _ s w fun H01 H1 vs rs g1 r1 w1 => by
    show toSp C.K n p (vs ++ []) H1 Q E
    rw [List.append_nil]
    refine ⟨by rw [r1.length]; exact hp _ _ w1, C.ex, H01, rs, _, g1.wf.inner, r1, w1, fun H02 H2 v r g2 h2 p2 => ?_⟩
    have g3 := Go.outer g1.wf g2
    obtain ⟨xs, rfl, p2⟩ := p2
    obtain ⟨a, us, rfl, k1, k2, k3, k4, k5⟩ := h2
    exact q _ _ _ _ _ (g1.trans g3) (g1.fresh k2) k1 k4 k5 p2

/-! ### what is walked -/
structure Wk (C : Ctx) (J : It) (H0 : Hp) (xs : List PyData) : Prop where
  stop : ∀ (H0' H' : Hp) (i : Nat), Same H0 H0' → Wf C H0' H' → xs.length = i → J.stop i H'
  go : ∀ (H0' H' : Hp) (i : Nat), Same H0 H0' → Wf C H0' H' → i < xs.length → J.go i H'
  yld : ∀ (H0' H' : Hp) (i : Nat) (v : V) (H'' : Hp), Same H0 H0' → Wf C H0' H' → i < xs.length → J.yld i H' v H'' → ∃ H0'' y, Go C H0' H' H0'' H'' ∧ xs[i]? = some y ∧ Rp C.K H0'' v y
abbrev DI := Dl → (List PyData → Prop) → Prop
def SmI (C : Ctx) (ti : TI) (di : DI) : Prop := ∀ (σ : L2.St) (δ : Dl) (H0 H : Hp) (Φ : List PyData → Prop) (R : It → Hp → Prop), St C H0 H σ δ → di δ Φ →
  (∀ H0' H' J xs, Go C H0 H H0' H' → Wk C J H0' xs → Φ xs → R J H') → ti σ H R
theorem SqL.len_inj {K : PySem.W.Frag} {H : Hp} {a : Addr} {xs ys : List V} (h : H a = some (.lst xs)) (k : H a = some (.lst ys)) : xs = ys := by
  rw [h] at k; cases k; rfl
@[simp] def iL (da : DE) : DI := fun δ Φ => da δ fun x => ∃ xs, x = .list xs ∧ Φ xs
theorem get_lt {α : Type} {xs : List α} {i : Nat} (h : i < xs.length) : ∃ y, xs[i]? = some y := ⟨xs[i], List.getElem?_eq_getElem h⟩
theorem wk_list {a : Addr} {us : List V} {xs : List PyData} (h : H0 a = some (.lst us)) (r : RpA C.K H0 us xs) : Wk C (Itl C.K a) H0 xs := by
  refine ⟨fun H0' H' i e w hi0 => have hi := Nat.le_of_eq hi0; ⟨us, SqL.of (w.sub _ _ (e _ _ h)), by rw [r.length]; exact hi⟩, fun H0' H' i e w hi => ?_, fun H0' H' i v H'' e w hi y => ?_⟩
  · obtain ⟨y, hy⟩ := get_lt hi
    obtain ⟨v, h1, h2⟩ := r.get hy
    exact ⟨us, v, SqL.of (w.sub _ _ (e _ _ h)), h1⟩
  · obtain ⟨rfl, y⟩ := y
    obtain ⟨z, hz⟩ := get_lt hi
    obtain ⟨u, h1, h2⟩ := r.get hz
    have := y us (SqL.of (w.sub _ _ (e _ _ h)))
    rw [h1] at this
    cases this
    exact ⟨H0', z, .refl w, hz, h2.mono e⟩
theorem smi_list (ha : Sm C true ta da) : SmI C (iList C.K ta) (iL da) := fun σ δ H0 H Φ R s w q =>
  ha σ δ H0 H _ _ s w fun H01 H1 v x g1 r1 ⟨xs, e, p⟩ => by
    subst e
    cases r1 with
    | @lst a us _ h r => exact ⟨a, rfl, ⟨us, SqL.of (g1.wf.sub _ _ h)⟩, q _ _ _ _ g1 (wk_list h r) p⟩
/-- the script is walked -/
@[simp] def iScr (i : Nat) : DI := fun δ Φ => ∃ ns : List Int, δ[i]? = some (some (.scr ns)) ∧ Φ (ns.map .int)
theorem smi_scr (i : Nat) : SmI C (iList C.K (tVar i)) (iScr i) := fun σ δ H0 H Φ R s ⟨ns, e, w⟩ q => by
  obtain ⟨v, e1, a, rfl, hq⟩ := s.sl i _ e
  refine ⟨_, e1, a, rfl, ⟨_, s.toWf.sub.seq hq⟩, q H0 H _ _ (.refl s.toWf) ⟨fun H0' H' k e w hk => ?_, fun H0' H' k e w hk => ?_, fun H0' H' k v H'' e w hk y => ?_⟩ w⟩
  · exact ⟨_, w.sub.seq (e.seq hq), by simpa using Nat.le_of_eq hk⟩
  · rw [List.length_map] at hk
    exact ⟨_, .int ns[k], w.sub.seq (e.seq hq), by rw [List.getElem?_map, List.getElem?_eq_getElem hk]; rfl⟩
  · rw [List.length_map] at hk
    obtain ⟨rfl, y⟩ := y
    have := y _ (w.sub.seq (e.seq hq))
    rw [List.getElem?_map, List.getElem?_eq_getElem hk] at this
    cases this
    exact ⟨H0', .int ns[k], .refl w, by rw [List.getElem?_map, List.getElem?_eq_getElem hk]; rfl, .int _⟩
@[simp] def iT (da : DE) : DI := fun δ Φ => da δ fun x => ∃ xs, x = .tuple xs ∧ Φ xs
theorem wk_tup {a : Addr} {us : List V} {xs : List PyData} (h : SqT C.K H0 a us) (r : RpA C.K H0 us xs) : Wk C (Itt C.K a) H0 xs := by
  refine ⟨fun H0' H' i e w hi0 => have hi := Nat.le_of_eq hi0; ⟨us, same_t w.sub (same_t e h), by rw [r.length]; exact hi⟩, fun H0' H' i e w hi => ?_, fun H0' H' i v H'' e w hi y => ?_⟩
  · obtain ⟨y, hy⟩ := get_lt hi
    obtain ⟨v, h1, h2⟩ := r.get hy
    exact ⟨us, v, same_t w.sub (same_t e h), h1⟩
  · obtain ⟨rfl, y⟩ := y
    obtain ⟨z, hz⟩ := get_lt hi
    obtain ⟨u, h1, h2⟩ := r.get hz
    have := y us (same_t w.sub (same_t e h))
    rw [h1] at this
    cases this
    exact ⟨H0', z, .refl w, hz, h2.mono e⟩
theorem smi_tup (ha : Sm C true ta da) : SmI C (iTup C.K ta) (iT da) := fun σ δ H0 H Φ R s w q =>
  ha σ δ H0 H _ _ s w fun H01 H1 v x g1 r1 ⟨xs, e, p⟩ => by
    subst e
    cases r1 with
    | @tup a us _ h r => exact ⟨a, rfl, ⟨us, same_t g1.wf.sub h⟩, q _ _ _ _ g1 (wk_tup h r) p⟩
def rng (lo : Int) (n : Nat) : List PyData := (List.range n).map fun (k : Nat) => PyData.int (lo + (k : Int))
theorem rng_len (lo : Int) (n : Nat) : (rng lo n).length = n := by simp [rng]
theorem rng_get {lo : Int} {n i : Nat} {y : PyData} (h : (rng lo n)[i]? = some y) : i < n ∧ y = .int (lo + (i : Int)) := by
  unfold rng at h
  rw [List.getElem?_map] at h
  cases q : (List.range n)[i]? with
  | none => rw [q] at h; simp at h
  | some k =>
    rw [q] at h
    obtain ⟨a, b⟩ := List.getElem?_eq_some_iff.mp q
    simp at a b h
    subst b
    exact ⟨a, h.symm⟩
theorem rng_at {lo : Int} {n i : Nat} (h : i < n) : (rng lo n)[i]? = some (.int (lo + (i : Int))) := by
  unfold rng
  rw [List.getElem?_map, List.getElem?_range h]
  rfl
theorem wk_rng (lo : Int) (n : Nat) : Wk C (Itr lo n) H0 (rng lo n) := by
  refine ⟨fun H0' H' i e w hi0 => have hi := Nat.le_of_eq hi0; by rw [rng_len] at hi; exact hi, fun H0' H' i e w hi => by rw [rng_len] at hi; exact hi, fun H0' H' i v H'' e w hi y => ?_⟩
  rw [rng_len] at hi
  obtain ⟨rfl, rfl⟩ := y
  exact ⟨H0', _, .refl w, rng_at hi, .int _⟩
@[simp] def iR1 (da : DE) : DI := fun δ Φ => da δ fun x => ∃ j, x = .int j ∧ -(2 ^ 62) ≤ j ∧ j < 2 ^ 62 ∧ Φ (rng 0 j.toNat)
theorem smi_rng1 (ha : Sm C f1 ta da) : SmI C (iRng1 (tCons ta tNil)) (iR1 da) := fun σ δ H0 H Φ R s w q =>
  ha σ δ H0 H _ _ s w fun H01 H1 v x g1 r1 ⟨j, e, h1, h2, p⟩ => by
    subst e
    cases r1
    exact ⟨j, rfl, h1, h2, q _ _ _ _ g1 (wk_rng _ _) p⟩
@[simp] def iR2 (da db : DE) : DI := fun δ Φ => da δ fun x => db δ fun y => ∃ i j, x = .int i ∧ y = .int j ∧ (-(2 ^ 62) ≤ i ∧ i < 2 ^ 62 ∧ -(2 ^ 62) ≤ j ∧ j < 2 ^ 62) ∧ Φ (rng i (j - i).toNat)
theorem smi_rng2 (ha : Sm C f1 ta da) (hb : Sm C f2 tb db) : SmI C (iRng2 (tCons ta (tCons tb tNil))) (iR2 da db) := fun σ δ H0 H Φ R s w q =>
  ha σ δ H0 H _ _ s w fun H01 H1 v x g1 r1 w1 => hb σ δ H01 H1 _ _ (s.go g1) w1 fun H02 H2 u y g2 r2 ⟨i, j, e1, e2, h, p⟩ => by
    subst e1 e2
    cases r1
    cases r2
    exact ⟨i, j, rfl, h, q _ _ _ _ (g1.trans g2) (wk_rng _ _) p⟩
@[simp] def iRv (da : DE) : DI := fun δ Φ => da δ fun x => ∃ xs, x = .list xs ∧ Φ xs.reverse
theorem smi_rev (ha : Sm C true ta da) : SmI C (iRev C.K (tCons ta tNil)) (iRv da) := fun σ δ H0 H Φ R s w q =>
  ha σ δ H0 H _ _ s w fun H01 H1 v x g1 r1 ⟨xs, e, p⟩ => by
    subst e
    cases r1 with
    | @lst a us _ h r =>
      refine ⟨a, us, rfl, SqL.of (g1.wf.sub _ _ h), q _ _ _ _ g1 ⟨fun H0' H' i e w hi0 => have hi := Nat.le_of_eq hi0; ?_, fun H0' H' i e w hi => ?_, fun H0' H' i v H'' e w hi y => ?_⟩ p⟩
      · rw [List.length_reverse] at hi
        show us.length ≤ i
        rw [r.length]; exact hi
      · rw [List.length_reverse] at hi
        obtain ⟨y, hy⟩ := get_lt (show us.length - 1 - i < us.length by rw [r.length]; omega)
        exact ⟨by rw [r.length]; exact hi, us, y, SqL.of (w.sub _ _ (e _ _ h)), hy⟩
      · rw [List.length_reverse] at hi
        obtain ⟨rfl, y⟩ := y
        have y := y us (SqL.of (w.sub _ _ (e _ _ h)))
        obtain ⟨z, hz, rz⟩ := r.get' y
        refine ⟨H0', z, .refl w, ?_, rz.mono e⟩
        rw [List.getElem?_reverse hi, ← r.length]
        exact hz
/-- pairs (number, item) -/
def enumD (xs : List PyData) : List PyData := (List.range xs.length).zipWith (fun (i : Nat) (x : PyData) => PyData.tuple [.int (i : Int), x]) xs
theorem enumD_len (xs : List PyData) : (enumD xs).length = xs.length := by simp [enumD]
theorem enumD_get {xs : List PyData} {i : Nat} {x : PyData} (h : xs[i]? = some x) : (enumD xs)[i]? = some (.tuple [.int (i : Int), x]) := by
  have hi := (List.getElem?_eq_some_iff.mp h).1
  unfold enumD
  rw [List.getElem?_zipWith, List.getElem?_range hi, h]
@[simp] def iEn (da : DE) : DI := fun δ Φ => da δ fun x => ∃ xs, x = .list xs ∧ Φ (enumD xs)
theorem tup_new {p : Addr} {us : List V} {ys : List PyData} (w : Wf C H0 H) (hp : H p = none) (r : RpA C.K H0 us ys) : ∃ H0', Go C H0 H H0' (upd H p (.tup us)) ∧ Rp C.K H0' (.ref p) (.tuple ys) :=
  ⟨_, Go.new w hp, .tup (SqT.of upd_same) (r.mono (Go.same_new (w.none hp)))⟩
theorem smi_enum (ha : Sm C true ta da) : SmI C (iEnum C.K (tCons ta tNil)) (iEn da) := fun σ δ H0 H Φ R s w q =>
  ha σ δ H0 H _ _ s w fun H01 H1 v x g1 r1 ⟨xs, e, p⟩ => by
    subst e
    cases r1 with
    | @lst a us _ h r =>
      refine ⟨a, us, rfl, SqL.of (g1.wf.sub _ _ h), q _ _ _ _ g1 ⟨fun H0' H' i e w hi0 => have hi := Nat.le_of_eq hi0; ?_, fun H0' H' i e w hi => ?_, fun H0' H' i v H'' e w hi y => ?_⟩ p⟩
      · rw [enumD_len] at hi
        exact ⟨us, SqL.of (w.sub _ _ (e _ _ h)), by rw [r.length]; exact hi⟩
      · rw [enumD_len] at hi
        obtain ⟨y, hy⟩ := get_lt hi
        obtain ⟨v, h1, h2⟩ := r.get hy
        exact ⟨us, v, SqL.of (w.sub _ _ (e _ _ h)), h1⟩
      · rw [enumD_len] at hi
        obtain ⟨T, z, rfl, hT, rfl, y⟩ := y
        have y := y us (SqL.of (w.sub _ _ (e _ _ h)))
        obtain ⟨d, hd, rd⟩ := r.get' y
        obtain ⟨H0'', g, r2⟩ := tup_new w hT (.cons (.int (i : Int)) (.cons (rd.mono e) .nil))
        exact ⟨H0'', _, g, enumD_get hd, r2⟩
def zipD (xs ys : List PyData) : List PyData := xs.zipWith (fun x y => .tuple [x, y]) ys
@[simp] def iZp (da db : DE) : DI := fun δ Φ => da δ fun x => db δ fun y => ∃ xs ys, x = .list xs ∧ y = .list ys ∧ Φ (zipD xs ys)
theorem smi_zip (ha : Sm C true ta da) (hb : Sm C true tb db) : SmI C (iZip C.K (tCons ta (tCons tb tNil))) (iZp da db) := fun σ δ H0 H Φ R s w q =>
  ha σ δ H0 H _ _ s w fun H01 H1 v x g1 r1 w1 => hb σ δ H01 H1 _ _ (s.go g1) w1 fun H02 H2 u y g2 r2 ⟨xs, ys, e1, e2, p⟩ => by
    subst e1 e2
    have r3 := r1.mono g2.fz
    cases r3 with
    | @lst a us _ h r =>
      cases r2 with
      | @lst b ws _ h' r' =>
        refine ⟨a, b, us, ws, rfl, SqL.of (g2.wf.sub _ _ h), SqL.of (g2.wf.sub _ _ h'), q _ _ _ _ (g1.trans g2) ⟨fun H0' H' i e w hi0 => have hi := Nat.le_of_eq hi0; ?_, fun H0' H' i e w hi => ?_, fun H0' H' i v H'' e w hi y => ?_⟩ p⟩
        · unfold zipD at hi
          rw [List.length_zipWith] at hi
          refine ⟨us, ws, SqL.of (w.sub _ _ (e _ _ h)), SqL.of (w.sub _ _ (e _ _ h')), ?_⟩
          rw [r.length, r'.length]
          omega
        · unfold zipD at hi
          rw [List.length_zipWith] at hi
          obtain ⟨y1, hy1⟩ := get_lt (show i < xs.length by omega)
          obtain ⟨v1, h1, _⟩ := r.get hy1
          obtain ⟨y2, hy2⟩ := get_lt (show i < ys.length by omega)
          obtain ⟨v2, h2, _⟩ := r'.get hy2
          exact ⟨us, ws, v1, v2, SqL.of (w.sub _ _ (e _ _ h)), SqL.of (w.sub _ _ (e _ _ h')), h1, h2⟩
        · obtain ⟨T, x1, x2, rfl, hT, rfl, y1, y2⟩ := y
          have y1 := y1 us (SqL.of (w.sub _ _ (e _ _ h)))
          have y2 := y2 ws (SqL.of (w.sub _ _ (e _ _ h')))
          obtain ⟨d1, hd1, rd1⟩ := r.get' y1
          obtain ⟨d2, hd2, rd2⟩ := r'.get' y2
          obtain ⟨H0'', g, r2⟩ := tup_new w hT (.cons (rd1.mono e) (.cons (Rp.mono e rd2) .nil))
          refine ⟨H0'', _, g, ?_, r2⟩
          unfold zipD
          rw [List.getElem?_zipWith, hd1, hd2]
/-- the signs of a text -/
def signsD (s : Str) : List PyData := s.cps.toList.map fun c => .str ⟨#[c]⟩
@[simp] def iS (da : DE) : DI := fun δ Φ => da δ fun x => ∃ s, x = .str s ∧ Φ (signsD s)
theorem smi_str (ha : Sm C f1 ta da) : SmI C (iStr ta) (iS da) := fun σ δ H0 H Φ R s w q =>
  ha σ δ H0 H _ _ s w fun H01 H1 v x g1 r1 ⟨z, e, p⟩ => by
    subst e
    cases r1
    refine ⟨z, rfl, q _ _ _ _ g1 ⟨fun H0' H' i e w hi0 => have hi := Nat.le_of_eq hi0; ?_, fun H0' H' i e w hi => ?_, fun H0' H' i v H'' e w hi y => ?_⟩ p⟩
    · show z.cps.size ≤ i
      simpa [signsD] using hi
    · show i < z.cps.size
      simpa [signsD] using hi
    · obtain ⟨rfl, c, hc, rfl⟩ := y
      refine ⟨H0', _, .refl w, ?_, .str _⟩
      unfold signsD
      rw [List.getElem?_map, Array.getElem?_toList, hc]
      rfl
end

/-! ### statements -/
structure DEnds where
  nx : Dl → Prop
  rt : RX → Prop
  bk : Dl → Prop := fun _ => False
  ct : Dl → Prop := fun _ => False
abbrev DS := DEnds → Dl → Prop
structure EndS (C : Ctx) (H0 : Hp) (E : DEnds) (D : Ends) : Prop where
  nx : ∀ (H0' H' : Hp) (σ : L2.St) (δ : Dl), Same H0 H0' → St C H0' H' σ δ → E.nx δ → D.nx σ H'
  rt : ∀ (H0' H' : Hp) (v : V) (r : RX), Same H0 H0' → Wf C H0' H' → RXR C H0' H' v r → E.rt r → D.rt v H'
  bk : ∀ (H0' H' : Hp) (σ : L2.St) (δ : Dl), Same H0 H0' → St C H0' H' σ δ → E.bk δ → D.bk σ H'
  ct : ∀ (H0' H' : Hp) (σ : L2.St) (δ : Dl), Same H0 H0' → St C H0' H' σ δ → E.ct δ → D.ct σ H'
def SmS (C : Ctx) (ts : TS) (ds : DS) : Prop := ∀ (σ : L2.St) (δ : Dl) (H0 H : Hp) (E : DEnds) (D : Ends), St C H0 H σ δ → ds E δ → EndS C H0 E D → ts D σ H
abbrev DG := PyData → Dl → (Dl → Prop) → Prop
abbrev DGs := List PyData → Dl → (Dl → Prop) → Prop
def SmG (C : Ctx) (tg : TG) (dg : DG) : Prop := ∀ (v : V) (x : PyData) (σ : L2.St) (δ : Dl) (H0 H : Hp) (Ψ : Dl → Prop) (Q : L2.St → Hp → Prop), St C H0 H σ δ → Rp C.K H0 v x → dg x δ Ψ →
  (∀ σ' δ', St C H0 H σ' δ' → Ψ δ' → Q σ' H) → tg v σ H Q
def SmGs (C : Ctx) (tg : TGs) (dg : DGs) : Prop := ∀ (vs : List V) (xs : List PyData) (σ : L2.St) (δ : Dl) (H0 H : Hp) (Ψ : Dl → Prop) (Q : L2.St → Hp → Prop), St C H0 H σ δ → RpA C.K H0 vs xs → dg xs δ Ψ →
  (∀ σ' δ', St C H0 H σ' δ' → Ψ δ' → Q σ' H) → tg vs σ H Q
section
variable {C : Ctx} {H0 H H0' H' H0'' H'' : Hp} {σ : L2.St} {δ : Dl} {v : V} {x : PyData} {f : Bool}
variable {te ta tb tc : TE} {de da db dc : DE} {tt tu : TT} {dt du : DT} {tas : TA} {das : DA} {f1 f2 : Bool} {ts tv : TS} {ds dv : DS} {E : DEnds} {D : Ends} {o : DO} {g : TG} {dg : DG} {gs : TGs} {dgs : DGs} {ti : TI} {di : DI}
theorem EndS.mono (h : EndS C H0 E D) (e : Same H0 H0') : EndS C H0' E D :=
  ⟨fun a b c d q => h.nx a b c d (e.trans q), fun a b c d q => h.rt a b c d (e.trans q), fun a b c d q => h.bk a b c d (e.trans q), fun a b c d q => h.ct a b c d (e.trans q)⟩
@[simp] def dgName (i : Nat) : DG := fun x δ Ψ => Ψ (δ.set i (some (.d x)))
theorem smg_name (i : Nat) : SmG C (gName i) (dgName i) := fun v x σ δ H0 H Ψ Q s r w q => q _ _ (s.set_d i r) w
@[simp] def dgNil : DGs := fun xs δ Ψ => xs = [] ∧ Ψ δ
@[simp] def dgCons (dg : DG) (dgs : DGs) : DGs := fun xs δ Ψ => ∃ y ys, xs = y :: ys ∧ dg y δ fun δ' => dgs ys δ' Ψ
theorem smg_nil : SmGs C gNil dgNil := fun vs xs σ δ H0 H Ψ Q s r ⟨e, w⟩ q => by
  subst e
  cases r
  exact ⟨rfl, q _ _ s w⟩
theorem smg_cons (h1 : SmG C g dg) (h2 : SmGs C gs dgs) : SmGs C (gCons g gs) (dgCons dg dgs) := fun vs xs σ δ H0 H Ψ Q s r ⟨y, ys, e, w⟩ q => by
  subst e
  cases r with
  | cons ra rb => exact ⟨_, _, rfl, h1 _ _ σ δ H0 H _ _ s ra w fun σ' δ' s' w' => h2 _ _ σ' δ' H0 H _ _ s' rb w' q⟩
@[simp] def dgTup (n : Nat) (dgs : DGs) : DG := fun x δ Ψ => ∃ xs, x = .tuple xs ∧ xs.length = n ∧ dgs xs δ Ψ
theorem smg_tup {n : Nat} (h : SmGs C gs dgs) : SmG C (gTup C.K n gs) (dgTup n dgs) := fun v x σ δ H0 H Ψ Q s r ⟨xs, e, hn, w⟩ q => by
  subst e
  cases r with
  | @tup a us _ hs r => exact ⟨a, us, rfl, same_t s.toWf.sub hs, by rw [r.length]; exact hn, h _ _ σ δ H0 H _ _ s r w q⟩
@[simp] def dSeq (d1 d2 : DS) : DS := fun E δ => d1 { E with nx := d2 E } δ
theorem sms_seq (h1 : SmS C ts ds) (h2 : SmS C tv dv) : SmS C (tSeq ts tv) (dSeq ds dv) := fun σ δ H0 H E D s w e =>
  h1 σ δ H0 H _ _ s w ⟨fun H0' H' σ' δ' q s' w' => h2 σ' δ' H0' H' E D s' w' (e.mono q), e.rt, e.bk, e.ct⟩
@[simp] def dNext : DS := fun E δ => E.nx δ
theorem sms_next : SmS C tNext dNext := fun σ δ H0 H E D s w e => e.nx H0 H σ δ (Same.refl _) s w
@[simp] def dRet (de : DE) : DS := fun E δ => de δ fun x => E.rt (.d x)
theorem sms_ret (h : Sm C true te de) : SmS C (tRet te) (dRet de) := fun σ δ H0 H E D s w e =>
  h σ δ H0 H _ _ s w fun H0' H' v x g r p => e.rt H0' H' v (.d x) g.fz g.wf r p
@[simp] def dRetO (i : Nat) : DS := fun E δ => ∃ a xs, δ[i]? = some (some (.own a xs)) ∧ E.rt (.own xs)
theorem sms_retO (i : Nat) : SmS C (tRet (tVar i)) (dRetO i) := fun σ δ H0 H E D s ⟨a, xs, h, w⟩ e => by
  obtain ⟨v, e1, rfl, h1, h2, h3, vs, h4, h5⟩ := s.sl i _ h
  exact ⟨_, e1, e.rt H0 H _ (.own xs) (Same.refl _) s.toWf ⟨a, vs, rfl, h1, h2, h3, h4, h5⟩ w⟩
@[simp] def dRetNew (o : DO) : DS := fun E δ => o δ fun xs => E.rt (.own xs)
theorem sms_retNew (h : SmO C te o) : SmS C (tRet te) (dRetNew o) := fun σ δ H0 H E D s w e =>
  h σ δ H0 H _ _ s w fun H0' H' a vs xs g h1 h2 h3 r p => e.rt H0' H' _ (.own xs) g.fz g.wf ⟨a, vs, rfl, h2, (Go.he s.toWf h1).1, (Go.he s.toWf h1).2, h3, r⟩ p
@[simp] def dRetN : DS := fun E δ => E.rt (.d .none)
theorem sms_retN : SmS C tRetN dRetN := fun σ δ H0 H E D s w e => e.rt H0 H _ (.d .none) (Same.refl _) s.toWf .non w
@[simp] def dAsg (de : DE) (dg : DG) : DS := fun E δ => de δ fun x => dg x δ E.nx
theorem sms_asg (h : Sm C true te de) (hg : SmG C g dg) : SmS C (tAsg te g) (dAsg de dg) := fun σ δ H0 H E D s w e =>
  h σ δ H0 H _ _ s w fun H0' H' v x g1 r p => hg v x σ δ H0' H' _ _ (s.go g1) r p fun σ' δ' s' w' => e.nx H0' H' σ' δ' g1.fz s' w'
@[simp] def dSetO (i : Nat) (o : DO) : DS := fun E δ => o δ fun xs => ∀ a, E.nx (δ.set i (some (.own a xs)))
theorem sms_setO (i : Nat) (h : SmO C te o) : SmS C (tAsg te (gName i)) (dSetO i o) := fun σ δ H0 H E D s w e =>
  h σ δ H0 H _ _ s w fun H0' H' a vs xs g1 h1 h2 h3 r p => by
    refine e.nx H0' H' _ _ g1.fz ((s.go g1).set_own i (fun j b ys hj z => ?_) h2 (Go.he s.toWf h1).1 (Go.he s.toWf h1).2 h3 r) (p a)
    subst z
    obtain ⟨v, _, _, _, _, _, vs, k, _⟩ := s.sl j _ hj
    rw [h1] at k; cases k
@[simp] def dIfS (dt : DT) (d1 d2 : DS) : DS := fun E δ => dt δ fun b => if b = true then d1 E δ else d2 E δ
theorem sms_if (ht : SmT C tt dt) (h1 : SmS C ts ds) (h2 : SmS C tv dv) : SmS C (tIfS tt ts tv) (dIfS dt ds dv) := fun σ δ H0 H E D s w e =>
  ht σ δ H0 H _ _ s w fun H01 H1 b g1 w1 => by
    cases b with
    | true => exact iteT (h1 σ δ H01 H1 E D (s.go g1) (by simpa using w1) (e.mono g1.fz))
    | false => exact iteF (h2 σ δ H01 H1 E D (s.go g1) (by simpa using w1) (e.mono g1.fz))
@[simp] def dDrop (de : DE) : DS := fun E δ => de δ fun _ => E.nx δ
theorem sms_drop (h : Sm C f1 te de) : SmS C (tDrop te) (dDrop de) := fun σ δ H0 H E D s w e =>
  h σ δ H0 H _ _ s w fun H0' H' v x g1 r p => e.nx H0' H' σ δ g1.fz (s.go g1) p
/-- xs.append(e), xs an owned list -/
@[simp] def dApp (i : Nat) (de : DE) : DS := fun E δ => ∃ a xs, δ[i]? = some (some (.own a xs)) ∧ de δ fun x => xs.length < sizeLine ∧ E.nx (δ.set i (some (.own a (xs ++ [x]))))
theorem sms_app (i : Nat) (h : Sm C true te de) : SmS C (tDrop (tBM C.K "list" rAppend (tVar i) (tCons te tNil))) (dApp i de) := fun σ δ H0 H E D s ⟨a0, xs0, e0, w⟩ e => by
  obtain ⟨v, e1, rfl, h1, h2, h3, vs, h4, h5⟩ := s.sl i _ e0
  refine ⟨_, e1, .inl ⟨rfl, vs, SqL.of h4⟩, h σ δ H0 H _ _ s w fun H0' H' y x g1 r ⟨hl, p⟩ => ?_⟩
  have s1 := s.go g1
  obtain ⟨v', f1, f2, f3, f4, f5, us, f6, f7⟩ := s1.sl i _ e0
  refine ⟨a0, us, y, rfl, rfl, f6, by rw [f7.length]; exact hl, e.nx H0' _ σ _ g1.fz (s1.write i e0 (f7.snoc r)) p⟩
@[simp] def dAug (i : Nat) (de : DE) (f : Int → Int → Int) : DS := fun E δ => ∃ a, δ[i]? = some (some (.d (.int a))) ∧ de δ fun y => ∃ b, y = .int b ∧ E.nx (δ.set i (some (.d (.int (f a b)))))
theorem sms_aug (i : Nat) {fn : Int → Int → Int} (h : Sm C f1 te de) : SmS C (tAug i te (ipI fn)) (dAug i de fn) := fun σ δ H0 H E D s ⟨a0, e0, w⟩ e => by
  obtain ⟨v, e1, r0⟩ := s.sl i _ e0
  cases r0
  refine ⟨_, e1, h σ δ H0 H _ _ s w fun H0' H' y x g1 r ⟨b, e3, p⟩ => ?_⟩
  subst e3
  cases r
  exact ⟨a0, b, rfl, rfl, e.nx _ _ _ _ g1.fz ((s.go g1).set_d i (.int _)) p⟩
/-- xs[k] = e, xs an owned list -/
@[simp] def dSetI (i : Nat) (de dk : DE) : DS := fun E δ => de δ fun x => ∃ a xs, δ[i]? = some (some (.own a xs)) ∧ dk δ fun y => ∃ k j, y = .int k ∧ ixN xs.length k = some j ∧ E.nx (δ.set i (some (.own a (xs.set j x))))
theorem sms_setI (i : Nat) (h : Sm C true te de) (hk : Sm C f2 tb db) : SmS C (tAsg te (gSub (tVar i) tb rSetL)) (dSetI i de db) := fun σ δ H0 H E D s w e =>
  h σ δ H0 H _ _ s w fun H01 H1 v x g1 r ⟨a, xs, e0, w1⟩ => by
    have s1 := s.go g1
    obtain ⟨v', e1, f2, f3, f4, f5, us, f6, f7⟩ := s1.sl i _ e0
    refine ⟨v', e1, hk σ δ H01 H1 _ _ s1 w1 fun H02 H2 u y g2 r2 ⟨k, j, e3, e4, p⟩ => ?_⟩
    subst e3 f2
    cases r2
    have s2 := s1.go g2
    obtain ⟨v', e1, f2, f3, f4, f5, us, f6, f7⟩ := s2.sl i _ e0
    exact ⟨a, us, k, j, rfl, rfl, f6, by rw [f7.length]; exact e4, e.nx H02 _ σ _ (g1.fz.trans g2.fz) (s2.write i e0 (f7.set (Rp.mono g2.fz r) j)) p⟩
/-- the slot's list stands still from here on -/
@[simp] def dFrz (i : Nat) (d : DS) : DS := fun E δ => ∃ a xs, δ[i]? = some (some (.own a xs)) ∧ d E (δ.set i (some (.d (.list xs))))
theorem sms_frz (i : Nat) (h : SmS C ts ds) : SmS C ts (dFrz i ds) := fun σ δ H0 H E D s ⟨a, xs, h1, w⟩ e => by
  obtain ⟨H0', g, s'⟩ := s.freeze i h1
  exact h σ _ H0' H E D s' w (e.mono g)
@[simp] def dBreak : DS := fun E δ => E.bk δ
theorem sms_break : SmS C tBreak dBreak := fun σ δ H0 H E D s w e => e.bk H0 H σ δ (Same.refl _) s w
@[simp] def dCont : DS := fun E δ => E.ct δ
theorem sms_cont : SmS C tCont dCont := fun σ δ H0 H E D s w e => e.ct H0 H σ δ (Same.refl _) s w
/-- for .. in ..: -/
def dFor (di : DI) (dg : DG) (db : DS) : DS := fun E δ => di δ fun xs => ∃ I : Nat → Dl → Prop, I 0 δ ∧
  (∀ i y δ', xs[i]? = some y → I i δ' → dg y δ' fun δ'' => db { E with nx := I (i + 1), ct := I (i + 1), bk := E.nx } δ'') ∧ ∀ δ', I xs.length δ' → E.nx δ'
theorem sms_for (hi : SmI C ti di) (hg : SmG C g dg) (hb : SmS C ts ds) : SmS C (tFor ti g ts) (dFor di dg ds) := fun σ δ H0 H E D s w e =>
  hi σ δ H0 H _ _ s w fun H01 H1 J xs g1 wk ⟨I, i0, it, ie⟩ => by
    refine ⟨fun i m σ H => m = xs.length - i ∧ i ≤ xs.length ∧ ∃ H0' δ', Same H01 H0' ∧ St C H0' H σ δ' ∧ I i δ', ⟨_, rfl, Nat.zero_le _, H01, δ, Same.refl _, s.go g1, i0⟩, ?_⟩
    rintro i m σ' H' ⟨rfl, hi, H0', δ', gr, s', p⟩
    by_cases hl : i < xs.length
    · refine .inr ⟨wk.go H0' H' i gr s'.toWf hl, fun σ2 H2 => ∃ H0'' δ'', Same H01 H0'' ∧ St C H0'' H2 σ2 δ'' ∧ I (i + 1) δ'', fun σ2 H2 ⟨H02, δ2, h1, h2, h3⟩ => ⟨_, by omega, rfl, hl, H02, δ2, h1, h2, h3⟩, fun v H'' y => ?_⟩
      obtain ⟨H02, z, g2, hz, rz⟩ := wk.yld H0' H' i v H'' gr s'.toWf hl y
      refine hg v z σ' δ' H02 H'' _ _ (s'.go g2) rz (it i z δ' hz p) fun σ2 δ2 s2 w2 => ?_
      refine hb σ2 δ2 H02 H'' _ _ s2 w2 ⟨fun H03 H3 σ3 δ3 e3 s3 p3 => ⟨H03, δ3, (gr.trans g2.fz).trans e3, s3, p3⟩, fun H03 H3 v3 r3 e3 w3 x3 p3 => e.rt H03 H3 v3 r3 (((g1.fz.trans gr).trans g2.fz).trans e3) w3 x3 p3,
        fun H03 H3 σ3 δ3 e3 s3 p3 => e.nx H03 H3 σ3 δ3 (((g1.fz.trans gr).trans g2.fz).trans e3) s3 p3, fun H03 H3 σ3 δ3 e3 s3 p3 => ⟨H03, δ3, (gr.trans g2.fz).trans e3, s3, p3⟩⟩
    · have hl' : i = xs.length := by omega
      exact .inl ⟨wk.stop H0' H' i gr s'.toWf (by omega), e.nx H0' H' σ' δ' (g1.fz.trans gr) s' (ie δ' (hl' ▸ p))⟩
/-- for .. in an owned list, which the turns leave -/
def dForO (j : Nat) (dg : DG) (db : DS) : DS := fun E δ => ∃ a xs, δ[j]? = some (some (.own a xs)) ∧ ∃ I : Nat → Dl → Prop, I 0 δ ∧
  (∀ i y δ', xs[i]? = some y → I i δ' → δ'[j]? = some (some (.own a xs)) ∧ dg y δ' fun δ'' => db { E with nx := I (i + 1), ct := I (i + 1), bk := E.nx } δ'') ∧ ∀ δ', I xs.length δ' → δ'[j]? = some (some (.own a xs)) ∧ E.nx δ'
theorem sms_forO (j : Nat) (hg : SmG C g dg) (hb : SmS C ts ds) : SmS C (tFor (iList C.K (tVar j)) g ts) (dForO j dg ds) := fun σ δ H0 H E D s ⟨a, xs, e0, I, i0, it, ie⟩ e => by
  obtain ⟨v, e1, rfl, h1, h2, h3, us, h4, h5⟩ := s.sl j _ e0
  refine ⟨_, e1, a, rfl, ⟨us, SqL.of h4⟩, fun i m σ H => m = xs.length - i ∧ i ≤ xs.length ∧ ∃ H0' δ', Same H0 H0' ∧ St C H0' H σ δ' ∧ I i δ', ⟨_, rfl, Nat.zero_le _, H0, δ, Same.refl _, s, i0⟩, ?_⟩
  rintro i m σ' H' ⟨rfl, hi, H0', δ', gr, s', p⟩
  by_cases hl : i < xs.length
  · obtain ⟨y, hy⟩ := get_lt hl
    obtain ⟨k1, k2⟩ := it i y δ' hy p
    obtain ⟨v', e1', e2', f1, f2, f3, ws, f4, f5⟩ := s'.sl j _ k1
    obtain ⟨u, hu, ru⟩ := f5.get hy
    refine .inr ⟨⟨ws, u, SqL.of f4, hu⟩, fun σ2 H2 => ∃ H0'' δ'', Same H0 H0'' ∧ St C H0'' H2 σ2 δ'' ∧ I (i + 1) δ'', fun σ2 H2 ⟨H02, δ2, h1, h2, h3⟩ => ⟨_, by omega, rfl, hl, H02, δ2, h1, h2, h3⟩, fun v H'' y' => ?_⟩
    obtain ⟨rfl, y'⟩ := y'
    have y' := y' ws (SqL.of f4)
    rw [hu] at y'
    cases y'
    refine hg u y σ' δ' H0' H'' _ _ s' ru k2 fun σ2 δ2 s2 w2 => ?_
    refine hb σ2 δ2 H0' H'' _ _ s2 w2 ⟨fun H03 H3 σ3 δ3 e3 s3 p3 => ⟨H03, δ3, gr.trans e3, s3, p3⟩, fun H03 H3 v3 r3 e3 w3 x3 p3 => e.rt H03 H3 v3 r3 (gr.trans e3) w3 x3 p3,
      fun H03 H3 σ3 δ3 e3 s3 p3 => e.nx H03 H3 σ3 δ3 (gr.trans e3) s3 p3, fun H03 H3 σ3 δ3 e3 s3 p3 => ⟨H03, δ3, gr.trans e3, s3, p3⟩⟩
  · have hl' : i = xs.length := by omega
    obtain ⟨k1, k2⟩ := ie δ' (hl' ▸ p)
    obtain ⟨v', e1', e2', f1, f2, f3, ws, f4, f5⟩ := s'.sl j _ k1
    exact .inl ⟨⟨ws, SqL.of f4, by rw [f5.length]; omega⟩, e.nx H0' H' σ' δ' gr s' k2⟩
def dWhile (dt : DT) (db : DS) : DS := fun E δ => ∃ I : Nat → Dl → Prop, (∃ m, I m δ) ∧ ∀ m δ', I m δ' → dt δ' fun b => if b = true then db { E with nx := fun δ'' => ∃ m', m' < m ∧ I m' δ'', ct := fun δ'' => ∃ m', m' < m ∧ I m' δ'', bk := E.nx } δ' else E.nx δ'
theorem sms_while (ht : SmT C tt dt) (hb : SmS C ts ds) : SmS C (tWhile tt ts) (dWhile dt ds) := fun σ δ H0 H E D s ⟨I, ⟨m0, i0⟩, it⟩ e => by
  refine ⟨fun m σ' H' => ∃ H0' δ', Same H0 H0' ∧ St C H0' H' σ' δ' ∧ I m δ', ⟨m0, H0, δ, Same.refl _, s, i0⟩, ?_⟩
  rintro m σ' H' ⟨H0', δ', gr, s', p⟩
  refine ht σ' δ' H0' H' _ _ s' (it m δ' p) fun H01 H1 b g1 w1 => ?_
  cases b with
  | true =>
    refine iteT ⟨fun σ2 H2 => ∃ m', m' < m ∧ ∃ H0'' δ'', Same H0 H0'' ∧ St C H0'' H2 σ2 δ'' ∧ I m' δ'', fun σ2 H2 h => h, ?_⟩
    refine hb σ' δ' H01 H1 { E with nx := fun δ'' => ∃ m', m' < m ∧ I m' δ'', ct := fun δ'' => ∃ m', m' < m ∧ I m' δ'', bk := E.nx } _ (s'.go g1) (by simpa using w1) ⟨fun H03 H3 σ3 δ3 e3 s3 ⟨m', hm, p3⟩ => ⟨m', hm, H03, δ3, (gr.trans g1.fz).trans e3, s3, p3⟩, fun H03 H3 v3 r3 e3 w3 x3 p3 => e.rt H03 H3 v3 r3 ((gr.trans g1.fz).trans e3) w3 x3 p3,
      fun H03 H3 σ3 δ3 e3 s3 p3 => e.nx H03 H3 σ3 δ3 ((gr.trans g1.fz).trans e3) s3 p3, fun H03 H3 σ3 δ3 e3 s3 ⟨m', hm, p3⟩ => ⟨m', hm, H03, δ3, (gr.trans g1.fz).trans e3, s3, p3⟩⟩
  | false => exact iteF (e.nx H01 H1 σ' δ' (gr.trans g1.fz) (s'.go g1) (by simpa using w1))

/-! ### comprehensions -/
@[simp] def dYes : DT := fun _ Φ => Φ true
theorem smt_yes : SmT C tYes dYes := fun σ δ H0 H Φ Q s w q => q H0 H true (.refl s.toWf) w
def oLc (di : DI) (i : Nat) (dt : DT) (de : DE) : DO := fun δ Φ => di δ fun xs => ∃ I : Nat → List PyData → Prop, I 0 [] ∧
  (∀ k y acc, xs[k]? = some y → I k acc → dt (δ.set i (some (.d y))) fun b => if b = true then de (δ.set i (some (.d y))) fun z => acc.length < sizeLine ∧ I (k + 1) (acc ++ [z]) else I (k + 1) acc) ∧ ∀ acc, I xs.length acc → Φ acc
theorem smo_lc {i : Nat} (hi : SmI C ti di) (ht : SmT C tt dt) (he : Sm C true te de) : SmO C (tLc ti (gName i) tt te [i]) (oLc di i dt de) := fun σ δ H0 H Φ Q s w q =>
  hi σ δ H0 H _ _ s w fun H01 H1 J xs g1 wk ⟨I, i0, it, ie⟩ D hD => by
    have hD0 : H D = none := g1.fresh hD
    refine ⟨fun k m H' => m = xs.length - k ∧ k ≤ xs.length ∧ ∃ H0' us acc, Go C H01 H1 H0' H' ∧ H0' D = none ∧ H' D = some (.lst us) ∧ RpA C.K H0' us acc ∧ I k acc, ⟨_, rfl, Nat.zero_le _, H01, [], [], Go.free g1.wf hD, g1.wf.none hD, upd_same, .nil, i0⟩, ?_⟩
    rintro k m H' ⟨rfl, hk, H0', us, acc, g2, hn, hl, r, p⟩
    have nex : C.ex ≠ some D := (Go.he g1.wf hD).2
    by_cases hlt : k < xs.length
    · refine .inr ⟨wk.go H0' H' k g2.fz g2.wf hlt, fun H3 => ∃ H0' us acc, Go C H01 H1 H0' H3 ∧ H0' D = none ∧ H3 D = some (.lst us) ∧ RpA C.K H0' us acc ∧ I (k + 1) acc, fun H3 h => ⟨_, by omega, rfl, hlt, h⟩, fun v H'' y => ?_⟩
      obtain ⟨H02, z, g3, hz, rz⟩ := wk.yld H0' H' k v H'' g2.fz g2.wf hlt y
      have g23 := g2.trans g3
      have keep : ∀ {A B : Hp}, Go C H02 H'' A B → A D = none ∧ B D = some (.lst us) := fun {A B} gg => by
        have h1 : B D = some (.lst us) := gg.kp D _ nex (g3.kp D _ nex hl)
        refine ⟨?_, h1⟩
        cases e : A D with
        | none => rfl
        | some u =>
          rcases (g3.trans gg).nw D u e with h2 | h2
          · rw [hn] at h2; cases h2
          · rw [hl] at h2; cases h2
      show wipe ((wipe σ [i]).set i (some v)) [i] = wipe σ [i] ∧ _
      refine ⟨by simp [wipe], ?_⟩
      have s2 : St C H02 H'' ((wipe σ [i]).set i (some v)) (δ.set i (some (.d z))) := by
        have := ((s.go ((g1.trans g2).trans g3)).none i).set_d i rz
        rw [List.set_set] at this
        rw [List.set_set] at this
        show St C H02 H'' ((σ.set i none).set i (some v)) (δ.set i (some (.d z)))
        rw [List.set_set]
        exact this
      refine ht _ _ H02 H'' _ _ s2 (it k z acc hz p) fun H04 H4 b g4 w4 => ?_
      cases b with
      | false => exact iteF ⟨H04, us, acc, g23.trans g4, (keep g4).1, (keep g4).2, r.mono (g3.fz.trans g4.fz), by simpa using w4⟩
      | true =>
        refine iteT (he _ _ H04 H4 (fun z => acc.length < sizeLine ∧ I (k + 1) (acc ++ [z])) _ (s2.go g4) (by simpa using w4) fun H05 H5 y' z' g5 r5 ⟨w5, p5⟩ => ?_)
        have k5 := keep (g4.trans g5)
        refine ⟨us, k5.2, by rw [r.length]; exact w5, H05, us ++ [y'], acc ++ [z'], ?_, k5.1, upd_same, (r.mono (g3.fz.trans (g4.fz.trans g5.fz))).snoc r5, p5⟩
        -- the list D is written: it is not frozen, and new since H1
        have gg := (g23.trans g4).trans g5
        refine ⟨⟨fun b u e => ?_, fun b u n e => ?_, gg.wf.fz, gg.wf.nw, fun c e => ?_⟩, gg.fz, fun b u n e => ?_, gg.nw⟩
        · rw [upd_ne (fun z => by rw [z, k5.1] at e; cases e)]; exact gg.wf.sub b u e
        · rw [upd_ne (fun z => by rw [z, (Go.he g1.wf hD).1] at e; cases e)]; exact gg.wf.kp b u n e
        · obtain ⟨c', i', v', s', cells, q1, q2, q3, q4⟩ := gg.wf.dr c e
          exact ⟨c', i', v', s', cells, by rw [upd_ne (fun z => nex (by rw [← z]; exact e))]; exact q1, q2, q3, q4⟩
        · rw [upd_ne (fun z => by rw [z, hD] at e; cases e)]; exact gg.kp b u n e
    · have hk' : k = xs.length := by omega
      refine .inl ⟨wk.stop H0' H' k g2.fz g2.wf (by omega), q H0' H' D us acc (g1.trans g2) hD0 hn hl r (ie acc (hk' ▸ p))⟩

/-! ### a def -/
@[simp] def startD (n : Nat) (rs : List R) : Dl := rs.map some ++ List.replicate (n - rs.length) none
theorem fn_ok {P : Program} {w : World} {K : PySem.W.Frag} {mg : Str → Option Value} {base : Heap} {x qual : Str} {st : Stmt} {fa : Addr} {fd : FuncData} {N ps : List Str} {k : Nat} {p : VSp}
    (F : Fun K x qual st fa fd) (S : FnScope N ps (defScope st))
    (hbody : ∀ (cdv : Value) (A : Around) (outer : List Env) (s : Shared) (H : Hp) (E : XK), Room k (A.deeper (PyProof.Rows.envOfC qual (defScope st) s.heap.objs.size fa cdv)) →
      ∃ t, PSs (cxOf CX0 P w K mg base N qual (defScope st) fa cdv A outer s H E).nox (defBody st) t ∧ ∃ d : DS, (∀ (ex : Option Addr) (He Hf : Hp), SmS ⟨K, ex, He, Hf⟩ t d) ∧ ∀ rs Φ, p rs Φ → d { nx := fun _ => Φ (.d .none), rt := Φ } (startD N.length rs)) : FnOk P w K mg base CX0 (k + 1) fa fd ps (toSp K ps.length p) := by
  refine F.ok S (fun vs H Q E h => h.1) (fun cdv A outer s H vs Q E hr h => ?_)
  obtain ⟨t, ht, d, hd, hp⟩ := hbody cdv A outer s H E hr
  obtain ⟨hl, ex, H0, rs, Φ, wf, ra, hsp, q⟩ := h
  refine ⟨t, ht, ?_⟩
  have hlen := ra.length
  refine hd ex H H0 _ (startD N.length rs) H0 H _ _ ⟨wf, ?_, fun i r e => ?_, fun i j a b xs ys n e1 e2 => ?_⟩ (hp rs Φ hsp) ⟨fun H0' H' σ δ g s' w' => ?_, fun H0' H' v r g w' xr p' => q H0' H' v r w' xr p', fun _ _ _ _ _ _ h => h.elim, fun _ _ _ _ _ _ h => h.elim⟩
  · simp [L2.start, startD, hlen]
  · unfold startD at e
    by_cases hi : i < rs.length
    · rw [List.getElem?_append_left (by simpa using hi), List.getElem?_map] at e
      cases e1 : rs[i]? with
      | none => rw [e1] at e; simp at e
      | some r' =>
        rw [e1] at e
        simp at e
        subst e
        obtain ⟨v, h1, h2⟩ := ra.get e1
        refine ⟨v, ?_, ?_⟩
        · unfold L2.start
          rw [List.getElem?_append_left (by rw [List.length_map, hlen]; exact hi), List.getElem?_map, h1]
          rfl
        · cases r' with
          | d x => exact h2
          | own a xs => exact h2.elim
          | drw => exact h2
          | raw u => exact h2
          | scr ns => exact h2
    · rw [List.getElem?_append_right (by simpa using hi)] at e
      rw [List.getElem?_replicate] at e
      split at e <;> simp at e
  · exfalso
    have f : ∀ {i : Nat} {a : Addr} {xs : List PyData}, (startD N.length rs)[i]? = some (some (R.own a xs)) → False := fun {i a xs} e => by
      unfold startD at e
      by_cases hi : i < rs.length
      · rw [List.getElem?_append_left (by simpa using hi), List.getElem?_map] at e
        cases e1 : rs[i]? with
        | none => rw [e1] at e; simp at e
        | some r' =>
          rw [e1] at e
          simp at e
          subst e
          obtain ⟨v, h1, h2⟩ := ra.get e1
          exact h2
      · rw [List.getElem?_append_right (by simpa using hi)] at e
        rw [List.getElem?_replicate] at e
        split at e <;> simp at e
    exact f e1
  · exact q H0' H' .non (.d .none) s'.toWf .non w'

/-! ### the row of numbers that a law draws from -/
/-- how many a draw may be of -/
def Tk (m : Int) : Prop := 0 < m ∧ m.natAbs < 2 ^ 8000
theorem tk_of {m : Int} (h : 0 < m) (h2 : m ≤ 1180591620717411303424) : Tk m := ⟨h, Nat.lt_of_lt_of_le (show m.natAbs < 2 ^ 71 by omega) (Nat.pow_le_pow_right (by decide) (by decide))⟩
@[simp] theorem tk_simp {m : Int} (h : 0 < m) (h2 : m ≤ 1180591620717411303424) : Tk m ↔ True := ⟨fun _ => trivial, fun _ => tk_of h h2⟩
/-- a number below many -/
@[simp] def spTake : VSp := fun rs Φ => ∃ many : Int, rs = [.drw, .d (.int many)] ∧ Tk many ∧ ∀ r : Int, 0 ≤ r → r < many → Φ (.d (.int r))
theorem spTake_len : ∀ rs Φ, spTake rs Φ → rs.length = 2 := fun rs Φ ⟨_, e, _⟩ => by rw [e]; rfl
/-- the row is made -/
def spDraw (K : PySem.W.Frag) : Sp := fun vs H Q _ => ∃ (a : Addr) (ns : List Int), vs = [.ref a] ∧ SqL K H a (ns.map V.int) ∧ ns.length ≤ 63 ∧
  ∀ H' p c (s : Int) (cells : List Int), Same H H' → H' p = some (.lst [.ref c, .int (-1), .int 0, .int s]) → H' c = some (.lst (cells.map V.int)) → c ≠ p → (∀ x ∈ cells, 0 ≤ x) → 0 ≤ s → s < 2147483647 → Q (.ref p) H'
def spLaw (K : PySem.W.Frag) : Sp := fun vs H Q _ => ∃ (a : Addr) (ns : List Int), vs = [.ref a] ∧ SqL K H a (ns.map V.int) ∧ ns.length ≤ 63 ∧ ∀ H', Q (.bl true) H'
/-- the draw's row is written -/
theorem Wf.draw {p c : Addr} {i v s : Int} (w : Wf C H0 H) (e : C.ex = some p) (h : H p = some (.lst [.ref c, .int i, .int v, .int s])) {i' v' s' : Int} (h1 : -1 ≤ i') (h2 : 0 ≤ v') (h3 : 0 ≤ s') (h4 : s' < 2147483647) :
    Wf C H0 (upd H p (.lst [.ref c, .int i', .int v', .int s'])) := by
  obtain ⟨c0, i0, v0, s0, cells, g1, g2, g3, g4, g5⟩ := w.dr p e
  rw [h] at g1
  cases g1
  refine ⟨fun b u q => ?_, fun b u n q => ?_, w.fz, w.nw, fun p' e' => ?_⟩
  · rw [upd_ne (fun z => by rw [z, g3] at q; cases q)]; exact w.sub b u q
  · rw [upd_ne (fun z => by rw [z] at n; exact n e)]; exact w.kp b u n q
  · rw [e] at e'; cases e'
    exact ⟨c, i', v', s', cells, upd_same, g2, g3, g4, h1, h2, h3, h4⟩
/-- the law's own body behind «draw = _law_draw(script)» -/
theorem law_start {K : PySem.W.Frag} {p c : Addr} {s : Int} {cells : List Int} {H' : Hp} (h1 : H' p = some (.lst [.ref c, .int (-1), .int 0, .int s])) (h2 : H' c = some (.lst (cells.map V.int))) (h3 : c ≠ p) (h4 : ∀ x ∈ cells, 0 ≤ x) (h5 : 0 ≤ s) (h6 : s < 2147483647)
    {a : Addr} {n : Nat} {t : TS} {d : DS} (hd : ∀ (ex : Option Addr) (He Hf : Hp), SmS ⟨K, ex, He, Hf⟩ t d) {Q : VK} (hQ : ∀ H', Q (.bl true) H')
    (hp : ∀ raw : V, d { nx := fun _ => False, rt := fun r => r = .d (.bool true) } (some (.raw raw) :: some .drw :: List.replicate n none)) :
    t { nx := fun _ H' => Q .non H', rt := Q } (some (.ref a) :: some (.ref p) :: List.replicate n none) H' := by
  have w : Wf ⟨K, some p, H', fun b => if b = p then none else H' b⟩ (fun b => if b = p then none else H' b) H' := by
    refine ⟨fun b o e => ?_, fun _ _ _ e => e, Same.refl _, fun _ _ e => .inl e, fun q e => ?_⟩
    · split at e
      · cases e
      · exact e
    · cases e
      exact ⟨c, -1, 0, s, cells, h1, by show (if c = p then none else H' c) = _; rw [if_neg h3]; exact h2, if_pos rfl, h4, by omega, by omega, h5, h6⟩
  refine hd (some p) H' (fun b => if b = p then none else H' b) _ _ _ H' _ _ ⟨w, by simp, fun i r e => ?_, fun i j a b xs ys n e1 e2 => ?_⟩ (hp (.ref a)) ⟨fun _ _ _ _ _ _ h => h.elim, fun H0' H'' v r g w' x e => ?_, fun _ _ _ _ _ _ h => h.elim, fun _ _ _ _ _ _ h => h.elim⟩
  · match i with
    | 0 => simp at e; subst e; exact ⟨_, rfl, rfl⟩
    | 1 => simp at e; subst e; exact ⟨_, rfl, p, rfl, rfl⟩
    | i + 2 =>
      rw [List.getElem?_cons_succ, List.getElem?_cons_succ, List.getElem?_replicate] at e
      split at e <;> simp at e
  · match i with
    | 0 => simp at e1
    | 1 => simp at e1
    | i + 2 =>
      rw [List.getElem?_cons_succ, List.getElem?_cons_succ, List.getElem?_replicate] at e1
      split at e1 <;> simp at e1
  · subst e
    cases x
    exact hQ _
end
section
/-- a law that reads its script itself -/
theorem law_plain {K : PySem.W.Frag} {a : Addr} {ns : List Int} {H : Hp} {Q : VK} {n : Nat} {t : TS} {d : DS} (hS : SqL K H a (ns.map V.int)) (k : ∀ H', Q (.bl true) H') (hd : ∀ (ex : Option Addr) (He Hf : Hp), SmS ⟨K, ex, He, Hf⟩ t d)
    (hp : d { nx := fun _ => False, rt := fun r => r = .d (.bool true) } (some (.scr ns) :: List.replicate n none)) : t { nx := fun _ H' => Q .non H', rt := Q } (some (.ref a) :: List.replicate n none) H := by
  refine hd none H H _ _ H H _ _ ⟨⟨Same.refl _, fun _ _ _ e => e, Same.refl _, fun _ _ e => .inl e, fun p e => by cases e⟩, by simp, fun i r e => ?_, fun i j a b xs ys n e1 e2 => ?_⟩ hp ⟨fun _ _ _ _ _ _ h => h.elim, fun H0' H'' v r g w' x e => ?_, fun _ _ _ _ _ _ h => h.elim, fun _ _ _ _ _ _ h => h.elim⟩
  · match i with
    | 0 => simp at e; subst e; exact ⟨_, rfl, a, rfl, hS⟩
    | i + 1 =>
      rw [List.getElem?_cons_succ, List.getElem?_replicate] at e
      split at e <;> simp at e
  · match i with
    | 0 => simp at e1
    | i + 1 =>
      rw [List.getElem?_cons_succ, List.getElem?_replicate] at e1
      split at e1 <;> simp at e1
  · subst e
    cases x
    exact k _
/-- what is never reached -/
@[simp] def dNever : DS := fun _ _ => False
theorem sms_never {C : Ctx} {t : TS} : SmS C t dNever := fun _ _ _ _ _ _ _ h => h.elim
end
/-! ### rules of the hand layer whose words name the written part: said with it -/
section
variable {X : Cx} {K : PySem.W.Frag}
theorem kx_seq (h : X.K = K) : IxR X (rIx K) := by subst h; exact ix_seq
theorem kx_in (h : X.K = K) : OpR X (compareOp .In) (rIn K false) := by subst h; exact op_in_seq
theorem kx_notIn (h : X.K = K) : OpR X (compareOp .NotIn) (rIn K true) := by subst h; exact op_notIn_seq
theorem kx_eqD (h : X.K = K) (hu : X.A.units + 64 < cLine) : OpR X (compareOp .Eq) (rEqD K) := by subst h; exact op_eqD hu
theorem kx_neD (h : X.K = K) (hu : X.A.units + 64 < cLine) : OpR X (compareOp .NotEq) (rNeD K) := by subst h; exact op_neD hu
theorem kx_len (h : X.K = K) : CallR X (.builtin "len") (fun xs H Q => ∃ x n, xs = [x] ∧ LenV K x H n ∧ Q (.int n) H) := by subst h; exact call_len
theorem kx_list (h : X.K = K) : CallR X (.type "list") (fun xs H Q => ∃ p ys, xs = [.ref p] ∧ (SqL K H p ys ∨ SqT K H p ys) ∧ ∀ l, H l = none → Q (.ref l) (upd H l (.lst ys))) := by subst h; exact call_list_of
theorem kx_tuple (h : X.K = K) : CallR X (.type "tuple") (fun xs H Q => ∃ p ys, xs = [.ref p] ∧ ((SqL K H p ys ∧ ∀ l, H l = none → Q (.ref l) (upd H l (.tup ys))) ∨ (SqT K H p ys ∧ Q (.ref p) H))) := by subst h; exact call_tuple_of
theorem kx_isi (h : X.K = K) : CallR X (.builtin "isinstance") (rIsi K) := by subst h; exact call_isi
theorem kpi_list (h : X.K = K) {tg e : Expr} {tl : TE} (he : PE X e tl) : PI X tg e (iList K tl) := by subst h; exact pi_list he
theorem kpi_tup (h : X.K = K) {tg e : Expr} {tl : TE} (he : PE X e tl) : PI X tg e (iTup K tl) := by subst h; exact pi_tup he
end
end VL

/-! Facts about the layer's words. -/
namespace VL
open PySem L2
@[simp] theorem scal_ii (i j : Int) : scal (.int i) (.int j) = true := rfl
@[simp] theorem scal_ss (i j : Str) : scal (.str i) (.str j) = true := rfl
@[simp] theorem scal_bb (i j : Bool) : scal (.bl i) (.bl j) = true := rfl
@[simp] theorem scal_nn : scal .non .non = true := rfl
@[simp] theorem scal_ni (i : Int) : scal .non (.int i) = true := rfl
@[simp] theorem scal_in (i : Int) : scal (.int i) .non = true := rfl
@[simp] theorem scal_si (s : Str) (i : Int) : scal (.str s) (.int i) = true := rfl
@[simp] theorem scal_is (s : Str) (i : Int) : scal (.int i) (.str s) = true := rfl
@[simp] theorem scal_ns (s : Str) : scal .non (.str s) = true := rfl
@[simp] theorem scal_sn (s : Str) : scal (.str s) .non = true := rfl
@[simp] theorem eqv_ii (i j : Int) : PyData.eqv (.int i) (.int j) = (i == j) := by simp [PyData.eqv]
@[simp] theorem eqv_ss (i j : Str) : PyData.eqv (.str i) (.str j) = decide (i = j) := by rw [Bool.eq_iff_iff]; simp [PyData.eqv]
@[simp] theorem own_ex {α β : Type} {a0 : α} {xs0 : β} {P : α → β → Prop} : (∃ a xs, (a0 = a ∧ xs0 = xs) ∧ P a xs) ↔ P a0 xs0 := ⟨fun ⟨_, _, ⟨e1, e2⟩, h⟩ => by subst e1 e2; exact h, fun h => ⟨_, _, ⟨rfl, rfl⟩, h⟩⟩
@[simp] theorem kit_NoneType_tuple : kitB "NoneType" "tuple" = some false := by decide +kernel
@[simp] theorem kit_NoneType_list : kitB "NoneType" "list" = some false := by decide +kernel
@[simp] theorem kit_NoneType_bool : kitB "NoneType" "bool" = some false := by decide +kernel
@[simp] theorem kit_NoneType_int : kitB "NoneType" "int" = some false := by decide +kernel
@[simp] theorem kit_NoneType_str : kitB "NoneType" "str" = some false := by decide +kernel
@[simp] theorem kit_NoneType_dict : kitB "NoneType" "dict" = some false := by decide +kernel
@[simp] theorem kit_bool_tuple : kitB "bool" "tuple" = some false := by decide +kernel
@[simp] theorem kit_bool_list : kitB "bool" "list" = some false := by decide +kernel
@[simp] theorem kit_bool_bool : kitB "bool" "bool" = some true := by decide +kernel
@[simp] theorem kit_bool_int : kitB "bool" "int" = some true := by decide +kernel
@[simp] theorem kit_bool_str : kitB "bool" "str" = some false := by decide +kernel
@[simp] theorem kit_bool_dict : kitB "bool" "dict" = some false := by decide +kernel
@[simp] theorem kit_int_tuple : kitB "int" "tuple" = some false := by decide +kernel
@[simp] theorem kit_int_list : kitB "int" "list" = some false := by decide +kernel
@[simp] theorem kit_int_bool : kitB "int" "bool" = some false := by decide +kernel
@[simp] theorem kit_int_int : kitB "int" "int" = some true := by decide +kernel
@[simp] theorem kit_int_str : kitB "int" "str" = some false := by decide +kernel
@[simp] theorem kit_int_dict : kitB "int" "dict" = some false := by decide +kernel
@[simp] theorem kit_str_tuple : kitB "str" "tuple" = some false := by decide +kernel
@[simp] theorem kit_str_list : kitB "str" "list" = some false := by decide +kernel
@[simp] theorem kit_str_bool : kitB "str" "bool" = some false := by decide +kernel
@[simp] theorem kit_str_int : kitB "str" "int" = some false := by decide +kernel
@[simp] theorem kit_str_str : kitB "str" "str" = some true := by decide +kernel
@[simp] theorem kit_str_dict : kitB "str" "dict" = some false := by decide +kernel
@[simp] theorem kit_list_tuple : kitB "list" "tuple" = some false := by decide +kernel
@[simp] theorem kit_list_list : kitB "list" "list" = some true := by decide +kernel
@[simp] theorem kit_list_bool : kitB "list" "bool" = some false := by decide +kernel
@[simp] theorem kit_list_int : kitB "list" "int" = some false := by decide +kernel
@[simp] theorem kit_list_str : kitB "list" "str" = some false := by decide +kernel
@[simp] theorem kit_list_dict : kitB "list" "dict" = some false := by decide +kernel
@[simp] theorem kit_tuple_tuple : kitB "tuple" "tuple" = some true := by decide +kernel
@[simp] theorem kit_tuple_list : kitB "tuple" "list" = some false := by decide +kernel
@[simp] theorem kit_tuple_bool : kitB "tuple" "bool" = some false := by decide +kernel
@[simp] theorem kit_tuple_int : kitB "tuple" "int" = some false := by decide +kernel
@[simp] theorem kit_tuple_str : kitB "tuple" "str" = some false := by decide +kernel
@[simp] theorem kit_tuple_dict : kitB "tuple" "dict" = some false := by decide +kernel
@[simp] theorem kit_dict_tuple : kitB "dict" "tuple" = some false := by decide +kernel
@[simp] theorem kit_dict_list : kitB "dict" "list" = some false := by decide +kernel
@[simp] theorem kit_dict_bool : kitB "dict" "bool" = some false := by decide +kernel
@[simp] theorem kit_dict_int : kitB "dict" "int" = some false := by decide +kernel
@[simp] theorem kit_dict_str : kitB "dict" "str" = some false := by decide +kernel
@[simp] theorem kit_dict_dict : kitB "dict" "dict" = some true := by decide +kernel
@[simp] theorem at_0 {α : Type} (a : α) (xs : List α) : atI (a :: xs) 0 = some a := by simp [atI, ixN]
@[simp] theorem at_1 {α : Type} (a b : α) (xs : List α) : atI (a :: b :: xs) 1 = some b := by
  have : (1 : Int) < (xs.length : Int) + 1 + 1 := by omega
  simp [atI, ixN, this]
@[simp] theorem at_2 {α : Type} (a b c : α) (xs : List α) : atI (a :: b :: c :: xs) 2 = some c := by
  have : (2 : Int) < (xs.length : Int) + 1 + 1 + 1 := by omega
  simp [atI, ixN, this]
@[simp] theorem at_3 {α : Type} (a b c d : α) (xs : List α) : atI (a :: b :: c :: d :: xs) 3 = some d := by
  have : (3 : Int) < (xs.length : Int) + 1 + 1 + 1 + 1 := by omega
  simp [atI, ixN, this]
@[simp] theorem at_4 {α : Type} (a b c d e : α) (xs : List α) : atI (a :: b :: c :: d :: e :: xs) 4 = some e := by
  have : (4 : Int) < (xs.length : Int) + 1 + 1 + 1 + 1 + 1 := by omega
  simp [atI, ixN, this]
theorem int_at {ns : List Int} {i : Nat} {z : PyData} (h : (ns.map PyData.int)[i]? = some z) : ∃ u, ns[i]? = some u ∧ z = .int u := by
  rw [List.getElem?_map] at h
  cases e : ns[i]? with
  | none => rw [e] at h; cases h
  | some u => rw [e] at h; exact ⟨u, rfl, (Option.some.inj h).symm⟩
theorem seq_by {d1 d2 : DS} {E : DEnds} {δ : Dl} (J : Dl → Prop) (h2 : ∀ δ', J δ' → d2 E δ') (h1 : ∀ N : Dl → Prop, (∀ δ', J δ' → N δ') → d1 { E with nx := N } δ) : dSeq d1 d2 E δ := h1 _ h2
/-- a comprehension over range(n) -/
theorem oLc_n {da : DE} {i : Nat} {de : DE} {δ : Dl} {Φ : List PyData → Prop} {n : Nat} (hn : n < 1000000) (h : ∀ Ψ : PyData → Prop, Ψ (.int n) → da δ Ψ) (P : List PyData → Prop) (h0 : P [])
    (hs : ∀ (k : Nat) (acc : List PyData) (Ψ : PyData → Prop), k < n → acc.length = k → P acc → (∀ z, P (acc ++ [z]) → Ψ z) → de (δ.set i (some (.d (.int k)))) Ψ) (hΦ : ∀ acc, acc.length = n → P acc → Φ acc) : oLc (iR1 da) i dYes de δ Φ := by
  unfold oLc
  refine h _ ⟨n, rfl, by omega, by omega, fun k acc => acc.length = k ∧ P acc, ⟨rfl, h0⟩, fun k y acc hy ha => ?_, fun acc ha => ?_⟩
  · obtain ⟨hk, rfl⟩ := rng_get hy
    have hk : k < n := hk
    unfold dYes
    dsimp only
    rw [if_pos rfl]
    rw [show (0 : Int) + (k : Int) = (k : Int) from Int.zero_add _]
    refine hs k acc _ hk ha.1 ha.2 fun z hz => ⟨?_, ?_, hz⟩
    · rw [ha.1]
      exact Nat.lt_of_lt_of_le (show k < 1000000 by omega) (by decide)
    · rw [List.length_append, ha.1]; rfl
  · rw [rng_len] at ha
    exact hΦ acc ha.1 ha.2
/-- a comprehension over a walked list, its answer a function of the items -/
theorem oLc_map {di : DI} {i : Nat} {de : DE} {δ : Dl} {Φ : List PyData → Prop} {xs : List PyData} (F : PyData → PyData) (hn : xs.length < 1000000) (h : ∀ Ψ : List PyData → Prop, Ψ xs → di δ Ψ)
    (hs : ∀ (k : Nat) (y : PyData) (Ψ : PyData → Prop), xs[k]? = some y → Ψ (F y) → de (δ.set i (some (.d y))) Ψ) (hΦ : Φ (xs.map F)) : oLc di i dYes de δ Φ := by
  unfold oLc
  refine h _ ⟨fun k acc => acc = (xs.take k).map F, by simp, fun k y acc hy ha => ?_, fun acc ha => ?_⟩
  · subst ha
    unfold dYes
    dsimp only
    rw [if_pos rfl]
    have hk := (List.getElem?_eq_some_iff.mp hy).1
    refine hs k y _ hy ⟨?_, ?_⟩
    · rw [List.length_map, List.length_take]
      exact Nat.lt_of_lt_of_le (show min k xs.length < 1000000 by omega) (by decide)
    · rw [List.take_add_one, hy, List.map_append]
      rfl
  · subst ha
    rw [List.take_length]
    exact hΦ
theorem depth_ints : ∀ ns : List Int, PyData.depthAll (ns.map PyData.int) = 0
  | [] => rfl
  | _ :: r => by simp only [List.map_cons, PyData.depthAll, PyData.depth, depth_ints r, Nat.max_self]
/-! ### data without texts: they compare by themselves -/
theorem canLay_ints : ∀ ns : List Int, PyData.canLayAll0 (ns.map PyData.int) = true
  | [] => rfl
  | _ :: r => by simp only [List.map_cons, PyData.canLayAll0, PyData.canLay0, canLay_ints r, Bool.and_self]
theorem eqvAll_ints : ∀ a b : List Int, PyData.eqvAll (a.map PyData.int) (b.map PyData.int) = decide (a = b)
  | [], [] => by simp [PyData.eqvAll]
  | [], _ :: _ => by simp [PyData.eqvAll]
  | _ :: _, [] => by simp [PyData.eqvAll]
  | x :: a, y :: b => by
    simp only [List.map_cons, PyData.eqvAll, eqv_ii, eqvAll_ints a b, List.cons.injEq]
    by_cases h : x = y <;> by_cases k : a = b <;> simp [h, k]
@[simp] theorem eqv_ints (a b : List Int) : PyData.eqv (.list (a.map PyData.int)) (.list (b.map PyData.int)) = decide (a = b) := by
  rw [PyData.eqv, eqvAll_ints]
@[simp] theorem shaped_ints (ns : List Int) : SeqAt.shaped (.list (ns.map PyData.int)) = true := by
  unfold SeqAt.shaped
  rw [PyData.canLay0, canLay_ints, PyData.depth, depth_ints]
  rfl
@[simp] theorem shaped_intsT (ns : List Int) : SeqAt.shaped (.tuple (ns.map PyData.int)) = true := by
  unfold SeqAt.shaped
  rw [PyData.canLay0, canLay_ints, PyData.depth, depth_ints]
  rfl
@[simp] theorem shaped_i (i : Int) : SeqAt.shaped (.int i) = true := rfl
/-! ### more statements and expressions -/
section
variable {C : Ctx} {f f1 f2 f3 : Bool} {ta tb tc td : TE} {da db dc dd : DE}
@[simp] def dPar (i j : Nat) (da db : DE) : DS := fun E δ => da δ fun x => db δ fun y => E.nx ((δ.set i (some (.d x))).set j (some (.d y)))
theorem sms_par (i j : Nat) (ha : Sm C true ta da) (hb : Sm C true tb db) : SmS C (tPar i j (tCons ta (tCons tb tNil))) (dPar i j da db) := fun σ δ H0 H E D s w e =>
  ha σ δ H0 H _ _ s w fun H01 H1 v x g1 r1 w1 => hb σ δ H01 H1 _ _ (s.go g1) w1 fun H02 H2 u y g2 r2 w2 =>
    ⟨v, u, rfl, e.nx _ _ _ _ (g1.fz.trans g2.fz) ((((s.go g1).go g2).set_d i (Rp.mono g2.fz r1)).set_d j r2) w2⟩
@[simp] def dChain (g g' : PyData → PyData → (PyData → Prop) → Prop) (da db dc : DE) : DE := fun δ Φ => da δ fun x => db δ fun y => g x y fun z => ∃ k, z = .bool k ∧ if k = true then dc δ fun w => g' y w Φ else Φ (.bool false)
theorem sm_chain {r r' : R2} {g g' : PyData → PyData → (PyData → Prop) → Prop} (hr : OpD C r g) (hr' : OpD C r' g') (ha : Sm C f1 ta da) (hb : Sm C f2 tb db) (hc : Sm C f3 tc dc) : Sm C f (tChain r r' ta tb tc) (dChain g g' da db dc) := fun σ δ H0 H Φ Q s w q =>
  ha σ δ H0 H _ _ s w fun H01 H1 v x g1 r1 w1 => hb σ δ H01 H1 _ _ (s.go g1) w1 fun H02 H2 u y g2 r2 w2 =>
    hr H2 v u x y _ _ ((r1.mono g2.loc).mono g2.wf.loc) (r2.mono g2.wf.loc) w2 fun w' z hz ⟨k, e, p⟩ => by
      subst e
      have hz := hz H2
      cases hz
      refine ⟨k, rfl, ?_⟩
      cases k with
      | false => exact iteF (q _ _ _ _ (g1.trans g2) (.bl false) (by simpa using p))
      | true =>
        exact iteT (hc σ δ H02 H2 _ _ ((s.go g1).go g2) (by simpa using p) fun H03 H3 t w3 g3 r3 p3 =>
          hr' H3 u t y w3 Φ Q ((r2.mono g3.loc).mono g3.wf.loc) (r3.mono g3.wf.loc) p3 fun w' z hz p => q _ _ w' z ((g1.trans g2).trans g3) (hz _) p)
/-- an object that is not frozen, new since the start, is written -/
theorem Go.wr {H0 H H0' H' : Hp} {p : Addr} {o : HO} (w : Wf C H0 H) (hp : H p = none) (g : Go C H0 H H0' H') (hn : H0' p = none) : Go C H0 H H0' (upd H' p o) := by
  obtain ⟨he, nex⟩ := Go.he w hp
  refine ⟨⟨fun b u e => ?_, fun b u n e => ?_, g.wf.fz, g.wf.nw, fun c e => ?_⟩, g.fz, fun b u n e => ?_, g.nw⟩
  · rw [upd_ne (fun z => by rw [z, hn] at e; cases e)]; exact g.wf.sub b u e
  · rw [upd_ne (fun z => by rw [z, he] at e; cases e)]; exact g.wf.kp b u n e
  · obtain ⟨c', i', v', s', cells, q1, q2, q3, q4⟩ := g.wf.dr c e
    exact ⟨c', i', v', s', cells, by rw [upd_ne (fun z => nex (by rw [← z]; exact e))]; exact q1, q2, q3, q4⟩
  · rw [upd_ne (fun z => by rw [z, hp] at e; cases e)]; exact g.kp b u n e
/-- {k1: a, k2: b, k3: c}[d], the keys written texts -/
@[simp] def dMenu3 (k1 k2 k3 : Str) (da db dc dd : DE) : DE := fun δ Φ => da δ fun x => db δ fun y => dc δ fun z => ∃ i j k, x = .int i ∧ y = .int j ∧ z = .int k ∧ ¬ k2 = k1 ∧ ¬ k3 = k1 ∧ ¬ k3 = k2 ∧ dd δ fun t => ∃ s, t = .str s ∧
  ((s = k1 ∧ Φ (.int i)) ∨ (s = k2 ∧ Φ (.int j)) ∨ (s = k3 ∧ Φ (.int k)))
theorem sm_menu3 {k1 k2 k3 : Str} (ha : Sm C f1 ta da) (hb : Sm C f2 tb db) (hc : Sm C f3 tc dc) (hd : Sm C false td dd) : Sm C f (tDGet (tDisp [(tC (.str k1), ta), (tC (.str k2), tb), (tC (.str k3), tc)]) td) (dMenu3 k1 k2 k3 da db dc dd) := fun σ δ H0 H Φ Q s w q => by
  intro p hp
  have gp : Go C H0 H H0 (upd H p (.dK [])) := Go.free s.toWf hp
  have nex := (Go.he s.toWf hp).2
  refine ha σ δ H0 _ _ _ (s.go gp) w fun H01 H1 v x g1 r1 w1 => hb σ δ H01 H1 _ _ ((s.go gp).go g1) w1 fun H02 H2 u y g2 r2 w2 => hc σ δ H02 H2 _ _ (((s.go gp).go g1).go g2) w2 fun H03 H3 t z g3 r3 w3 => ?_
  have g123 := (g1.trans g2).trans g3
  have hk : H3 p = some (.dK []) := g123.kp p _ nex upd_same
  have g0 := gp.trans g123
  have hn : H03 p = none := by
    cases e : H03 p with
    | none => rfl
    | some o =>
      rcases g123.nw p o e with h | h
      · rw [s.toWf.none hp] at h; cases h
      · rw [upd_same] at h; cases h
  obtain ⟨i, j, k, rfl, rfl, rfl, n1, n2, n3, w4⟩ := w3
  cases r1
  cases r2
  cases r3
  have m1 : mergeK [] [((.inr k1 : Key), V.int i), (.inr k2, .int j), (.inr k3, .int k)] = [((.inr k1 : Key), V.int i), (.inr k2, .int j), (.inr k3, .int k)] := by
    simp [mergeK, putK, Ne.symm n1, Ne.symm n2, Ne.symm n3, n1, n2, n3]
  refine ⟨hk, [((.inr k1 : Key), V.int i), (.inr k2, .int j), (.inr k3, .int k)], rfl, by simp, ?_⟩
  rw [m1]
  have g4 := Go.wr (o := .dK [((.inr k1 : Key), V.int i), (.inr k2, .int j), (.inr k3, .int k)]) s.toWf hp g0 hn
  refine hd σ δ H03 _ _ _ (s.go g4) w4 fun H05 H5 v5 x5 g5 r5 ⟨st, e5, p5⟩ => ?_
  subst e5
  cases r5
  have h5 : H5 p = some (.dK [((.inr k1 : Key), V.int i), (.inr k2, .int j), (.inr k3, .int k)]) := g5.kp p _ nex upd_same
  rcases p5 with ⟨rfl, p5⟩ | ⟨rfl, p5⟩ | ⟨rfl, p5⟩
  · refine ⟨p, .int i, rfl, .inl ⟨_, .inr st, .inl h5, rfl, ?_⟩, q _ _ _ _ (g4.trans g5) (.int i) p5⟩
    simp [valV]
  · refine ⟨p, .int j, rfl, .inl ⟨_, .inr st, .inl h5, rfl, ?_⟩, q _ _ _ _ (g4.trans g5) (.int j) p5⟩
    simp [valV, Ne.symm n1]
  · refine ⟨p, .int k, rfl, .inl ⟨_, .inr st, .inl h5, rfl, ?_⟩, q _ _ _ _ (g4.trans g5) (.int k) p5⟩
    simp [valV, Ne.symm n2, Ne.symm n3]
/-- an item of a written dict with text keys -/
def KdL (K : PySem.W.Frag) (w : World) (a : Addr) (L : List (Str × PyData)) : Prop := ∀ k v, (k, v) ∈ L → ∃ u, KDct K w a k u ∧ isScalV u = some v
theorem KdL.nil {K : PySem.W.Frag} {w : World} {a : Addr} : KdL K w a [] := fun _ _ h => nomatch h
theorem KdL.cons {K : PySem.W.Frag} {w : World} {a : Addr} {L : List (Str × PyData)} {k : Str} {v : PyData} {u : V} (h : KDct K w a k u) (e : isScalV u = some v) (t : KdL K w a L) : KdL K w a ((k, v) :: L) := fun k' v' h' => by
  rcases List.mem_cons.mp h' with h' | h'
  · cases h'; exact ⟨u, h, e⟩
  · exact t k' v' h'
theorem kd_i {K : PySem.W.Frag} {w : World} {a : Addr} {es : Array DictEntry} {n : Nat} {k : Str} {i : Int} {t : Tok} (h : K.lookup a = some ⟨.type "dict", none, .dict es n, #[]⟩) (hk : PySem.W.KeysLit w.params es.toList) (e : PySem.W.nsIn K a k = some (some (.int i t))) : KDct K w a k (.int i) := ⟨es, n, _, h, hk, e, ⟨t, rfl⟩⟩
theorem kd_s {K : PySem.W.Frag} {w : World} {a : Addr} {es : Array DictEntry} {n : Nat} {k : Str} {i : Str} {t : Tok} (h : K.lookup a = some ⟨.type "dict", none, .dict es n, #[]⟩) (hk : PySem.W.KeysLit w.params es.toList) (e : PySem.W.nsIn K a k = some (some (.str i t))) : KDct K w a k (.str i) := ⟨es, n, _, h, hk, e, ⟨t, rfl⟩⟩
theorem kx_kdict {X : Cx} {K : PySem.W.Frag} {w : World} (h : X.K = K) (h2 : X.w = w) : IxR X (rIxD K w) := by subst h h2; exact ix_kdict
@[simp] def dKd (L : List (Str × PyData)) (db : DE) : DE := fun δ Φ => db δ fun y => ∃ s v, y = .str s ∧ (s, v) ∈ L ∧ Φ v
theorem sm_kd {w : World} {a : Addr} {L : List (Str × PyData)} {v : V} (hv : v = .ref a) (hL : KdL C.K w a L) (hb : Sm C f1 tb db) : Sm C f (tOp (rIxD C.K w) (tC v) tb) (dKd L db) := fun σ δ H0 H Φ Q s w q =>
  hb σ δ H0 H _ _ s w fun H01 H1 u y g1 r1 ⟨st, z, e, m, p⟩ => by
    subst e
    cases r1
    obtain ⟨z', h1, h2⟩ := hL _ _ m
    exact ⟨a, st, z', hv, rfl, h1, q _ _ _ _ g1 (isScal_rp h2 _) p⟩
/-- a part of a text -/
abbrev DP := Dl → (Option Int → Prop) → Prop
def SmP (C : Ctx) (tp : TO) (dp : DP) : Prop := ∀ (σ : L2.St) (δ : Dl) (H0 H : Hp) (Φ : Option Int → Prop) (Q : Option Int → Hp → Prop), St C H0 H σ δ → dp δ Φ → (∀ H0' H' o, Go C H0 H H0' H' → Φ o → Q o H') → tp σ H Q
@[simp] def pNone : DP := fun _ Φ => Φ none
@[simp] def pSome (da : DE) : DP := fun δ Φ => da δ fun x => ∃ i, x = .int i ∧ Φ (some i)
theorem smp_none : SmP C tNoPart pNone := fun σ δ H0 H Φ Q s w q => q H0 H _ (.refl s.toWf) w
theorem smp_some (ha : Sm C f1 ta da) : SmP C (tPart ta) (pSome da) := fun σ δ H0 H Φ Q s w q =>
  ha σ δ H0 H _ _ s w fun H01 H1 v x g1 r1 ⟨i, e, p⟩ => by
    subst e
    cases r1
    exact ⟨i, rfl, q _ _ _ g1 p⟩
@[simp] def dSlS (da : DE) (dl dh : DP) : DE := fun δ Φ => da δ fun x => dl δ fun l => dh δ fun u => ∃ z, x = .str z ∧ z.length ≤ sizeLine ∧ Φ (.str (cutS z l u))
variable {tl th : TO} {dl dh : DP}
theorem sm_sl_str (ha : Sm C f1 ta da) (hl : SmP C tl dl) (hh : SmP C th dh) : Sm C f (tSl rSlS ta tl th) (dSlS da dl dh) := fun σ δ H0 H Φ Q s w q =>
  ha σ δ H0 H _ _ s w fun H01 H1 v x g1 r1 w1 => hl σ δ H01 H1 _ _ (s.go g1) w1 fun H02 H2 l g2 w2 => hh σ δ H02 H2 _ _ ((s.go g1).go g2) w2 fun H03 H3 u g3 ⟨z, e, hz, p⟩ => by
    subst e
    cases r1
    exact ⟨z, rfl, hz, q _ _ _ _ ((g1.trans g2).trans g3) (.str _) p⟩
end
/-! ### data without dicts, of a bounded depth and length -/
inductive Okd : Nat → PyData → Prop
  | none {n : Nat} : Okd n .none
  | bool {n : Nat} (b : Bool) : Okd n (.bool b)
  | int {n : Nat} (i : Int) : Okd n (.int i)
  | str {n : Nat} {s : Str} (h : PyData.canLay0 (.str s) = true) : Okd n (.str s)
  | list {n : Nat} {xs : List PyData} (h : ∀ y ∈ xs, Okd n y) (hl : xs.length ≤ 1000000) : Okd (n + 1) (.list xs)
  | tuple {n : Nat} {xs : List PyData} (h : ∀ y ∈ xs, Okd n y) (hl : xs.length ≤ 1000000) : Okd (n + 1) (.tuple xs)
theorem Okd.mono {n m : Nat} {x : PyData} (h : Okd n x) (hm : n ≤ m) : Okd m x := by
  induction h generalizing m with
  | none => exact .none
  | bool b => exact .bool b
  | int i => exact .int i
  | str h => exact .str h
  | list h hl ih =>
    obtain ⟨k, rfl⟩ : ∃ k, m = k + 1 := ⟨m - 1, by omega⟩
    exact .list (fun y hy => ih y hy (by omega)) hl
  | tuple h hl ih =>
    obtain ⟨k, rfl⟩ : ∃ k, m = k + 1 := ⟨m - 1, by omega⟩
    exact .tuple (fun y hy => ih y hy (by omega)) hl
theorem depthAll_le {n : Nat} : ∀ {xs : List PyData}, (∀ y ∈ xs, y.depth ≤ n) → PyData.depthAll xs ≤ n
  | [], _ => by rw [PyData.depthAll]; exact Nat.zero_le _
  | x :: xs, h => by
    rw [PyData.depthAll]
    exact Nat.max_le.mpr ⟨h x List.mem_cons_self, depthAll_le fun y hy => h y (List.mem_cons_of_mem _ hy)⟩
theorem layAll_of : ∀ {xs : List PyData}, (∀ y ∈ xs, y.canLay0 = true) → PyData.canLayAll0 xs = true
  | [], _ => by rw [PyData.canLayAll0]
  | x :: xs, h => by
    rw [PyData.canLayAll0, h x List.mem_cons_self, layAll_of fun y hy => h y (List.mem_cons_of_mem _ hy)]
    rfl
theorem Okd.depth {n : Nat} {x : PyData} (h : Okd n x) : x.depth ≤ n := by
  induction h with
  | none => rw [PyData.depth]; exact Nat.zero_le _
  | bool b => rw [PyData.depth]; exact Nat.zero_le _
  | int i => rw [PyData.depth]; exact Nat.zero_le _
  | str h => rw [PyData.depth]; exact Nat.zero_le _
  | list h hl ih => rw [PyData.depth]; exact Nat.succ_le_succ (depthAll_le ih)
  | tuple h hl ih => rw [PyData.depth]; exact Nat.succ_le_succ (depthAll_le ih)
theorem Okd.lay {n : Nat} {x : PyData} (h : Okd n x) : x.canLay0 = true := by
  induction h with
  | none => rw [PyData.canLay0]
  | bool b => rw [PyData.canLay0]
  | int i => rw [PyData.canLay0]
  | str h => exact h
  | list h hl ih => rw [PyData.canLay0]; exact layAll_of ih
  | tuple h hl ih => rw [PyData.canLay0]; exact layAll_of ih
theorem Okd.shaped {n : Nat} {x : PyData} (h : Okd n x) (hn : n ≤ 64) : SeqAt.shaped x = true := by
  unfold SeqAt.shaped
  rw [h.lay, decide_eq_true (Nat.le_trans h.depth hn)]
  rfl
/-! ### texts: a sign in a text, texts joined -/
section
variable {C : Ctx} {f f1 f2 : Bool} {ta tb : TE} {da db : DE}
@[simp] def gInS (neg : Bool) : PyData → PyData → (PyData → Prop) → Prop := fun x y Φ => ∃ (c : Nat) (z : Str), x = .str ⟨#[c]⟩ ∧ y = .str z ∧ Φ (.bool (if neg then !decide (c ∈ z.cps.toList) else decide (c ∈ z.cps.toList)))
theorem opd_inS : OpD C (fun x y H Q => ∃ (c : Nat) (z : Str), x = .str ⟨#[c]⟩ ∧ y = .str z ∧ Q (.bl (decide (c ∈ z.cps.toList))) H) (gInS false) := fun H v u x y Φ Q rv ru ⟨c, z, e1, e2, p⟩ q => by
  subst e1 e2
  cases rv
  cases ru
  exact ⟨c, z, rfl, rfl, q _ _ (fun _ => .bl _) p⟩
theorem opd_niS : OpD C (fun x y H Q => ∃ (c : Nat) (z : Str), x = .str ⟨#[c]⟩ ∧ y = .str z ∧ Q (.bl (!decide (c ∈ z.cps.toList))) H) (gInS true) := fun H v u x y Φ Q rv ru ⟨c, z, e1, e2, p⟩ q => by
  subst e1 e2
  cases rv
  cases ru
  exact ⟨c, z, rfl, rfl, q _ _ (fun _ => .bl _) p⟩
theorem rpa_strs {K : PySem.W.Frag} {H : Hp} : ∀ {vs : List V} {ys : List Str}, RpA K H vs (ys.map .str) → vs = ys.map V.str
  | _, [], .nil => rfl
  | _, y :: ys, .cons h r => by
    cases h
    rw [rpa_strs r]
    rfl
@[simp] def gCatT : PyData → PyData → (PyData → Prop) → Prop := fun x y Φ => ∃ a b, x = .str a ∧ y = .str b ∧ a.length + b.length ≤ sizeLine ∧ Φ (.str (a ++ b))
theorem opd_catS : OpD C (fun x y H Q => ∃ i j, x = V.str i ∧ y = V.str j ∧ i.length + j.length ≤ sizeLine ∧ Q (V.str (i ++ j)) H) gCatT := fun H v u x y Φ Q rv ru ⟨a, b, e1, e2, e3, p⟩ q => by
  subst e1 e2
  cases rv
  cases ru
  exact ⟨a, b, rfl, rfl, e3, q _ _ (fun _ => .str _) p⟩
@[simp] def dJoin (da db : DE) : DE := fun δ Φ => da δ fun x => ∃ a, x = .str a ∧ db δ fun y => ∃ ys : List Str, y = .list (ys.map .str) ∧ (ys.map (·.length)).sum + ys.length * a.length ≤ 16777216 ∧ Φ (.str (Txt.join a ys))
theorem sm_join (ha : Sm C f1 ta da) (hb : Sm C f2 tb db) : Sm C f (tM1 (fun x xs H Q => ∃ a p, ∃ ys : List Str, x = V.str a ∧ xs = [V.ref p] ∧ (SqL C.K H p (ys.map V.str) ∨ SqT C.K H p (ys.map V.str)) ∧ (ys.map (fun x => x.length)).sum + ys.length * a.length ≤ 16777216 ∧ Q (V.str (Txt.join a ys)) H) ta tb) (dJoin da db) := fun σ δ H0 H Φ Q s w q =>
  ha σ δ H0 H _ _ s w fun H01 H1 v x g1 r1 ⟨a, e, w1⟩ => by
    subst e
    cases r1
    refine ⟨⟨a, rfl⟩, hb σ δ H01 H1 _ _ (s.go g1) w1 fun H02 H2 u y g2 r2 ⟨ys, e, hl, p⟩ => ?_⟩
    subst e
    cases r2 with
    | lst h r =>
      have e := rpa_strs r
      subst e
      exact ⟨a, _, ys, rfl, rfl, .inl (SqL.of (g2.wf.loc _ _ h)), hl, q _ _ _ _ (g1.trans g2) (.str _) p⟩
end
/-! ### a part of a list, as a new list -/
section
variable {C : Ctx} {f f1 f2 : Bool} {ta tb : TE} {da db : DE} {tl th : TO} {dl dh : DP}
def cutDt (xs : List PyData) (lo hi : Option Int) : List PyData := List.take (HT.sIx xs.length xs.length hi - HT.sIx xs.length 0 lo) (List.drop (HT.sIx xs.length 0 lo) xs)
theorem rpa_drop {K : PySem.W.Frag} {H : Hp} : ∀ (n : Nat) {vs : List V} {xs : List PyData}, RpA K H vs xs → RpA K H (vs.drop n) (xs.drop n)
  | 0, _, _, h => h
  | n + 1, _, _, .nil => by rw [List.drop_nil, List.drop_nil]; exact .nil
  | n + 1, _, _, .cons _ r => rpa_drop n r
theorem rpa_take {K : PySem.W.Frag} {H : Hp} : ∀ (n : Nat) {vs : List V} {xs : List PyData}, RpA K H vs xs → RpA K H (vs.take n) (xs.take n)
  | 0, _, _, _ => .nil
  | n + 1, _, _, .nil => .nil
  | n + 1, _, _, .cons h r => .cons h (rpa_take n r)
theorem rpa_cut {K : PySem.W.Frag} {H : Hp} {vs : List V} {xs : List PyData} (r : RpA K H vs xs) (lo hi : Option Int) : RpA K H (cutV vs lo hi) (cutDt xs lo hi) := by
  unfold cutV cutDt
  rw [r.length]
  exact rpa_take _ (rpa_drop _ r)
@[simp] def oSlice (da : DE) (dl dh : DP) : DO := fun δ Φ => da δ fun x => dl δ fun l => dh δ fun u => ∃ xs, x = .list xs ∧ Φ (cutDt xs l u)
theorem smo_slice (ha : Sm C true ta da) (hl : SmP C tl dl) (hh : SmP C th dh) : SmO C (tSl (rSlL C.K) ta tl th) (oSlice da dl dh) := fun σ δ H0 H Φ Q s w q =>
  ha σ δ H0 H _ _ s w fun H01 H1 v x g1 r1 w1 => hl σ δ H01 H1 _ _ (s.go g1) w1 fun H02 H2 l g2 w2 => hh σ δ H02 H2 _ _ ((s.go g1).go g2) w2 fun H03 H3 u g3 ⟨xs, e, p⟩ => by
    subst e
    have r3 := (r1.mono g2.fz).mono g3.fz
    cases r3 with
    | @lst a1 us1 _ h r =>
      refine ⟨_, us1, rfl, SqL.of (g3.wf.sub _ _ h), fun l' hl' => ?_⟩
      exact q _ _ l' _ _ (((g1.trans g2).trans g3).trans (Go.free (o := .lst _) g3.wf hl')) (((g1.trans g2).trans g3).fresh hl') (g3.wf.none hl') upd_same (rpa_cut r _ _) p
end
/-! ### the least and the greatest of a list of numbers; a number as a test -/
section
variable {C : Ctx} {f f1 f2 : Bool} {ta tb : TE} {da db : DE}
theorem rpa_ints {K : PySem.W.Frag} {H : Hp} : ∀ {vs : List V} {ns : List Int}, RpA K H vs (ns.map .int) → vs = ns.map V.int
  | _, [], .nil => rfl
  | _, n :: ns, .cons h r => by
    cases h
    rw [rpa_ints r]
    rfl
@[simp] def gMinL : List PyData → (PyData → Prop) → Prop := fun xs Φ => ∃ ns : List Int, xs = [.list (ns.map .int)] ∧ 0 < ns.length ∧ ∀ m ∈ ns, (∀ y ∈ ns, m ≤ y) → Φ (.int m)
@[simp] def gMaxL : List PyData → (PyData → Prop) → Prop := fun xs Φ => ∃ ns : List Int, xs = [.list (ns.map .int)] ∧ 0 < ns.length ∧ ∀ m ∈ ns, (∀ y ∈ ns, y ≤ m) → Φ (.int m)
theorem cbd_minL : CbD C (rMin C.K) gMinL := fun H vs xs Φ Q r ⟨ns, e, hl, p⟩ q => by
  subst e
  cases r with
  | cons h n =>
    cases n
    cases h with
    | lst h r =>
      have e := rpa_ints r
      subst e
      exact ⟨_, ns, rfl, SqL.of h, hl, fun m hm hle => q _ _ (fun _ => .int _) (p m hm hle)⟩
theorem cbd_maxL : CbD C (rMax C.K) gMaxL := fun H vs xs Φ Q r ⟨ns, e, hl, p⟩ q => by
  subst e
  cases r with
  | cons h n =>
    cases n
    cases h with
    | lst h r =>
      have e := rpa_ints r
      subst e
      exact ⟨_, ns, rfl, SqL.of h, hl, fun m hm hle => q _ _ (fun _ => .int _) (p m hm hle)⟩
@[simp] def dTru (da : DE) : DT := fun δ Φ => da δ fun x => ∃ i : Int, x = .int i ∧ Φ (i != 0)
theorem smt_tru (ha : Sm C f1 ta da) : SmT C (fun σ H Q => ta σ H fun x H' => ∃ k, TruV C.K x H' k ∧ Q k H') (dTru da) := fun σ δ H0 H Φ Q s w q =>
  ha σ δ H0 H _ _ s w fun H01 H1 v x g1 r1 ⟨i, e, w1⟩ => by
    subst e
    cases r1
    exact ⟨_, rfl, q _ _ _ g1 w1⟩
end
/-! ### any and all of a list of booleans; the bits of a number -/
section
variable {C : Ctx} {f f1 f2 : Bool} {ta tb : TE} {da db : DE}
theorem rpa_bools {K : PySem.W.Frag} {H : Hp} : ∀ {vs : List V} {bs : List Bool}, RpA K H vs (bs.map .bool) → vs = bs.map V.bl
  | _, [], .nil => rfl
  | _, n :: ns, .cons h r => by
    cases h
    rw [rpa_bools r]
    rfl
@[simp] def gAnyL : List PyData → (PyData → Prop) → Prop := fun xs Φ => ∃ bs : List Bool, xs = [.list (bs.map .bool)] ∧ Φ (.bool (bs.any id))
@[simp] def gAllL : List PyData → (PyData → Prop) → Prop := fun xs Φ => ∃ bs : List Bool, xs = [.list (bs.map .bool)] ∧ Φ (.bool (bs.all id))
theorem cbd_any : CbD C (rAny C.K) gAnyL := fun H vs xs Φ Q r ⟨bs, e, p⟩ q => by
  subst e
  cases r with
  | cons h n =>
    cases n
    cases h with
    | lst h r =>
      have e := rpa_bools r
      subst e
      exact ⟨_, bs, rfl, SqL.of h, q _ _ (fun _ => .bl _) p⟩
theorem cbd_all : CbD C (rAll C.K) gAllL := fun H vs xs Φ Q r ⟨bs, e, p⟩ q => by
  subst e
  cases r with
  | cons h n =>
    cases n
    cases h with
    | lst h r =>
      have e := rpa_bools r
      subst e
      exact ⟨_, bs, rfl, SqL.of h, q _ _ (fun _ => .bl _) p⟩
theorem sm_bits (ha : Sm C f1 ta da) : Sm C f (fun σ H Q => ta σ H fun x H1 => ∃ i, x = V.int i ∧ Q (V.int (Builtin.Int.intBits i : Nat)) H1) (dUn (fun i => .int (Builtin.Int.intBits i : Nat)) da) := fun σ δ H0 H Φ Q s w q =>
  ha σ δ H0 H _ _ s w fun H01 H1 v x g1 r1 ⟨i, e, p⟩ => by
    subst e
    cases r1
    exact ⟨i, rfl, q H01 H1 _ _ g1 (.int _) p⟩
end
/-! ### a number or-ed, and-ed in place -/
theorem ip_orI {X : Cx} : PIp X .BitOr (ipI fun i j => Builtin.bitOr i j) := fun pins s σ H x y v u Q inv rx ry ⟨i, j, e1, e2, q⟩ => by
  subst e1 e2
  obtain ⟨t, rfl⟩ := rx
  obtain ⟨t', rfl⟩ := ry
  exact PyProof.Rows.ior_int ⟨.int _, H, inv.tok _, ⟨_, rfl⟩, q⟩
theorem ip_andI {X : Cx} : PIp X .BitAnd (ipI fun i j => Builtin.bitAnd i j) := fun pins s σ H x y v u Q inv rx ry ⟨i, j, e1, e2, q⟩ => by
  subst e1 e2
  obtain ⟨t, rfl⟩ := rx
  obtain ⟨t', rfl⟩ := ry
  exact PyProof.Rows.iand_int ⟨.int _, H, inv.tok _, ⟨_, rfl⟩, q⟩
/-! ### enumerate over a tuple -/
def IteT (K : PySem.W.Frag) (a : Addr) : It := { go := fun i H => ∃ xs x, SqT K H a xs ∧ xs[i]? = some x, yld := fun i H v H' => ∃ T x, v = .ref T ∧ H T = none ∧ H' = upd H T (.tup [.int (i : Int), x]) ∧ ∀ xs, SqT K H a xs → xs[i]? = some x, stop := fun i H => ∃ xs, SqT K H a xs ∧ xs.length = i }
theorem paired_len {α β : Type} {F : α → β → Prop} : ∀ {xs : List α} {ys : List β}, Paired F xs ys → xs.length = ys.length
  | _, _, .nil => rfl
  | _, _, .cons _ r => congrArg Nat.succ (paired_len r)
theorem turn_enumT {P : Program} {w : World} {K : PySem.W.Frag} {elts : List Expr} {kk : Nat} {tpos : Pos} (a e it : Addr) : Turn P w K (Expr.Tuple elts kk tpos) (IteT K a) [e, it] e fun i h => (∃ old, IsEnum h e it (i : Int) old) ∧ h.IsTupleIter it a i ∧ e ≠ it ∧ a ≠ it ∧ e ≠ a := by
  refine ⟨by simp, ?_, ?_, ?_, ?_, ?_⟩
  · rintro i h ⟨⟨old, h1⟩, ⟨o, h2, h3, h4⟩, _⟩ b hb
    simp at hb
    rcases hb with rfl | rfl
    · exact ⟨_, h1, fun v q => by cases q⟩
    · exact ⟨o, h2, fun v q => by rw [h4] at q; cases q⟩
  · rintro i h h' ⟨⟨old, h1⟩, ⟨o, h2, h3, h4⟩, h5⟩ hk
    exact ⟨⟨old, hk e (by simp) _ h1⟩, ⟨o, hk it (by simp) _ h2, h3, h4⟩, h5⟩
  · rintro X rfl rfl rfl hcalm i pins s σ H E inv fp ⟨⟨old, h1⟩, h2, n1, n2, n3⟩ ⟨xs, x, hx, hi⟩
    obtain ⟨its, hv, ht, hl⟩ := inv.tuple hx
    obtain ⟨u, hu, ru⟩ := hv.get hi
    have hlt : i < its.length := (List.getElem?_eq_some_iff.mp hu).1
    have h2b := h2
    obtain ⟨oi, hoi, _⟩ := h2b
    have le : e < s.heap.objs.size := Heap.lt_size h1
    have li : it < s.heap.objs.size := Heap.lt_size hoi
    refine wpAny_pyNext_enum_itemD (Draws.tuple (A := X.A.in1) (inv.ok.hd hcalm) it a n2 its.toArray) h1 ⟨h2, ht⟩ hlt n1 (by simp [n1, n3]) fun x' h' tk hp ho hst htup hsz hpres => ?_
    refine ⟨_, rfl, ?_⟩
    refine wpAny_letOwnedTupleGo_enum ho fun h'' hen hsame => ?_
    have hT : H s.heap.objs.size = none := inv.hok.fresh (Nat.le_refl _)
    have e1 : x' = u := by
      have : its[i]? = some x' := by simpa using hp
      rw [hu] at this
      exact (Option.some.inj this).symm
    subst e1
    have neT : s.heap.objs.size ≠ e := fun q => absurd le (by rw [← q]; exact Nat.lt_irrefl _)
    have niT : s.heap.objs.size ≠ it := fun q => absurd li (by rw [← q]; exact Nat.lt_irrefl _)
    refine ⟨.ref s.heap.objs.size, upd H s.heap.objs.size (.tup [.int (i : Int), x]), ?_, rfl, ⟨_, x, rfl, hT, rfl, fun ys hy => by rw [inv.tuple_inj hy hx]; exact hi⟩, ⟨⟨x', hen⟩, ?_, n1, n2, n3⟩, fun b hb => ?_⟩
    · refine Inv.turnedNew (s := s) (t' := tk + 1) (ch := [e, it]) inv (fun b o hb hg => ?_) fp (Nat.le_refl _) ?_
      · simp at hb
        rw [hsame.2 b hb.1]
        exact hpres b o hb.1 hb.2 hg
      · exact ⟨show 2 ≤ sizeLine by decide, [Value.int (i : Int) tk, x'], .cons ⟨tk, rfl⟩ (.cons ru .nil), _, (by rw [hsame.2 _ neT]; exact htup), rfl, _, rfl⟩
    · obtain ⟨o, o1, o2⟩ := hst.1
      exact ⟨o, by rw [hsame.2 it n1.symm]; exact o1, o2⟩
    · simp at hb
      rcases hb with rfl | rfl
      · rw [upd_ne neT.symm]; exact (fp b (by simp)).1
      · rw [upd_ne niT.symm]; exact (fp b (by simp)).1
  · rintro X rfl rfl rfl hcalm i pins s σ H E inv fp ⟨⟨old, h1⟩, h2, n1, n2, n3⟩ ⟨xs, hx, hi⟩
    obtain ⟨its, hv, ht, hl⟩ := inv.tuple hx
    have hn : its.toArray.size = i := by
      rw [List.size_toArray, ← paired_len hv]
      exact hi
    subst hn
    refine wpAny_pyNext_enum_endD (Draws.tuple (A := X.A.in1) (inv.ok.hd hcalm) it a n2 its.toArray) h1 ⟨h2, ht⟩ fun h' hext => ⟨rfl, ?_⟩
    obtain ⟨f1, f2, f3, f4, f5, f6⟩ := fp it (by simp)
    exact Inv.turned inv hext f1 f2 f4 f5 f6
  · rintro A i s Q E ⟨⟨old, h1⟩, h2⟩ hq
    exact wpAny_pyIter_enum h1 hq
theorem newc (v : Value) : Builtin.SmallTypes.newClass "enumerate" { pos := [Value.type "enumerate", v] } = pure (Value.type "enumerate", [v]) := by
  unfold Builtin.SmallTypes.newClass
  show (do let a ← isSubtype (Value.type "enumerate") (Value.type "enumerate"); _) = _
  rw [sub_enumerate]
  rfl
theorem wp_ite {M : Model} {A : Around} {α : Type} {E : Value → Shared → Prop} {s : Shared} {Q : α → Shared → Prop} {c : Prop} {d : Decidable c} {t u : Sem α} (h1 : wpAny M A t Q E s) (h2 : wpAny M A u Q E s) : wpAny M A (@ite _ c d t u) Q E s := by
  split
  · exact h1
  · exact h2
theorem wp_else {M : Model} {A : Around} {α : Type} {E : Value → Shared → Prop} {s : Shared} {Q : α → Shared → Prop} {c : Prop} {d : Decidable c} {t u : Sem α} (h : ¬ c) (h2 : wpAny M A u Q E s) : wpAny M A (@ite _ c d t u) Q E s := by
  rw [if_neg h]
  exact h2
theorem meets_enum1 {v : Value} {o : Obj} {H : Heap → Prop} (hb : Begins v o H) : Meets (Builtin.«enumerate.__new__» { pos := [Value.type "enumerate", v] }) (fun A R s => H s.heap ∧ R (.ok (.ret (Value.ref (s.heap.push o).objs.size))) { heap := (s.heap.push o).push { cls := Value.type "enumerate", data := Data.fields #[Value.none, Value.bool false, Value.ref s.heap.objs.size, rawInt 0, Value.none, Value.none] }, gens := s.gens, drawn := s.drawn, toks := s.toks, os := s.os }) := by
  refine Meets.of_wp fun prog w A R s h => ?_
  obtain ⟨hh, hr⟩ := h
  unfold Builtin.«enumerate.__new__»
  refine wpAny_bind ?_
  refine wpAny_of_eq (newc v) ?_
  dsimp only
  rw [if_pos (by decide)]
  refine wpAny_bind ?_
  unfold Builtin.SmallTypes.calledThroughType
  refine wpAny_bind ?_
  refine wpAny_stack_any fun st => ?_
  refine wpAny_pure ?_
  have fin : wpAny (model prog w) A.in1 (do
      let i ← pyIter v
      let r ← Builtin.SmallTypes.newRecord (Value.type "enumerate") (Builtin.SmallTypes.ownedTupleFields ++ [i, rawInt 0, Value.none, Value.none])
      ret r) (fun fin s' => ∃ v, fin = Fin.done (Flow.ret v) ∧ R (Except.ok (Flow.ret v)) s') (fun e s' => R (Except.error e) s') s := by
    refine wpAny_bind ?_
    refine hb.iter prog w A.in1 _ s _ hh ?_
    refine wpAny_bind ?_
    unfold Builtin.SmallTypes.newRecord
    dsimp only
    unfold newObj
    dsimp only
    refine wp_else (show ¬ 6 > sizeLine + 2 by decide) ?_
    unfold newObjAsIs
    refine wpAny_bind ?_
    refine wpAny_alloc' ?_
    refine wpAny_pure ?_
    exact wpAny_pure ⟨_, rfl, hr⟩
  refine wp_ite ?_ ?_
  · refine wpAny_bind ?_
    refine wpAny_of_eq (a := (v, none)) rfl ?_
    exact fin
  · refine wpAny_bind ?_
    refine wpAny_of_eq (a := (v, none)) rfl ?_
    exact fin

theorem call_enum1 {prog : Program} {w : World} {A : Around} {E : Value → Shared → Prop} {s : Shared} {v : Value} {o : Obj} {H : Heap → Prop} {Q : Value → Shared → Prop} (hb : Begins v o H) (hh : H s.heap)
    (hq : ∀ (h' : Heap), IsEnum h' (s.heap.objs.size + 1) s.heap.objs.size 0 Value.none → h'.get? s.heap.objs.size = some o → h'.objs.size = s.heap.objs.size + 2 → (∀ (b : Addr) (o : Obj), s.heap.get? b = some o → h'.get? b = some o) → Q (Value.ref (s.heap.objs.size + 1)) { heap := h', gens := s.gens, drawn := s.drawn, toks := s.toks, os := s.os }) :
    wpAny (model prog w) A (call (Value.type "enumerate") [v]) Q E s := by
  refine callType_new F.called_enumerate (by decide) (F.typeCall_enumerate_1 _) (F.newCall_enumerate_1 _) (fun obj => F.args_object_init_2 _ _) F.entry_enumerate_new (meets_enum1 hb) ⟨hh, ?_⟩
  have e1 : (s.heap.push o).objs.size = s.heap.objs.size + 1 := Heap.size_push _ _
  have g1 : (s.heap.push o).get? s.heap.objs.size = some o := Heap.get?_push_size _ hb.free
  have g2 := Heap.get?_push_size (s.heap.push o) (o := { cls := Value.type "enumerate", data := Data.fields #[Value.none, Value.bool false, Value.ref s.heap.objs.size, rawInt 0, Value.none, Value.none] }) rfl
  refine ⟨⟨_, g2, rfl⟩, ?_⟩
  rw [e1] at g2 ⊢
  refine hq _ g2 (Heap.get?_push_of_some _ g1) ?_ (fun b o' h => Heap.get?_push_of_some _ (Heap.get?_push_of_some _ h))
  rw [Heap.size_push, e1]

def iEnumT : PySem.W.Frag → TA → TI := fun K ta σ H R => ta σ H fun vs H1 => ∃ a xs, vs = [V.ref a] ∧ SqT K H1 a xs ∧ R (IteT K a) H1
theorem pi_enumT {X : Cx} {e : Expr} {ta : TA} {p pos tpos : Pos} {elts : List Expr} {kk : Nat} (hg : Gl X "enumerate") (hm : X.mg "enumerate" = none) (ha : PA X [e] ta) (hs : starEach [e] X.env = [(false, eval e X.env)] := by rfl) : PI X (Expr.Tuple elts kk tpos) ((Expr.Name "enumerate" p).Call [e] [] pos) (iEnumT X.K ta) := ⟨fun pins s σ H R inv h => by
  refine PyProof.Rows.Call_ (ld_blt inv hg hm PyProof.Rows.boot_enumerate ?_)
  refine PyProof.Rows.callWith_type1 (thn (ha.run pos pins s σ H _ inv h) fun us s1 ap => ?_) (by rw [hs]; rfl)
  obtain ⟨vs, H1, inv1, hv, a, xs, rfl, hx, hr⟩ := ap
  cases hv with
  | cons r n =>
    cases n
    obtain rfl := r
    obtain ⟨its, hv2, ht, hl⟩ := inv1.tuple hx
    have ht2 := ht
    obtain ⟨oa, hoa, _⟩ := ht2
    have la := Heap.lt_size hoa
    refine call_enum1 (begins_tuple a its.toArray) ht fun h' h1 h2 h3 h4 => ?_
    refine wpAny_pyIter_enum h1 ?_
    have na : a ≠ s1.heap.objs.size := fun q => absurd la (by rw [q]; exact Nat.lt_irrefl _)
    have ne : s1.heap.objs.size + 1 ≠ a := fun q => absurd la (by rw [← q]; exact Nat.not_lt.mpr (Nat.le_succ _))
    refine ⟨_, [s1.heap.objs.size + 1, s1.heap.objs.size], _, IteT X.K a, H1, rfl, inv1.kept (t' := s1.toks) h4, turn_enumT a (s1.heap.objs.size + 1) s1.heap.objs.size, ⟨⟨_, h1⟩, ⟨_, h2, rfl, rfl⟩, Nat.succ_ne_self _, na, ne⟩, fun b hb => ?_, hr⟩
    simp at hb
    have hle : s1.heap.objs.size ≤ b := by
      rcases hb with rfl | rfl
      · exact Nat.le_succ _
      · exact Nat.le_refl _
    exact inv1.fpOk hle (inv1.hok.fresh hle)⟩

section
variable {C : Ctx} {ta : TE} {da : DE}
@[simp] def iEnT (da : DE) : DI := fun δ Φ => da δ fun x => ∃ xs, x = .tuple xs ∧ Φ (enumD xs)
theorem smi_enumT (ha : Sm C true ta da) : SmI C (iEnumT C.K (tCons ta tNil)) (iEnT da) := fun σ δ H0 H Φ R s w q =>
  ha σ δ H0 H _ _ s w fun H01 H1 v x g1 r1 ⟨xs, e, p⟩ => by
    subst e
    cases r1 with
    | @tup a us _ h r =>
      refine ⟨a, us, rfl, same_t g1.wf.sub h, q _ _ _ _ g1 ⟨fun H0' H' i e w hi => ?_, fun H0' H' i e w hi => ?_, fun H0' H' i v H'' e w hi y => ?_⟩ p⟩
      · rw [enumD_len] at hi
        exact ⟨us, same_t w.sub (same_t e h), r.length.trans hi⟩
      · rw [enumD_len] at hi
        obtain ⟨y, hy⟩ := get_lt hi
        obtain ⟨v, h1, h2⟩ := r.get hy
        exact ⟨us, v, same_t w.sub (same_t e h), h1⟩
      · rw [enumD_len] at hi
        obtain ⟨T, z, rfl, hT, rfl, y⟩ := y
        have y := y us (same_t w.sub (same_t e h))
        obtain ⟨d, hd, rd⟩ := r.get' y
        obtain ⟨H0'', g, r2⟩ := tup_new w hT (.cons (.int (i : Int)) (.cons (rd.mono e) .nil))
        exact ⟨H0'', _, g, enumD_get hd, r2⟩
end
end VL

/-! More rules of the layer: texts by their letters, tuples added and cut, comprehensions with any target. -/
namespace VL
open PySem L2
theorem ofStr_inj_h {a b : String} (h : Str.ofString a = Str.ofString b) : a = b := by
  rw [Str.ofString_eq_toList, Str.ofString_eq_toList] at h
  have h1 := congrArg Str.cps h
  have h2 : a.toList.map Char.toNat = b.toList.map Char.toNat := by
    have := congrArg Array.toList h1
    simpa using this
  have h3 : a.toList = b.toList := by
    exact (List.map_inj_right (fun x y e => Char.ext (UInt32.toNat_inj.mp e))).mp h2
  exact String.toList_inj.mp h3
@[simp] theorem ofStr_inj (a b : String) : (Str.ofString a = Str.ofString b) = (a = b) := propext ⟨ofStr_inj_h, fun h => by rw [h]⟩
section
variable {C : Ctx} {f f1 f2 : Bool} {ta tb : TE} {da db : DE} {tl th : TO} {dl dh : DP}
/-! ### tuples added, a part of a tuple -/
theorem kx_catA {X : Cx} {K : PySem.W.Frag} (h : X.K = K) : OpR X (binaryOp .Add) (rCatA K) := by subst h; exact op_catA
theorem kx_slTA {X : Cx} {K : PySem.W.Frag} (h : X.K = K) : SlR X (rSlA K) := by subst h; exact sl_tupA
@[simp] def dCatA (da db : DE) : DE := fun δ Φ => da δ fun x => db δ fun y => ∃ xs ys, x = .tuple xs ∧ y = .tuple ys ∧ xs.length + ys.length ≤ sizeLine ∧ Φ (.tuple (xs ++ ys))
theorem sm_catA (ha : Sm C true ta da) (hb : Sm C true tb db) : Sm C f (tOp (rCatA C.K) ta tb) (dCatA da db) := fun σ δ H0 H Φ Q s w q =>
  ha σ δ H0 H _ _ s w fun H01 H1 v x g1 r1 w1 => hb σ δ H01 H1 _ _ (s.go g1) w1 fun H02 H2 u y g2 r2 ⟨xs, ys, e1, e2, e3, pp⟩ => by
    subst e1 e2
    have r3 := r1.mono g2.fz
    cases r3 with
    | @tup a1 us1 _ h r =>
      cases r2 with
      | @tup a2 us2 _ h' r' =>
        refine ⟨a1, a2, us1, us2, rfl, rfl, same_t g2.wf.sub h, same_t g2.wf.sub h', by rw [r.length, r'.length]; exact e3, fun z => ?_, fun z1 z2 => ?_, fun z1 z2 p hp => ?_⟩
        · subst z
          cases r
          exact q _ _ _ _ (g1.trans g2) (Rp.mono g2.wf.to (.tup h' r')) pp
        · subst z2
          cases r'
          rw [List.append_nil] at pp
          exact q _ _ _ _ (g1.trans g2) (Rp.mono g2.wf.to (.tup h r)) pp
        · have g3 := Go.new (o := .tup (us1 ++ us2)) g2.wf hp
          exact q _ _ _ _ ((g1.trans g2).trans g3) (Rp.mono g3.wf.to (.tup (SqT.of upd_same) ((r.append r').mono (Go.same_new (g2.wf.none hp))))) pp
theorem cutDt_whole {xs : List PyData} {lo hi : Option Int} (h : HT.sIx xs.length 0 lo = 0 ∧ HT.sIx xs.length xs.length hi = xs.length) : cutDt xs lo hi = xs := by
  unfold cutDt
  rw [h.1, h.2, List.drop_zero, Nat.sub_zero, List.take_length]
@[simp] def dSlT (da : DE) (dl dh : DP) : DE := fun δ Φ => da δ fun x => dl δ fun l => dh δ fun u => ∃ xs, x = .tuple xs ∧ Φ (.tuple (cutDt xs l u))
theorem sm_sl_tupA (ha : Sm C true ta da) (hl : SmP C tl dl) (hh : SmP C th dh) : Sm C f (tSl (rSlA C.K) ta tl th) (dSlT da dl dh) := fun σ δ H0 H Φ Q s w q =>
  ha σ δ H0 H _ _ s w fun H01 H1 v x g1 r1 w1 => hl σ δ H01 H1 _ _ (s.go g1) w1 fun H02 H2 l g2 w2 => hh σ δ H02 H2 _ _ ((s.go g1).go g2) w2 fun H03 H3 u g3 ⟨xs, e, p⟩ => by
    subst e
    have r3 := (r1.mono g2.fz).mono g3.fz
    cases r3 with
    | @tup a1 us1 _ h r =>
      have g123 := (g1.trans g2).trans g3
      refine ⟨a1, us1, rfl, same_t g3.wf.sub h, fun z => ?_, fun z p' hp => ?_⟩
      · rw [r.length] at z
        rw [cutDt_whole z] at p
        exact q _ _ _ _ g123 (Rp.mono g3.wf.to (.tup h r)) p
      · have g4 := Go.new (o := .tup (cutV us1 l u)) g3.wf hp
        exact q _ _ _ _ (g123.trans g4) (Rp.mono g4.wf.to (.tup (SqT.of upd_same) ((rpa_cut r l u).mono (Go.same_new (g3.wf.none hp))))) p
end
/-! ### comprehensions with any target of names -/
theorem wipe_set_out {σ : L2.St} {i : Nat} {x : Option V} : ∀ {vs : List Nat}, i ∉ vs → wipe (σ.set i x) vs = (wipe σ vs).set i x
  | [], _ => rfl
  | v :: vs, h => by
    rw [List.mem_cons, not_or] at h
    show (wipe (σ.set i x) vs).set v none = ((wipe σ vs).set v none).set i x
    rw [wipe_set_out h.2, List.set_comm _ _ h.1]
theorem wipe_set_in {σ : L2.St} {i : Nat} {x : Option V} : ∀ {vs : List Nat}, i ∈ vs → wipe (σ.set i x) vs = wipe σ vs
  | v :: vs, h => by
    show (wipe (σ.set i x) vs).set v none = (wipe σ vs).set v none
    by_cases k : i ∈ vs
    · rw [wipe_set_in k]
    · have e : i = v := by
        rcases List.mem_cons.mp h with h | h
        · exact h
        · exact absurd h k
      subst e
      rw [wipe_set_out k, List.set_set]
theorem wipe_wipe {σ : L2.St} : ∀ {vs : List Nat}, wipe (wipe σ vs) vs = wipe σ vs
  | [] => rfl
  | v :: vs => by
    show (wipe ((wipe σ vs).set v none) vs).set v none = (wipe σ vs).set v none
    by_cases k : v ∈ vs
    · rw [wipe_set_in k, wipe_wipe]
    · rw [wipe_set_out k, wipe_wipe, List.set_set]
def dwipe (δ : Dl) : List Nat → Dl
  | [] => δ
  | v :: vs => (dwipe δ vs).set v none
@[simp] theorem dwipe_nil (δ : Dl) : dwipe δ [] = δ := rfl
@[simp] theorem dwipe_cons (δ : Dl) (v : Nat) (vs : List Nat) : dwipe δ (v :: vs) = (dwipe δ vs).set v none := rfl
theorem St.wipe {C : Ctx} {H0 H : Hp} {σ : L2.St} {δ : Dl} (s : St C H0 H σ δ) : ∀ vs : List Nat, St C H0 H (L2.wipe σ vs) (dwipe δ vs)
  | [] => s
  | v :: vs => (St.wipe s vs).none v
def Kps (own : List Nat) (g : TG) : Prop := ∀ v σ H Q, g v σ H Q → g v σ H fun σ' H' => wipe σ' own = wipe σ own ∧ Q σ' H'
def KpsS (own : List Nat) (g : TGs) : Prop := ∀ v σ H Q, g v σ H Q → g v σ H fun σ' H' => wipe σ' own = wipe σ own ∧ Q σ' H'
theorem kps_name {own : List Nat} {i : Nat} (h : i ∈ own) : Kps own (gName i) := fun v σ H Q q => ⟨wipe_set_in h, q⟩
theorem kps_nil {own : List Nat} : KpsS own gNil := fun v σ H Q ⟨e, q⟩ => ⟨e, rfl, q⟩
theorem gcons_mono {t : TG} {u : TGs} {vs : List V} {σ : L2.St} {H : Hp} {Q : L2.St → Hp → Prop} : gCons t u vs σ H Q ↔ ∃ v r, vs = v :: r ∧ t v σ H fun σ' H' => u r σ' H' Q := Iff.rfl
theorem kps_cons {own : List Nat} {i : Nat} {gs : TGs} (h : i ∈ own) (k : KpsS own gs) : KpsS own (gCons (gName i) gs) := fun vs σ H Q ⟨v, r, e, q⟩ => by
  refine ⟨v, r, e, ?_⟩
  have := k r (σ.set i (some v)) H Q q
  rw [wipe_set_in h] at this
  exact this
theorem kps_tup {own : List Nat} {K : PySem.W.Frag} {n : Nat} {gs : TGs} (k : KpsS own gs) : Kps own (gTup K n gs) := fun v σ H Q ⟨a, xs, e, h, hl, q⟩ => ⟨a, xs, e, h, hl, k xs σ H Q q⟩
def oLcG (di : DI) (own : List Nat) (dg : DG) (dt : DT) (de : DE) : DO := fun δ Φ => di δ fun xs => ∃ I : Nat → List PyData → Prop, I 0 [] ∧
  (∀ k y acc, xs[k]? = some y → I k acc → dg y (dwipe δ own) fun δ' => dt δ' fun b => if b = true then de δ' fun z => acc.length < sizeLine ∧ I (k + 1) (acc ++ [z]) else I (k + 1) acc) ∧ ∀ acc, I xs.length acc → Φ acc
section
variable {C : Ctx} {te : TE} {de : DE} {tt : TT} {dt : DT} {g : TG} {dg : DG} {ti : TI} {di : DI}
theorem smo_lcG {own : List Nat} (hk : Kps own g) (hi : SmI C ti di) (hg : SmG C g dg) (ht : SmT C tt dt) (he : Sm C true te de) : SmO C (tLc ti g tt te own) (oLcG di own dg dt de) := fun σ δ H0 H Φ Q s w q =>
  hi σ δ H0 H _ _ s w fun H01 H1 J xs g1 wk ⟨I, i0, it, ie⟩ D hD => by
    have hD0 : H D = none := g1.fresh hD
    refine ⟨fun k m H' => m = xs.length - k ∧ k ≤ xs.length ∧ ∃ H0' us acc, Go C H01 H1 H0' H' ∧ H0' D = none ∧ H' D = some (.lst us) ∧ RpA C.K H0' us acc ∧ I k acc, ⟨_, rfl, Nat.zero_le _, H01, [], [], Go.free g1.wf hD, g1.wf.none hD, upd_same, .nil, i0⟩, ?_⟩
    rintro k m H' ⟨rfl, hk', H0', us, acc, g2, hn, hl, r, p⟩
    have nex : C.ex ≠ some D := (Go.he g1.wf hD).2
    by_cases hlt : k < xs.length
    · refine .inr ⟨wk.go H0' H' k g2.fz g2.wf hlt, fun H3 => ∃ H0' us acc, Go C H01 H1 H0' H3 ∧ H0' D = none ∧ H3 D = some (.lst us) ∧ RpA C.K H0' us acc ∧ I (k + 1) acc, fun H3 h => ⟨_, by omega, rfl, hlt, h⟩, fun v H'' y => ?_⟩
      obtain ⟨H02, z, g3, hz, rz⟩ := wk.yld H0' H' k v H'' g2.fz g2.wf hlt y
      have g23 := g2.trans g3
      have keep : ∀ {A B : Hp}, Go C H02 H'' A B → A D = none ∧ B D = some (.lst us) := fun {A B} gg => by
        have h1 : B D = some (.lst us) := gg.kp D _ nex (g3.kp D _ nex hl)
        refine ⟨?_, h1⟩
        cases e : A D with
        | none => rfl
        | some u =>
          rcases (g3.trans gg).nw D u e with h2 | h2
          · rw [hn] at h2; cases h2
          · rw [hl] at h2; cases h2
      have sw : St C H02 H'' (wipe σ own) (dwipe δ own) := (s.go ((g1.trans g2).trans g3)).wipe own
      have fin := hk v (wipe σ own) H'' _ (hg v z (wipe σ own) (dwipe δ own) H02 H'' _ (fun σ2 H2 => tt σ2 H2 fun b H3 => if b = true then te σ2 H3 fun y H4 => ∃ acc, H4 D = some (.lst acc) ∧ acc.length < sizeLine ∧ ∃ H0' us acc', Go C H01 H1 H0' (upd H4 D (.lst (acc ++ [y]))) ∧ H0' D = none ∧ (upd H4 D (.lst (acc ++ [y]))) D = some (.lst us) ∧ RpA C.K H0' us acc' ∧ I (k + 1) acc' else ∃ H0' us acc, Go C H01 H1 H0' H3 ∧ H0' D = none ∧ H3 D = some (.lst us) ∧ RpA C.K H0' us acc ∧ I (k + 1) acc) sw rz (it k z acc hz p) fun σ2 δ2 s2 w2 => ?_)
      · rw [wipe_wipe] at fin
        exact fin
      · refine ht _ _ H02 H'' _ _ s2 w2 fun H04 H4 b g4 w4 => ?_
        cases b with
        | false => exact iteF ⟨H04, us, acc, g23.trans g4, (keep g4).1, (keep g4).2, r.mono (g3.fz.trans g4.fz), by simpa using w4⟩
        | true =>
          refine iteT (he _ _ H04 H4 (fun z => acc.length < sizeLine ∧ I (k + 1) (acc ++ [z])) _ (s2.go g4) (by simpa using w4) fun H05 H5 y' z' g5 r5 ⟨w5, p5⟩ => ?_)
          have k5 := keep (g4.trans g5)
          refine ⟨us, k5.2, by rw [r.length]; exact w5, H05, us ++ [y'], acc ++ [z'], ?_, k5.1, upd_same, (r.mono (g3.fz.trans (g4.fz.trans g5.fz))).snoc r5, p5⟩
          have gg := (g23.trans g4).trans g5
          refine ⟨⟨fun b u e => ?_, fun b u n e => ?_, gg.wf.fz, gg.wf.nw, fun c e => ?_⟩, gg.fz, fun b u n e => ?_, gg.nw⟩
          · rw [upd_ne (fun z => by rw [z, k5.1] at e; cases e)]; exact gg.wf.sub b u e
          · rw [upd_ne (fun z => by rw [z, (Go.he g1.wf hD).1] at e; cases e)]; exact gg.wf.kp b u n e
          · obtain ⟨c', i', v', s', cells, q1, q2, q3, q4⟩ := gg.wf.dr c e
            exact ⟨c', i', v', s', cells, by rw [upd_ne (fun z => nex (by rw [← z]; exact e))]; exact q1, q2, q3, q4⟩
          · rw [upd_ne (fun z => by rw [z, hD] at e; cases e)]; exact gg.kp b u n e
    · have hk' : k = xs.length := by omega
      refine .inl ⟨wk.stop H0' H' k g2.fz g2.wf (by omega), q H0' H' D us acc (g1.trans g2) hD0 hn hl r (ie acc (hk' ▸ p))⟩
end
/-! ### loops by an invariant, their bodies untouched -/
theorem dFor_n {da : DE} {i : Nat} {db : DS} {E : DEnds} {δ : Dl} {n : Nat} (hn : n < 4611686018427387904) (h : ∀ Ψ : PyData → Prop, Ψ (.int n) → da δ Ψ) (I : Nat → Dl → Prop) (h0 : I 0 δ)
    (hs : ∀ (k : Nat) (δ' : Dl), k < n → I k δ' → db { E with nx := I (k + 1), ct := I (k + 1), bk := E.nx } (δ'.set i (some (.d (.int k))))) (he : ∀ δ', I n δ' → E.nx δ') : dFor (iR1 da) (dgName i) db E δ := by
  unfold dFor
  refine h _ ⟨n, rfl, by omega, by omega, I, h0, fun k y δ' hy hI => ?_, fun δ' hI => ?_⟩
  · obtain ⟨hk, rfl⟩ := rng_get hy
    have := hs k δ' hk hI
    rw [show (k : Int) = 0 + (k : Int) from (Int.zero_add _).symm] at this
    exact this
  · rw [rng_len] at hI
    exact he δ' hI
theorem dFor_w {di : DI} {dg : DG} {db : DS} {E : DEnds} {δ : Dl} {xs : List PyData} (h : ∀ Ψ : List PyData → Prop, Ψ xs → di δ Ψ) (I : Nat → Dl → Prop) (h0 : I 0 δ)
    (hs : ∀ (k : Nat) (y : PyData) (δ' : Dl), xs[k]? = some y → I k δ' → dg y δ' fun δ'' => db { E with nx := I (k + 1), ct := I (k + 1), bk := E.nx } δ'') (he : ∀ δ', I xs.length δ' → E.nx δ') : dFor di dg db E δ := by
  unfold dFor
  exact h _ ⟨I, h0, hs, he⟩
/-! ### side conditions that numbers settle -/
theorem le_size {n : Nat} (h : n ≤ 1000000) : (n ≤ sizeLine) = True := eq_true (Nat.le_trans h (by decide))
theorem lt_size {n : Nat} (h : n ≤ 1000000) : (n < sizeLine) = True := eq_true (Nat.lt_of_le_of_lt h (by decide))
theorem cmul_l {i j : Int} (h0 : -1000000000000000000 < i) (h1 : i < 1000000000000000000) : CMul i j = True := eq_true (.inl ⟨by omega, by omega⟩)
theorem cpow_l {i j : Int} (h0 : 0 ≤ j) (h1 : j ≤ 1000) (h2 : -1000000 ≤ i) (h3 : i ≤ 1000000) : CPow i j = True := eq_true ⟨h0, by omega, by omega⟩
theorem cdiv_l {i j : Int} (h0 : 0 < j) (h1 : j ≤ 18446744073709551616) : CDivW i j = True := eq_true ⟨h0, Nat.lt_of_lt_of_le (PySem.Flt.log2_lt_of (k := 65) (by decide) (by omega)) (by decide)⟩
@[simp] theorem own_ex2 {α β : Type} {a0 : α} {xs0 : β} {P : α → β → Prop} : (∃ a xs, (a0 = a ∧ xs = xs0) ∧ P a xs) ↔ P a0 xs0 := ⟨fun ⟨_, _, ⟨e1, e2⟩, h⟩ => by subst e1 e2; exact h, fun h => ⟨_, _, ⟨rfl, rfl⟩, h⟩⟩
/-- a statement at a time: what follows is a letter -/
theorem seq_op {d1 d2 : DS} {E : DEnds} {δ : Dl} (h : ∀ N : Dl → Prop, (∀ δ', d2 E δ' → N δ') → d1 { E with nx := N } δ) : dSeq d1 d2 E δ := h _ fun _ h => h
end VL

/-! max of a list of numbers, with a default. -/
namespace VL
open PySem L2
def rMaxD (K : PySem.W.Frag) : List V → List V → Hp → VK → Prop := fun xs zs H Q => ∃ (a : Addr) (ns : List Int) (d : Int), xs = [V.ref a] ∧ zs = [V.int d] ∧ SqL K H a (ns.map V.int) ∧ (ns = [] → Q (V.int d) H) ∧ ∀ m ∈ ns, (∀ y ∈ ns, y ≤ m) → Q (V.int m) H
theorem reads_ints {h : Heap} : ∀ {us : List Value} {ns : List Int}, PyProof.Rows.IntsAre us ns → ReadsAll h us (ns.map .int) []
  | _, _, .nil => .nil
  | _, _, .cons n t r => .cons (.int n t) (reads_ints r)
theorem foldl_max (n : Int) : ∀ ns : List Int, ns.foldl max n ∈ n :: ns ∧ ∀ y ∈ n :: ns, y ≤ ns.foldl max n := by
  intro ns
  induction ns generalizing n with
  | nil => exact ⟨List.mem_cons_self, fun y hy => by rw [List.mem_singleton.mp hy]; exact Int.le_refl _⟩
  | cons k r ih =>
    obtain ⟨h1, h2⟩ := ih (max n k)
    rw [List.foldl_cons]
    refine ⟨?_, fun y hy => ?_⟩
    · rcases List.mem_cons.mp h1 with h1 | h1
      · rw [h1]
        by_cases c : n ≤ k
        · rw [Int.max_eq_right c]; simp
        · rw [Int.max_eq_left (by omega)]; simp
      · simp [h1]
    · have hm := h2 (max n k) List.mem_cons_self
      rcases List.mem_cons.mp hy with rfl | hy
      · omega
      · rcases List.mem_cons.mp hy with rfl | hy
        · omega
        · exact h2 y (List.mem_cons_of_mem _ hy)
theorem crk_maxD {X : Cx} (hc : X.calm = true) (hu : X.A.units + 1 < cLine) : CallRK X (.builtin "max") ["default"] (rMaxD X.K) := by
  intro pins s σ H xs zs us ws Q I r1 r2 h
  obtain ⟨a, ns, d, rfl, rfl, hs, q0, q1⟩ := h
  obtain ⟨its, rv, hl, _⟩ := I.list hs
  rw [Vals.ref1 r1]
  cases r2 with
  | cons rd rn =>
    cases rn
    obtain ⟨t, rfl⟩ := rd
    have hi := rv.ints
    refine PySem.W.max_list_default (I.ok.hd hc) hl.isList (reads_ints hi) ⟨?_, ?_⟩ ?_ ?_ ?_
    · intro x hx y hy
      obtain ⟨i, _, rfl⟩ := List.mem_map.mp hx
      obtain ⟨j, _, rfl⟩ := List.mem_map.mp hy
      rfl
    · intro x hx
      obtain ⟨i, _, rfl⟩ := List.mem_map.mp hx
      intro z
      cases z
    · rw [depth_ints]
      exact hu
    · intro e h' tk hk
      exact ⟨.int _, H, I.kept hk, ⟨_, rfl⟩, q0 (List.map_eq_nil_iff.mp e)⟩
    · intro y ys i v h' tk bs e hv hr hk
      cases ns with
      | nil => cases e
      | cons n ns =>
        cases e
        rw [PySem.W.maxD_ints] at hr
        cases hr
        obtain ⟨m1, m2⟩ := foldl_max n ns
        exact ⟨.int _, H, I.kept hk, ⟨_, rfl⟩, q1 _ m1 m2⟩
theorem kx_maxD {X : Cx} {K : PySem.W.Frag} (h : X.K = K) (hc : X.calm = true) (hu : X.A.units + 1 < cLine) : CallRK X (.builtin "max") ["default"] (rMaxD K) := by subst h; exact crk_maxD hc hu
section
variable {C : Ctx} {f f1 f2 : Bool} {ta tb : TE} {da db : DE}
@[simp] def dMaxD (da db : DE) : DE := fun δ Φ => da δ fun x => db δ fun y => ∃ (ns : List Int) (d : Int), x = .list (ns.map .int) ∧ y = .int d ∧ (ns = [] → Φ (.int d)) ∧ ∀ m ∈ ns, (∀ y ∈ ns, y ≤ m) → Φ (.int m)
theorem sm_maxD (ha : Sm C f1 ta da) (hb : Sm C f2 tb db) : Sm C f (tCKw (rMaxD C.K) (tCons ta tNil) (tCons tb tNil)) (dMaxD da db) := fun σ δ H0 H Φ Q s w q =>
  ha σ δ H0 H _ _ s w fun H01 H1 v x g1 r1 w1 => hb σ δ H01 H1 _ _ (s.go g1) w1 fun H02 H2 u y g2 r2 ⟨ns, d, e1, e2, q0, q1⟩ => by
    subst e1 e2
    have r3 := r1.mono g2.loc
    cases r3 with
    | lst h r =>
      have e := rpa_ints r
      subst e
      cases r2
      exact ⟨_, ns, d, rfl, rfl, SqL.of (g2.wf.loc _ _ h), fun e => q _ _ _ _ (g1.trans g2) (.int _) (q0 e), fun m m1 m2 => q _ _ _ _ (g1.trans g2) (.int _) (q1 m m1 m2)⟩
end
end VL
namespace VL
open PySem L2
/-! ### a written tuple of the program's top -/
def KTu (K : PySem.W.Frag) (a : Addr) (ds : List PyData) : Prop := ∃ xs : List V, (∃ (o : Obj) (its : Array Value) (n : Nat), K.lookup a = some o ∧ o.cls = .type "tuple" ∧ o.data = .seq its n ∧ its.size ≤ sizeLine ∧ Vals xs its.toList) ∧ ∀ H, RpA K H xs ds
/-- scalar items as values -/
inductive PaiV : List Value → List PyData → Prop
  | nil : PaiV [] []
  | cons {v : Value} {d : PyData} {vs : List Value} {ds : List PyData} (h : (∃ x : V, RelV x v ∧ isScalV x = some d)) (r : PaiV vs ds) : PaiV (v :: vs) (d :: ds)
theorem PaiV.n : ∃ x : V, RelV x Value.none ∧ isScalV x = some .none := ⟨.non, rfl, rfl⟩
theorem PaiV.b {k : Bool} : ∃ x : V, RelV x (Value.bool k) ∧ isScalV x = some (.bool k) := ⟨.bl k, rfl, rfl⟩
theorem PaiV.i {k : Int} {t : Tok} : ∃ x : V, RelV x (Value.int k t) ∧ isScalV x = some (.int k) := ⟨.int k, ⟨t, rfl⟩, rfl⟩
theorem PaiV.s {k : Str} {t : Tok} : ∃ x : V, RelV x (Value.str k t) ∧ isScalV x = some (.str k) := ⟨.str k, ⟨t, rfl⟩, rfl⟩
theorem PaiV.vals {K : PySem.W.Frag} : ∀ {vs : List Value} {ds : List PyData}, PaiV vs ds → ∃ xs : List V, Vals xs vs ∧ ∀ H, RpA K H xs ds
  | _, _, .nil => ⟨[], .nil, fun _ => .nil⟩
  | _, _, .cons ⟨x, h1, h2⟩ r => by
    obtain ⟨xs, k1, k2⟩ := PaiV.vals (K := K) r
    exact ⟨x :: xs, .cons h1 k1, fun H => .cons (isScal_rp h2 H) (k2 H)⟩
theorem KTu.mk {K : PySem.W.Frag} {a : Addr} {ds : List PyData} {o : Obj} {its : Array Value} {n : Nat} {vs : List Value} (h : K.lookup a = some o) (hc : o.cls = .type "tuple") (hd : o.data = .seq its n) (hi : its.toList = vs) (hl : vs.length ≤ 100) (p : PaiV vs ds) : KTu K a ds := by
  obtain ⟨xs, k1, k2⟩ := p.vals (K := K)
  refine ⟨xs, ⟨o, its, n, h, hc, hd, ?_, by rw [hi]; exact k1⟩, k2⟩
  rw [← Array.length_toList, hi]
  exact Nat.le_trans hl (by decide)
theorem sm_globT {C : Ctx} {f : Bool} {a : Addr} {ds : List PyData} {v : V} (hv : v = .ref a) (h : KTu C.K a ds) : Sm C f (tC v) (dC (.tuple ds)) := fun σ δ H0 H Φ Q s p q => by
  obtain ⟨xs, h1, h2⟩ := h
  subst hv
  exact q H0 H _ _ (.refl s.toWf) (.tup (.inr h1) (h2 _)) p
end VL
namespace VL
open PySem L2
section
variable {C : Ctx} {te : TE} {de : DE}
/-- xs.extend(ys), xs an owned list -/
@[simp] def dExt (i : Nat) (de : DE) : DS := fun E δ => ∃ a xs, δ[i]? = some (some (.own a xs)) ∧ de δ fun x => ∃ ys, x = .list ys ∧ xs.length + ys.length ≤ sizeLine ∧ E.nx (δ.set i (some (.own a (xs ++ ys))))
theorem sms_ext (i : Nat) (h : Sm C true te de) : SmS C (tDrop (tBM C.K "list" rExtend (tVar i) (tCons te tNil))) (dExt i de) := fun σ δ H0 H E D s ⟨a0, xs0, e0, w⟩ e => by
  obtain ⟨v, e1, rfl, h1, h2, h3, vs, h4, h5⟩ := s.sl i _ e0
  refine ⟨_, e1, .inl ⟨rfl, vs, SqL.of h4⟩, h σ δ H0 H _ _ s w fun H0' H' y x g1 r ⟨ys, ex, hl, p⟩ => ?_⟩
  subst ex
  have s1 := s.go g1
  obtain ⟨v', f1, f2, f3, f4, f5, us, f6, f7⟩ := s1.sl i _ e0
  cases r with
  | @lst b zs _ hb rb =>
    exact ⟨a0, b, us, zs, rfl, rfl, f6, g1.wf.sub _ _ hb, by rw [f7.length, rb.length]; exact hl, e.nx H0' _ σ _ g1.fz (s1.write i e0 (f7.append rb)) p⟩
end
end VL
namespace VL
open PySem L2
theorem oLcG_map {di : DI} {own : List Nat} {dg : DG} {de : DE} {δ : Dl} {Φ : List PyData → Prop} {xs : List PyData} (F : PyData → PyData) (hn : xs.length < 1000000) (h : ∀ Ψ : List PyData → Prop, Ψ xs → di δ Ψ)
    (hs : ∀ (k : Nat) (y : PyData) (Ψ : PyData → Prop), xs[k]? = some y → Ψ (F y) → dg y (dwipe δ own) fun δ' => de δ' Ψ) (hΦ : Φ (xs.map F)) : oLcG di own dg dYes de δ Φ := by
  unfold oLcG
  refine h _ ⟨fun k acc => acc = (xs.take k).map F, by simp, fun k y acc hy ha => ?_, fun acc ha => ?_⟩
  · subst ha
    have hk := (List.getElem?_eq_some_iff.mp hy).1
    refine hs k y _ hy ⟨?_, ?_⟩
    · rw [List.length_map, List.length_take]
      exact Nat.lt_of_lt_of_le (show min k xs.length < 1000000 by omega) (by decide)
    · show (xs.take k).map F ++ [F y] = (xs.take (k + 1)).map F
      rw [List.take_add_one, hy, List.map_append]
      rfl
  · subst ha
    rw [List.take_length]
    exact hΦ
end VL

/-! Texts put together: f'..', zip of two tuples. -/
namespace VL
open PySem L2 RZ
section
variable {C : Ctx} {f f1 f2 : Bool} {te ta tb : TE} {de da db : DE}
@[simp] def dFmt (da : DE) : DE := fun δ Φ => da δ fun x => match x with
  | .str y => y.length ≤ sizeLine ∧ Φ (.str y)
  | .int i => i.natAbs.log2 < 1920 ∧ Φ (.str (toString i))
  | _ => False
theorem sm_fmt (ha : Sm C f1 ta da) : Sm C f (tFmt ta) (dFmt da) := fun σ δ H0 H Φ Q s w q =>
  ha σ δ H0 H _ _ s w fun H01 H1 v x g1 r1 w1 => by
    cases r1 with
    | str y => exact .inl ⟨y, rfl, w1.1, q _ _ _ _ g1 (.str _) w1.2⟩
    | int i => exact .inr ⟨i, rfl, w1.1, q _ _ _ _ g1 (.str _) w1.2⟩
    | _ => exact w1.elim
def dJs : List DE → Str → Dl → (Str → Prop) → Prop
  | [], acc, _, Φ => Φ acc
  | d :: ds, acc, δ, Φ => d δ fun x => ∃ y : Str, x = .str y ∧ (acc ++ y).length ≤ sizeLine ∧ dJs ds (acc ++ y) δ Φ
@[simp] theorem dJs_nil (acc : Str) (δ : Dl) (Φ : Str → Prop) : dJs [] acc δ Φ = Φ acc := rfl
@[simp] theorem dJs_cons (d : DE) (ds : List DE) (acc : Str) (δ : Dl) (Φ : Str → Prop) : dJs (d :: ds) acc δ Φ = d δ fun x => ∃ y : Str, x = .str y ∧ (acc ++ y).length ≤ sizeLine ∧ dJs ds (acc ++ y) δ Φ := rfl
@[simp] def dJoined (ds : List DE) : DE := fun δ Φ => dJs ds Str.empty δ fun out => Φ (.str out)
inductive SmJ (C : Ctx) : List TE → List DE → Prop
  | nil : SmJ C [] []
  | cons {te : TE} {de : DE} {ts : List TE} {ds : List DE} (h : Sm C false te de) (r : SmJ C ts ds) : SmJ C (te :: ts) (de :: ds)
theorem smj_run {ts : List TE} {ds : List DE} (h : SmJ C ts ds) : ∀ (acc : Str) (σ : L2.St) (δ : Dl) (H0 H : Hp) (Φ : Str → Prop) (Q : Str → Hp → Prop), St C H0 H σ δ → dJs ds acc δ Φ → (∀ H0' H' out, Go C H0 H H0' H' → Φ out → Q out H') → tJs ts acc σ H Q := by
  induction h with
  | nil => exact fun acc σ δ H0 H Φ Q s w q => q H0 H acc (.refl s.toWf) w
  | cons h r ih =>
    intro acc σ δ H0 H Φ Q s w q
    refine h σ δ H0 H _ _ s w fun H01 H1 v x g1 r1 ⟨y, e, hl, w1⟩ => ?_
    subst e
    cases r1
    exact ⟨y, rfl, hl, ih (acc ++ y) σ δ H01 H1 Φ Q (s.go g1) w1 fun H02 H2 out g2 p => q _ _ _ (g1.trans g2) p⟩
theorem sm_joined {ts : List TE} {ds : List DE} (h : SmJ C ts ds) : Sm C f (fun σ H Q => tJs ts Str.empty σ H fun out H1 => Q (.str out) H1) (dJoined ds) := fun σ δ H0 H Φ Q s w q =>
  smj_run h Str.empty σ δ H0 H _ _ s w fun H0' H' out g p => q _ _ _ _ g (.str _) p
/-- zip of two tuples -/
@[simp] def iZpT (da db : DE) : DI := fun δ Φ => da δ fun x => db δ fun y => ∃ xs ys, x = .tuple xs ∧ y = .tuple ys ∧ Φ (zipD xs ys)
theorem smi_zipT (ha : Sm C true ta da) (hb : Sm C true tb db) : SmI C (iZipA C.K (tCons ta (tCons tb tNil))) (iZpT da db) := fun σ δ H0 H Φ R s w q =>
  ha σ δ H0 H _ _ s w fun H01 H1 v x g1 r1 w1 => hb σ δ H01 H1 _ _ (s.go g1) w1 fun H02 H2 u y g2 r2 ⟨xs, ys, e1, e2, p⟩ => by
    subst e1 e2
    have r3 := r1.mono g2.fz
    cases r3 with
    | @tup a us _ h r =>
      cases r2 with
      | @tup b ws _ h' r' =>
        refine ⟨a, b, us, ws, rfl, .inr ⟨same_t g2.wf.sub h, same_t g2.wf.sub h', q _ _ _ _ (g1.trans g2) ⟨fun H0' H' i e w hi0 => have hi := Nat.le_of_eq hi0; ?_, fun H0' H' i e w hi => ?_, fun H0' H' i v H'' e w hi y => ?_⟩ p⟩⟩
        · unfold zipD at hi
          rw [List.length_zipWith] at hi
          refine ⟨us, ws, same_t w.sub (same_t e h), same_t w.sub (same_t e h'), ?_⟩
          rw [r.length, r'.length]
          omega
        · unfold zipD at hi
          rw [List.length_zipWith] at hi
          obtain ⟨y1, hy1⟩ := get_lt (show i < xs.length by omega)
          obtain ⟨v1, h1, _⟩ := r.get hy1
          obtain ⟨y2, hy2⟩ := get_lt (show i < ys.length by omega)
          obtain ⟨v2, h2, _⟩ := r'.get hy2
          exact ⟨us, ws, v1, v2, same_t w.sub (same_t e h), same_t w.sub (same_t e h'), h1, h2⟩
        · obtain ⟨T, x1, x2, rfl, hT, rfl, y1, y2⟩ := y
          have y1 := y1 us (same_t w.sub (same_t e h))
          have y2 := y2 ws (same_t w.sub (same_t e h'))
          obtain ⟨d1, hd1, rd1⟩ := r.get' y1
          obtain ⟨d2, hd2, rd2⟩ := r'.get' y2
          obtain ⟨H0'', g, r2⟩ := tup_new w hT (.cons (rd1.mono e) (.cons (Rp.mono e rd2) .nil))
          refine ⟨H0'', _, g, ?_, r2⟩
          unfold zipD
          rw [List.getElem?_zipWith, hd1, hd2]
end
/-! ### texts of numbers, their lengths -/
theorem len_app (a b : Str) : (a ++ b).length = a.length + b.length := by
  show (a.cps ++ b.cps).size = _
  rw [Array.size_append]
  rfl
theorem len_lit (s : String) : (Str.ofString s).length = s.length := PyProof.Rows.ofString_len s
theorem len_nat {v : Int} (h0 : 0 ≤ v) (h : v < 100000000000000000000) : (Str.ofString (toString v)).length ≤ 20 := PyProof.Rows.toString_length_le (k := 20) h0 (by decide) (by simpa using h)
theorem neg_str {n : Nat} : toString (-((n + 1 : Nat) : Int)) = "-" ++ toString ((n + 1 : Nat) : Int) := rfl
theorem len_int {v : Int} (h0 : -(100000000000000000000) < v) (h : v < 100000000000000000000) : (Str.ofString (toString v)).length ≤ 21 := by
  by_cases c : 0 ≤ v
  · have := len_nat c h
    omega
  · obtain ⟨n, rfl⟩ : ∃ n : Nat, v = -((n + 1 : Nat) : Int) := ⟨(-v - 1).toNat, by omega⟩
    rw [neg_str, len_lit, String.length_append]
    have h2 := len_nat (v := ((n + 1 : Nat) : Int)) (by omega) (by omega)
    rw [len_lit] at h2
    have : "-".length = 1 := rfl
    omega
theorem log_int {v : Int} (h0 : -(100000000000000000000) < v) (h : v < 100000000000000000000) : v.natAbs.log2 < 1920 := by
  have : v.natAbs < 2 ^ 70 := by omega
  exact Nat.lt_of_lt_of_le (PySem.Flt.log2_lt_of (k := 70) (by decide) this) (by decide)
end VL
namespace VL
open PySem L2
theorem oLc_of {α : Type} {di : DI} {i : Nat} {de : DE} {δ : Dl} {Φ : List PyData → Prop} (xs : List α) (D G : α → PyData) (hn : xs.length < 1000000) (h : ∀ Ψ : List PyData → Prop, Ψ (xs.map D) → di δ Ψ)
    (hs : ∀ (k : Nat) (a : α) (Ψ : PyData → Prop), xs[k]? = some a → Ψ (G a) → de (δ.set i (some (.d (D a)))) Ψ) (hΦ : Φ (xs.map G)) : oLc di i dYes de δ Φ := by
  unfold oLc
  refine h _ ⟨fun k acc => acc = (xs.take k).map G, by simp, fun k y acc hy ha => ?_, fun acc ha => ?_⟩
  · subst ha
    rw [List.getElem?_map] at hy
    obtain ⟨a, ha, rfl⟩ := Option.map_eq_some_iff.mp hy
    unfold dYes
    dsimp only
    rw [if_pos rfl]
    have hk := (List.getElem?_eq_some_iff.mp ha).1
    refine hs k a _ ha ⟨?_, ?_⟩
    · rw [List.length_map, List.length_take]
      exact Nat.lt_of_lt_of_le (show min k xs.length < 1000000 by omega) (by decide)
    · show (xs.take k).map G ++ [G a] = (xs.take (k + 1)).map G
      rw [List.take_add_one, ha, List.map_append]
      rfl
  · subst ha
    rw [List.length_map, List.take_length]
    exact hΦ
end VL

/-! A slot that holds a def; a list extended with a tuple. -/
namespace VL
open PySem L2
open PySem.AutoSeq1 in
theorem list_extend_tup (l : Addr) (items : Array Value) (n : Nat) (b : Addr) (items2 : Array Value) (n2 : Nat) (c2 : Value) (dd : Option Addr) (sl : Array (Option Value)) (hc : c2 = .type "tuple") (hs0 : ¬(!items.isEmpty && Builtin.List.listTooLong (items.size + items2.size)) = true) (hs1 : items.size ≤ sizeLine) (hs2 : items.size + items2.size ≤ sizeLine + 1) :
    Meets (Builtin.«list.extend» ⟨[.ref l, .ref b], []⟩) (fun _ R s => s.heap.get? l = some { cls := .type "list", dict := none, data := .seq items n, slots := #[] } ∧ s.heap.get? b = some { cls := c2, dict := dd, data := .seq items2 n2, slots := sl } ∧ R (.ok (.ret Value.none)) { s with heap := s.heap.update l (Obj.mapSeq fun x => x ++ items2), toks := s.toks }) := by
  subst hc
  exact .of_wp fun prog w A R s h => by
    obtain ⟨hp, g, d, tk, os⟩ := s; obtain ⟨hl, hb, h⟩ := h; have f1 := idx_int; have f2 := sub_tuple_tuple; have f3 := sub_list_list; have f4 := sub_tuple_list; have f5 := sub_list_tuple;
    have hz' : (items ++ items2).size ≤ sizeLine + 1 := by rw [Array.size_append]; exact hs2
    wp_walk using (wpAny_updateSeq hl rfl (hz := hs1) (_hz' := hz')), wpAny_loadPart' hl, wpAny_loadPart' hb; exact ⟨_, rfl, h⟩
def rExtT (K : PySem.W.Frag) : V → List V → Hp → VK → Prop := fun x vs H Q => ∃ l b xs zs, x = .ref l ∧ vs = [.ref b] ∧ H l = some (.lst xs) ∧ SqT K H b zs ∧ xs.length + zs.length ≤ sizeLine ∧ Q .non (upd H l (.lst (xs ++ zs)))
theorem mt_extT {X : Cx} : MtM X "list.extend" (rExtT X.K) := by
  intro pins s σ H x vs v us Q I rx rv h
  obtain ⟨l, b, xs, zs, rfl, rfl, hH, hB, hz, q⟩ := h
  cases rx
  obtain ⟨u, rfl, ru⟩ := rv.one
  cases ru
  obtain ⟨z, its, n, r, hl, e⟩ := I.lstM hH
  obtain ⟨its2, r2, ⟨o, e2, hc, n2, hd⟩, z2⟩ := I.tuple hB
  obtain ⟨c2, dd, da, sl⟩ := o
  simp only at hc hd
  subst hd
  have hl2 := r2.length
  have hsz : its.toArray.size + its2.toArray.size ≤ sizeLine := by rw [List.size_toArray, List.size_toArray]; omega
  have hlong : ¬ (!its.toArray.isEmpty && Builtin.List.listTooLong (its.toArray.size + its2.toArray.size)) = true := by
    rw [notLongL hsz, Bool.and_false]
    exact Bool.false_ne_true
  refine call_meets F.slot_list_extend ⟨_, e, rfl⟩ F.entry_list_extend (F.args_list_extend_2 _ _)
    (list_extend_tup l its.toArray n b its2.toArray n2 c2 dd sl hc hlong (by rw [List.size_toArray]; omega) (by omega)) ⟨e, e2, ?_⟩
  refine ⟨.non, _, I.lset (its' := its ++ its2) hH e (by simp) (r.append r2) ?_, rfl, q⟩
  rw [List.length_append]
  omega
theorem kx_extT {X : Cx} {K : PySem.W.Frag} (h : X.K = K) : MtM X "list.extend" (rExtT K) := by subst h; exact mt_extT
section
variable {C : Ctx} {te : TE} {de : DE} {tas : TA} {dqs : DR} {f : Bool}
/-- xs.extend(ys), xs an owned list, ys a tuple -/
@[simp] def dExtT (i : Nat) (de : DE) : DS := fun E δ => ∃ a xs, δ[i]? = some (some (.own a xs)) ∧ de δ fun x => ∃ ys, x = .tuple ys ∧ xs.length + ys.length ≤ sizeLine ∧ E.nx (δ.set i (some (.own a (xs ++ ys))))
theorem sms_extT (i : Nat) (h : Sm C true te de) : SmS C (tDrop (tBM C.K "list" (rExtT C.K) (tVar i) (tCons te tNil))) (dExtT i de) := fun σ δ H0 H E D s ⟨a0, xs0, e0, w⟩ e => by
  obtain ⟨v, e1, rfl, h1, h2, h3, vs, h4, h5⟩ := s.sl i _ e0
  refine ⟨_, e1, .inl ⟨rfl, vs, SqL.of h4⟩, h σ δ H0 H _ _ s w fun H0' H' y x g1 r ⟨ys, ex, hl, p⟩ => ?_⟩
  subst ex
  have s1 := s.go g1
  obtain ⟨v', f1, f2, f3, f4, f5, us, f6, f7⟩ := s1.sl i _ e0
  cases r with
  | @tup b zs _ hb rb =>
    exact ⟨a0, b, us, zs, rfl, rfl, f6, same_t g1.wf.sub hb, by rw [f7.length, rb.length]; exact hl, e.nx H0' _ σ _ g1.fz (s1.write i e0 (f7.append rb)) p⟩
/-- a call of a def that a slot holds -/
@[simp] def dCallL (i : Nat) (fa : Addr) (p : VSp) (ds : DR) : DE := fun δ Φ => δ[i]? = some (some (.raw (.ref fa))) ∧ dCall p ds δ Φ
theorem sm_callL {n : Nat} {p : VSp} {E : XK} {fa : Addr} (i : Nat) (hp : ∀ rs Φ, p rs Φ → rs.length = n) (ha : SmQ C tas dqs) : Sm C f (tCallL i fa (toSp C.K n p) [] E tas) (dCallL i fa p dqs) := fun σ δ H0 H Φ Q s ⟨e, w⟩ q => by
  obtain ⟨v, e1, e2⟩ := s.sl i _ e
  have e3 : v = .ref fa := e2
  subst e3
  exact ⟨e1, (sm_call (f := f) (E := E) hp ha) σ δ H0 H Φ Q s w q⟩
/-- a def of the program's top, handed to another -/
@[simp] def qGlob (v : V) (ds : DR) : DR := fun δ Φ => ds δ fun xs => Φ (.raw v :: xs)
theorem smq_glob {v : V} (hb : SmQ C tas dqs) : SmQ C (tCons (tC v) tas) (qGlob v dqs) := fun σ δ H0 H Φ Q s w q =>
  hb σ δ H0 H _ _ s w fun H02 H2 us ys g2 r2 w2 => q H02 H2 _ _ g2 (RRas.cons (r := R.raw v) rfl r2) w2
/-- a slot that holds a def, handed on -/
@[simp] def qRaw (i : Nat) (ds : DR) : DR := fun δ Φ => ∃ v, δ[i]? = some (some (.raw v)) ∧ ds δ fun xs => Φ (.raw v :: xs)
theorem smq_raw (i : Nat) (hb : SmQ C tas dqs) : SmQ C (tCons (tVar i) tas) (qRaw i dqs) := fun σ δ H0 H Φ Q s ⟨v, e, w⟩ q => by
  obtain ⟨u, e1, e2⟩ := s.sl i _ e
  have e3 : u = v := e2
  subst e3
  exact ⟨u, e1, hb σ δ H0 H _ _ s w fun H02 H2 us ys g2 r2 w2 => q H02 H2 _ _ g2 (RRas.cons (r := R.raw u) rfl r2) w2⟩
end
end VL

/-! zip of any two sources: each is known by its next item, its end, and what it keeps. -/
namespace VZ
open PySem PySem.Spec PyProof.Rows L2 RZ
/-- at turn k the iterator `it` over the object `l` of the items xs stands so -/
structure Src (it l : Addr) (xs : Array Value) (S : Heap → Nat → Prop) : Prop where
  keep : ∀ {h h' : Heap} {k : Nat}, S h k → (∀ o, h.get? it = some o → h'.get? it = some o) → (∀ o, h.get? l = some o → h'.get? l = some o) → S h' k
  obj : ∀ {h : Heap} {k : Nat}, S h k → ∃ o, h.get? it = some o ∧ ∀ v, o.data ≠ .cell v
  item : ∀ {prog : Program} {w : World} {A : Around} {E : Value → Shared → Prop} {s : Shared} {k : Nat} {x : Value} {Q : Value → Shared → Prop}, S s.heap k → xs[k]? = some x →
    (∀ h', S h' (k + 1) → Heap.SameBut it s.heap h' → Q x { s with heap := h' }) → wpAny (model prog w) A (Builtin.SmallTypes.nextOf (.ref it)) Q E s
  stop : ∀ {prog : Program} {w : World} {A : Around} {E : Value → Shared → Prop} {s : Shared} {k : Nat} {Q : Value → Shared → Prop}, A.handled = none → S s.heap k → xs[k]? = none →
    (∀ h' e, Heap.ExtBut it s.heap h' → (∃ o, h'.get? e = some o ∧ o.cls = .type "StopIteration") → E (.ref e) { s with heap := h' }) → wpAny (model prog w) A (Builtin.SmallTypes.nextOf (.ref it)) Q E s
def SL (it l : Addr) (xs : Array Value) (h : Heap) (k : Nat) : Prop := h.IsListIter it l k ∧ h.IsList l xs
def ST (it l : Addr) (xs : Array Value) (h : Heap) (k : Nat) : Prop := h.IsTupleIter it l k ∧ h.IsTuple l xs
theorem srcL {it l : Addr} {xs : Array Value} (ne : l ≠ it) : Src it l xs (SL it l xs) where
  keep := fun ⟨a, b⟩ f g => ⟨Heap.IsListIter.at a f, Heap.IsList.at b g⟩
  obj := fun ⟨⟨o, e, _, d⟩, _⟩ => ⟨o, e, fun v q => by rw [d] at q; cases q⟩
  item := fun ⟨a, b⟩ hx q => wpAny_nextOf_list_item a b hx fun h' c d => q h' ⟨c, b.extBut d.extBut ne⟩ d
  stop := fun hh ⟨a, b⟩ hx q => wpAny_nextOf_list_end hh a b hx q
theorem srcT {it l : Addr} {xs : Array Value} (ne : l ≠ it) : Src it l xs (ST it l xs) where
  keep := fun ⟨a, b⟩ f g => ⟨Heap.IsTupleIter.at a f, Heap.IsTuple.at b g⟩
  obj := fun ⟨⟨o, e, _, d⟩, _⟩ => ⟨o, e, fun v q => by rw [d] at q; cases q⟩
  item := fun ⟨a, b⟩ hx q => nextOf_tuple_item a b hx fun h' c d => q h' ⟨c, b.extBut d.extBut ne⟩ d
  stop := fun hh ⟨a, b⟩ hx q => nextOf_tuple_end hh a b hx q
section
variable {prog : Program} {w : World} {A : Around} {E : Value → Shared → Prop} {s : Shared} {z TI TO i1 i2 l1 l2 : Addr} {xs ys : Array Value} {S1 S2 : Heap → Nat → Prop} {k : Nat}
theorem Src.bump {it l c : Addr} {S : Heap → Nat → Prop} {h h' : Heap} (sr : Src it l xs S) (st : S h k) (e : Heap.ExtBut c h h') (n1 : it ≠ c) (n2 : l ≠ c) : S h' k := sr.keep st (fun o q => e _ o n1 q) fun o q => e _ o n2 q
/-- the two places of the pair that stands ready, one behind the other -/
theorem next_item (s1 : Src i1 l1 xs S1) (s2 : Src i2 l2 ys S2) {x y a b : Value} {Q : Value → Shared → Prop} (D : ZipApart z TI TO i1 i2 l1 l2)
    (hz : IsZip s.heap z TI TO .none) (hTI : IsPair s.heap TI (.ref i1) (.ref i2)) (hTO : IsPair s.heap TO a b) (h1 : S1 s.heap k) (h2 : S2 s.heap k) (hx : xs[k]? = some x) (hy : ys[k]? = some y)
    (hQ : ∀ h', IsZip h' z TI TO (rawInt s.heap.objs.size) → IsPair h' TO x y → S1 h' (k + 1) → S2 h' (k + 1) → IsPair h' s.heap.objs.size x y →
      (∀ c o, c ≠ z → c ≠ TO → c ≠ i1 → c ≠ i2 → s.heap.get? c = some o → h'.get? c = some o) → Q (.ref s.heap.objs.size) { s with heap := h' }) :
    wpAny (model prog w) A (Builtin.«zip.__next__» ⟨[.ref z], []⟩) (fun fin s' => ∃ v, fin = .done (.ret v) ∧ Q v s') E s := by
  show wpAny _ _ (field (.ref z) 2 >>= _) _ _ _
  refine wpAny_bind (wpAny_field hz rfl (x := .bool false) rfl ?_)
  show wpAny _ _ (field (.ref z) 3 >>= _) _ _ _
  refine wpAny_bind (wpAny_field hz rfl (x := .ref TI) rfl (wpAny_bind (wpAny_seqItems hTI rfl ?_)))
  show wpAny _ _ (Builtin.SmallTypes.ownedTupleIsFree (.ref z) >>= _) _ _ _
  refine wpAny_bind ?_
  unfold Builtin.SmallTypes.ownedTupleIsFree
  refine wpAny_bind (wpAny_field hz rfl (x := .none) rfl (wpAny_pure ?_))
  simp only [if_true]
  refine wpAny_bind (wpAny_rule (wpAny_bind (wpAny_field hz rfl (x := .ref TO) rfl (wpAny_bind (wpAny_setField_rec hz (by simp) fun ha za ea => ?_)))))
  replace za : IsZip ha z TI TO .ellipsis := za
  have pa : IsPair ha TO a b := ea.extBut _ _ D.TOz hTO
  have qa1 := s1.bump h1 ea.extBut D.i1z D.l1z
  have qa2 := s2.bump h2 ea.extBut D.i2z D.l2z
  refine wpAny_bind ?_
  simp only [List.zipIdx_cons, List.zipIdx_nil, List.forIn_cons, List.forIn_nil]
  refine wpAny_bind (wpAny_bind (wpAny_onRaise ?_))
  show wpAny _ _ (Builtin.SmallTypes.nextOf (.ref i1) >>= _) _ _ _
  refine wpAny_bind (s1.item qa1 hx fun hb qb1 eb => wpAny_pure ?_)
  have pb : IsPair hb TO a b := eb.extBut _ _ D.TOi1 pa
  have qb2 := s2.bump qa2 eb.extBut D.i12.symm D.l2i1
  refine wpAny_bind (wpAny_seqItems pb rfl (wpAny_bind (wpAny_updateSeq_pair pb fun hc pc ec => ?_)))
  replace pc : IsPair hc TO x b := pc
  have qc1 := s1.bump qb1 ec.extBut D.TOi1.symm D.l1TO
  have qc2 := s2.bump qb2 ec.extBut D.TOi2.symm D.l2TO
  refine wpAny_bind (wpAny_letGo (wpAny_pure ?_))
  refine wpAny_bind (wpAny_bind (wpAny_onRaise ?_))
  show wpAny _ _ (Builtin.SmallTypes.nextOf (.ref i2) >>= _) _ _ _
  refine wpAny_bind (s2.item qc2 hy fun hd qd2 ed => wpAny_pure ?_)
  have pd : IsPair hd TO x b := ed.extBut _ _ D.TOi2 pc
  have qd1 := s1.bump qc1 ed.extBut D.i12 D.l1i2
  refine wpAny_bind (wpAny_seqItems pd rfl (wpAny_bind (wpAny_updateSeq_pair pd fun he pe ee => ?_)))
  replace pe : IsPair he TO x y := pe
  have qe1 := s1.bump qd1 ee.extBut D.TOi1.symm D.l1TO
  have qe2 := s2.bump qd2 ee.extBut D.TOi2.symm D.l2TO
  refine wpAny_bind (wpAny_letGo (wpAny_pure (wpAny_pure ?_)))
  refine wpAny_bind (wpAny_seqItems pe rfl (wpAny_bind (wpAny_newTuple ?_)))
  have sz : he.objs.size = s.heap.objs.size := by rw [ee.1, ed.1, ec.1, eb.1, ea.1]
  have ze : IsZip he z TI TO .ellipsis := ee.extBut _ _ D.TOz.symm (ed.extBut _ _ D.i2z.symm (ec.extBut _ _ D.TOz.symm (eb.extBut _ _ D.i1z.symm za)))
  have ke : ∀ c o, c ≠ z → c ≠ TO → c ≠ i1 → c ≠ i2 → s.heap.get? c = some o → he.get? c = some o := fun c o c1 c2 c3 c4 e =>
    ee.extBut _ _ c2 (ed.extBut _ _ c4 (ec.extBut _ _ c2 (eb.extBut _ _ c3 (ea.extBut _ _ c1 e))))
  have lz : z < he.objs.size := Heap.lt_size ze
  show wpAny _ _ (Builtin.SmallTypes.ownedTupleHandOut (.ref z) (.ref he.objs.size) >>= _) _ _ _
  refine wpAny_bind ?_
  unfold Builtin.SmallTypes.ownedTupleHandOut
  have zf : IsZip (he.push { cls := .type "tuple", data := .seq #[x, y] }) z TI TO .ellipsis := Heap.get?_push_of_some _ ze
  refine wpAny_bind (wpAny_setField_rec zf (by simp) fun hg zg eg => ?_)
  replace zg : IsZip hg z TI TO (rawInt he.objs.size) := zg
  refine wpAny_setField_rec zg (by simp) fun hi zi ei => ?_
  replace zi : IsZip hi z TI TO (rawInt he.objs.size) := zi
  have up : ∀ c o, c ≠ z → he.get? c = some o → hi.get? c = some o := fun c o c1 e => ei.extBut _ _ c1 (eg.extBut _ _ c1 (Heap.get?_push_of_some _ e))
  have pi : IsPair hi he.objs.size x y := ei.extBut _ _ (Nat.ne_of_gt lz) (eg.extBut _ _ (Nat.ne_of_gt lz) (Heap.get?_push_size _ rfl))
  rw [sz] at zi pi
  refine wpAny_pure ⟨_, rfl, ?_⟩
  show Q (.ref he.objs.size) _
  rw [sz]
  exact hQ hi zi (up _ _ D.TOz pe) (s1.keep qe1 (fun o e => up _ o D.i1z e) fun o e => up _ o D.l1z e) (s2.keep qe2 (fun o e => up _ o D.i2z e) fun o e => up _ o D.l2z e) pi fun c o c1 c2 c3 c4 e => up c o c1 (ke c o c1 c2 c3 c4 e)
theorem next_end (s1 : Src i1 l1 xs S1) (s2 : Src i2 l2 ys S2) {a b : Value} {Q : Fin → Shared → Prop} (hh : A.handled = none) (D : ZipApart z TI TO i1 i2 l1 l2)
    (hz : IsZip s.heap z TI TO .none) (hTI : IsPair s.heap TI (.ref i1) (.ref i2)) (hTO : IsPair s.heap TO a b) (h1 : S1 s.heap k) (h2 : S2 s.heap k) (hend : xs[k]? = none ∨ ys[k]? = none)
    (hE : ∀ h' e, (∀ c o, c ≠ z → c ≠ TO → c ≠ i1 → c ≠ i2 → s.heap.get? c = some o → h'.get? c = some o) → (∃ o, h'.get? e = some o ∧ o.cls = .type "StopIteration") → E (.ref e) { s with heap := h' }) :
    wpAny (model prog w) A (Builtin.«zip.__next__» ⟨[.ref z], []⟩) Q E s := by
  show wpAny _ _ (field (.ref z) 2 >>= _) _ _ _
  refine wpAny_bind (wpAny_field hz rfl (x := .bool false) rfl ?_)
  show wpAny _ _ (field (.ref z) 3 >>= _) _ _ _
  refine wpAny_bind (wpAny_field hz rfl (x := .ref TI) rfl (wpAny_bind (wpAny_seqItems hTI rfl ?_)))
  show wpAny _ _ (Builtin.SmallTypes.ownedTupleIsFree (.ref z) >>= _) _ _ _
  refine wpAny_bind ?_
  unfold Builtin.SmallTypes.ownedTupleIsFree
  refine wpAny_bind (wpAny_field hz rfl (x := .none) rfl (wpAny_pure ?_))
  simp only [if_true]
  refine wpAny_bind (wpAny_rule (wpAny_bind (wpAny_field hz rfl (x := .ref TO) rfl (wpAny_bind (wpAny_setField_rec hz (by simp) fun ha za ea => ?_)))))
  replace za : IsZip ha z TI TO .ellipsis := za
  have pa : IsPair ha TO a b := ea.extBut _ _ D.TOz hTO
  have qa1 := s1.bump h1 ea.extBut D.i1z D.l1z
  have qa2 := s2.bump h2 ea.extBut D.i2z D.l2z
  -- what is raised leaves the pair's mark free again
  have free : ∀ (h' : Heap) (e : Addr), IsZip h' z TI TO .ellipsis → (∃ o, h'.get? e = some o ∧ o.cls = .type "StopIteration") → ∀ h'', Heap.SameBut z h' h'' → ∃ o, h''.get? e = some o ∧ o.cls = .type "StopIteration" := fun h' e zq ⟨o, ho, hc⟩ h'' eq =>
    ⟨o, eq.extBut _ _ (fun x => by subst x; rw [zq] at ho; cases ho; simp at hc) ho, hc⟩
  refine wpAny_bind ?_
  simp only [List.zipIdx_cons, List.zipIdx_nil, List.forIn_cons, List.forIn_nil]
  refine wpAny_bind (wpAny_bind (wpAny_onRaise ?_))
  show wpAny _ _ (Builtin.SmallTypes.nextOf (.ref i1) >>= _) _ _ _
  cases hx : xs[k]? with
  | none =>
    refine wpAny_bind (s1.stop hh qa1 hx fun hb e eb he => ?_)
    have zb : IsZip hb z TI TO .ellipsis := eb _ _ D.i1z.symm za
    exact wpAny_setField_rec zb (by simp) fun hc _ ec => hE hc e (fun c o c1 _ c3 _ x => ec.extBut _ _ c1 (eb _ _ c3 (ea.extBut _ _ c1 x))) (free hb e zb he hc ec)
  | some x =>
    have hy : ys[k]? = none := hend.elim (fun q => by rw [hx] at q; cases q) id
    refine wpAny_bind (s1.item qa1 hx fun hb qb1 eb => wpAny_pure ?_)
    have pb : IsPair hb TO a b := eb.extBut _ _ D.TOi1 pa
    have qb2 := s2.bump qa2 eb.extBut D.i12.symm D.l2i1
    refine wpAny_bind (wpAny_seqItems pb rfl (wpAny_bind (wpAny_updateSeq_pair pb fun hc pc ec => ?_)))
    have qc2 := s2.bump qb2 ec.extBut D.TOi2.symm D.l2TO
    refine wpAny_bind (wpAny_letGo (wpAny_pure ?_))
    refine wpAny_bind (wpAny_bind (wpAny_onRaise ?_))
    show wpAny _ _ (Builtin.SmallTypes.nextOf (.ref i2) >>= _) _ _ _
    refine wpAny_bind (s2.stop hh qc2 hy fun hd e ed he => ?_)
    have zd : IsZip hd z TI TO .ellipsis := ed _ _ D.i2z.symm (ec.extBut _ _ D.TOz.symm (eb.extBut _ _ D.i1z.symm za))
    exact wpAny_setField_rec zd (by simp) fun hf _ ef => hE hf e (fun c o c1 c2 c3 c4 x => ef.extBut _ _ c1 (ed _ _ c4 (ec.extBut _ _ c2 (eb.extBut _ _ c3 (ea.extBut _ _ c1 x))))) (free hd e zd he hf ef)
end
/-- a tuple at a beside a list at b -/
def ItzM (K : PySem.W.Frag) (a b : Addr) : It where
  go := fun i H => ∃ (xs ys : List V) (x y : V), SqT K H a xs ∧ SqL K H b ys ∧ xs[i]? = some x ∧ ys[i]? = some y
  yld := fun i H v H' => ∃ T x y, v = .ref T ∧ H T = none ∧ H' = upd H T (.tup [x, y]) ∧ (∀ xs, SqT K H a xs → xs[i]? = some x) ∧ ∀ ys, SqL K H b ys → ys[i]? = some y
  stop := fun i H => ∃ xs ys : List V, SqT K H a xs ∧ SqL K H b ys ∧ (xs.length ≤ i ∨ ys.length ≤ i)
theorem turnM {P : Program} {w : World} {K : PySem.W.Frag} {elts : List Expr} {kk : Nat} {tpos : Pos} {a b z TI TO i1 i2 : Addr} (D : ZipApart z TI TO i1 i2 a b) :
    Turn P w K (.Tuple elts kk tpos) (ItzM K a b) [z, TI, TO, i1, i2] z (fun i h => IsZip h z TI TO .none ∧ IsPair h TI (.ref i1) (.ref i2) ∧ (∃ x y, IsPair h TO x y) ∧ h.IsTupleIter i1 a i ∧ h.IsListIter i2 b i) where
  mem := by simp
  obj := fun i h ⟨hz, hTI, ⟨x, y, hTO⟩, ⟨o1, e1, _, d1⟩, ⟨o2, e2, _, d2⟩⟩ c hc => by
    simp only [List.mem_cons, List.not_mem_nil, or_false] at hc
    rcases hc with rfl | rfl | rfl | rfl | rfl
    · exact ⟨_, hz, fun v q => nomatch q⟩
    · exact ⟨_, hTI, fun v q => nomatch q⟩
    · exact ⟨_, hTO, fun v q => nomatch q⟩
    · exact ⟨o1, e1, fun v q => by rw [d1] at q; cases q⟩
    · exact ⟨o2, e2, fun v q => by rw [d2] at q; cases q⟩
  keep := fun i h h' ⟨hz, hTI, ⟨x, y, hTO⟩, h1, h2⟩ k => ⟨k z (by simp) _ hz, k TI (by simp) _ hTI, ⟨x, y, k TO (by simp) _ hTO⟩, h1.at (k i1 (by simp)), h2.at (k i2 (by simp))⟩
  item := by
    intro X hP hw hK hc i pins s σ H E I hf ⟨hz, hTI, ⟨x0, y0, hTO⟩, h1, h2⟩ ⟨xs, ys, x, y, hqx, hqy, hx, hy⟩
    subst hP hw hK
    obtain ⟨its, rv, p, _⟩ := I.tuple hqx
    obtain ⟨its2, rv2, p2, _⟩ := I.list hqy
    obtain ⟨u, hu, ru⟩ := rv.get hx
    obtain ⟨u2, hu2, ru2⟩ := rv2.get hy
    have hT : s.TypeIs (.ref z) "zip" := ⟨_, hz, rfl⟩
    have lz : z < s.heap.objs.size := Heap.lt_size hz
    unfold pyNext
    refine wpAny_bind (wpAny_attempt (wpAny_callSpecial?_slot (name := Str.ofString "__next__") hT F.slot_zip_next (wpAny_call_entry F.slot_zip_next hT F.entry_zip_next
      (next_item (k := i) (srcT (xs := its.toArray) D.l1i1) (srcL (xs := its2.toArray) D.l2i2) D hz hTI hTO ⟨h1, p⟩ ⟨h2, p2.isList⟩ (x := u) (y := u2) (by simpa using hu) (by simpa using hu2) fun h' z' TO' h1' h2' pT hk => wpAny_pure ?_) (F.args_zip_next_1 _))))
    refine ⟨_, rfl, wpAny_letOwnedTupleGo_zip (s := { s with heap := h' }) z' fun h'' z'' sb => ?_⟩
    have pT2 : h''.get? s.heap.objs.size = some { cls := .type "tuple", data := .seq #[u, u2] } := (sb.2 _ (Nat.ne_of_gt lz)).trans pT
    have new : ObjOk X.prog X.w (upd H s.heap.objs.size (.tup [x, y])) h'' s.heap.objs.size (.tup [x, y]) :=
      ⟨by show 2 ≤ sizeLine; decide, [u, u2], .cons ru (.cons ru2 .nil), ⟨_, pT2, rfl, _, rfl⟩⟩
    have I1 : Inv X pins σ (upd H s.heap.objs.size (.tup [x, y])) { s with heap := h'' } :=
      I.turnedNew (t' := s.toks) (ch := [z, TI, TO, i1, i2]) (fun c o hb q => (sb.2 c (fun q' => hb (by simp [q']))).trans (hk c o (fun q' => hb (by simp [q'])) (fun q' => hb (by simp [q'])) (fun q' => hb (by simp [q'])) (fun q' => hb (by simp [q'])) q)) hf (Nat.le_refl _) new
    refine ⟨.ref s.heap.objs.size, _, I1, rfl, ⟨_, x, y, rfl, I.hok.fresh (Nat.le_refl _), rfl, fun l hl => by rw [I.tuple_inj hl hqx]; exact hx, fun l hl => by rw [I.list_inj hl hqy]; exact hy⟩, ⟨z'', ?_, ⟨u, u2, (sb.2 _ D.TOz).trans TO'⟩, h1'.1.at fun o q => (sb.2 _ D.i1z).trans q, h2'.1.at fun o q => (sb.2 _ D.i2z).trans q⟩, fun c hcm => ?_⟩
    · exact (sb.2 _ D.TIz).trans (hk _ _ D.TIz D.TITO D.TIi1 D.TIi2 hTI)
    · have hlt : c < s.heap.objs.size := by
        obtain ⟨o1, e1, _⟩ := h1
        obtain ⟨o2, e2, _⟩ := h2
        have cm := hcm
        simp only [List.mem_cons, List.not_mem_nil, or_false] at cm
        rcases cm with rfl | rfl | rfl | rfl | rfl
        · exact lz
        · exact Heap.lt_size hTI
        · exact Heap.lt_size hTO
        · exact Heap.lt_size e1
        · exact Heap.lt_size e2
      rw [upd_ne (Nat.ne_of_lt hlt)]
      exact (hf c hcm).1
  done := by
    intro X hP hw hK hc i pins s σ H E I hf ⟨hz, hTI, ⟨x0, y0, hTO⟩, h1, h2⟩ ⟨xs, ys, hqx, hqy, hend⟩
    subst hP hw hK
    obtain ⟨its, rv, p, _⟩ := I.tuple hqx
    obtain ⟨its2, rv2, p2, _⟩ := I.list hqy
    have l1 := rv.length
    have l2 := rv2.length
    have he : its.toArray[i]? = none ∨ its2.toArray[i]? = none := hend.elim (fun q => .inl (by simp; omega)) fun q => .inr (by simp; omega)
    have hT : s.TypeIs (.ref z) "zip" := ⟨_, hz, rfl⟩
    unfold pyNext
    refine wpAny_bind (wpAny_attempt (wpAny_callSpecial?_slot (name := Str.ofString "__next__") hT F.slot_zip_next (wpAny_call_entry F.slot_zip_next hT F.entry_zip_next
      (next_end (k := i) (srcT (xs := its.toArray) D.l1i1) (srcL (xs := its2.toArray) D.l2i2) (I.ok.hd hc) D hz hTI hTO ⟨h1, p⟩ ⟨h2, p2.isList⟩ he fun h' e hk ⟨o, ho, hcl⟩ => ?_) (F.args_zip_next_1 _))))
    refine wpAny_bind (wpAny_isInstance (T := "StopIteration") (b := true) ⟨o, ho, hcl⟩ isSubtype_stop (wpAny_pure ?_))
    exact ⟨rfl, I.turnedL (t' := s.toks) (ch := [z, TI, TO, i1, i2]) (fun c o hb q => hk c o (fun q' => hb (by simp [q'])) (fun q' => hb (by simp [q'])) (fun q' => hb (by simp [q'])) (fun q' => hb (by simp [q'])) q) hf⟩
  self := fun A i s Q E st h => wpAny_pyIter_zip st.1 h
/-- the heap after each of the five new objects -/
abbrev g1 (h : Heap) (a : Addr) : Heap := h.push { cls := .type "tuple_iterator", data := .fields #[.ref a, .int 0 0] }
abbrev g2 (h : Heap) (a b : Addr) : Heap := (g1 h a).push { cls := .type "list_iterator", data := .fields #[.ref b, .int 0 0] }
abbrev g3 (h : Heap) (a b : Addr) : Heap := (g2 h a b).push { cls := .type "tuple", data := .seq #[.ref h.objs.size, .ref (g1 h a).objs.size] }
abbrev g4 (h : Heap) (a b : Addr) : Heap := (g3 h a b).push { cls := .type "tuple", data := .seq #[.none, .none] }
abbrev g5 (h : Heap) (a b : Addr) : Heap := (g4 h a b).push { cls := .type "zip", data := .fields #[.none, .bool false, .bool false, .ref (g2 h a b).objs.size, .ref (g3 h a b).objs.size] }
theorem meets_new (a b : Addr) (xs ys : Array Value) :
    Meets (Builtin.«zip.__new__» ⟨[.type "zip", .ref a, .ref b], []⟩) (fun _ R s => s.heap.IsTuple a xs ∧ s.heap.IsList b ys ∧ R (.ok (.ret (.ref (g4 s.heap a b).objs.size))) { s with heap := g5 s.heap a b }) :=
  .of_wp fun prog w A R s h => by
    obtain ⟨hp, g, d, tk, os⟩ := s
    obtain ⟨ha, hb, h⟩ := h
    have hsub := sub_zip
    have hL1 : Heap.IsTuple (Shared.heap ⟨hp, g, d, tk, os⟩) a xs := ha
    have hL2 : Heap.IsList (Shared.heap ⟨hp.push { cls := .type "tuple_iterator", data := .fields #[.ref a, .int 0 0] }, g, d, tk, os⟩) b ys := Heap.IsList.at hb fun o q => Heap.get?_push_of_some _ q
    wp_walk using wpAny_pyIter_tuple hL1, wpAny_pyIter_list hL2
    exact ⟨_, rfl, h⟩
theorem call_new {prog : Program} {w : World} {A : Around} {E : Value → Shared → Prop} {s : Shared} {a b : Addr} {xs ys : Array Value} {Q : Value → Shared → Prop} (ha : s.heap.IsTuple a xs) (hb : s.heap.IsList b ys)
    (h : ∀ h', IsZip h' (s.heap.objs.size + 4) (s.heap.objs.size + 2) (s.heap.objs.size + 3) .none → IsPair h' (s.heap.objs.size + 2) (.ref s.heap.objs.size) (.ref (s.heap.objs.size + 1)) → IsPair h' (s.heap.objs.size + 3) .none .none →
      h'.IsTupleIter s.heap.objs.size a 0 → h'.IsListIter (s.heap.objs.size + 1) b 0 → (∀ c o, s.heap.get? c = some o → h'.get? c = some o) → Q (.ref (s.heap.objs.size + 4)) { s with heap := h' }) :
    wpAny (model prog w) A (call (.type "zip") [.ref a, .ref b]) Q E s := by
  refine callType_new F.called_zip (by decide) (F.typeCall_zip_2 _ _) (F.newCall_zip_2 _ _) (fun obj => F.args_object_init_3 obj _ _) F.entry_zip_new (meets_new a b xs ys) ⟨ha, hb, ?_⟩
  have n1 : (g1 s.heap a).objs.size = s.heap.objs.size + 1 := Heap.size_push ..
  have n2 : (g2 s.heap a b).objs.size = s.heap.objs.size + 2 := by rw [Heap.size_push, n1]
  have n3 : (g3 s.heap a b).objs.size = s.heap.objs.size + 3 := by rw [Heap.size_push, n2]
  have n4 : (g4 s.heap a b).objs.size = s.heap.objs.size + 4 := by rw [Heap.size_push, n3]
  have up : ∀ {c : Addr} {o : Obj} {x : Heap} (p : Obj), x.get? c = some o → (x.push p).get? c = some o := fun p q => Heap.get?_push_of_some _ q
  have e5 : (g5 s.heap a b).get? (g4 s.heap a b).objs.size = some _ := Heap.get?_push_size _ rfl
  have e4 : (g5 s.heap a b).get? (g3 s.heap a b).objs.size = some _ := up _ (Heap.get?_push_size _ rfl)
  have e3 : (g5 s.heap a b).get? (g2 s.heap a b).objs.size = some _ := up _ (up _ (Heap.get?_push_size _ rfl))
  have e2 : (g5 s.heap a b).get? (g1 s.heap a).objs.size = some _ := up _ (up _ (up _ (Heap.get?_push_size _ rfl)))
  have e1 : (g5 s.heap a b).get? s.heap.objs.size = some _ := up _ (up _ (up _ (up _ (Heap.get?_push_size _ rfl))))
  show _ ∧ _
  rw [n2, n3, n4] at e5
  rw [n1, n2] at e3
  rw [n3] at e4
  rw [n1] at e2
  rw [n4]
  exact ⟨⟨_, e5, rfl⟩, h _ e5 e3 e4 ⟨_, e1, rfl, rfl⟩ ⟨_, e2, rfl, rfl⟩ fun c o x => up _ (up _ (up _ (up _ (up _ x))))⟩
def iZipM (K : PySem.W.Frag) (ta : TA) : TI := fun σ H R => ta σ H fun vs H1 => ∃ a b xs ys, vs = [.ref a, .ref b] ∧ SqT K H1 a xs ∧ SqL K H1 b ys ∧ R (ItzM K a b) H1
theorem pi_zipM {X : Cx} {e e2 : Expr} {ta : TA} {p pos tpos : Pos} {elts : List Expr} {kk : Nat} (hg : Gl X "zip") (hm : X.mg "zip" = none) (ha : PA X [e, e2] ta)
    (hs : starEach [e, e2] X.env = (false, eval e X.env) :: starEach [e2] X.env := by rfl) (hpl : (backTo pos (starEach [e2] X.env)).any (·.1) = false := by rfl) :
    PI X (.Tuple elts kk tpos) (.Call (.Name "zip" p) [e, e2] [] pos) (iZipM X.K ta) := by
  refine ⟨fun pins s σ H R I h => ?_⟩
  refine Call_ (ld_blt I hg hm PyProof.Rows.boot_zip (PyProof.Rows.callWith_type1 (thn (ha.run pos pins s σ H _ I h) fun us s1 ⟨vs, H1, I1, r1, a, b, xs, ys, ex, hqx, hqy, q⟩ => ?_) hs hpl))
  subst ex
  cases r1 with
  | cons r rr =>
    cases rr with
    | cons r' rr =>
      cases rr
      cases r
      cases r'
      obtain ⟨its, rv, p1, _⟩ := I1.tuple hqx
      obtain ⟨its2, rv2, p2, _⟩ := I1.list hqy
      obtain ⟨o1, ho1, _⟩ := id p1
      have fresh : ∀ c, c ∈ [s1.heap.objs.size + 4, s1.heap.objs.size + 2, s1.heap.objs.size + 3, s1.heap.objs.size, s1.heap.objs.size + 1] → FpOk X pins H1 c := fun c hcm => by
        have hle : s1.heap.objs.size ≤ c := by
          simp only [List.mem_cons, List.not_mem_nil, or_false] at hcm
          rcases hcm with rfl | rfl | rfl | rfl | rfl
          · exact Nat.le_add_right _ _
          · exact Nat.le_add_right _ _
          · exact Nat.le_add_right _ _
          · exact Nat.le_refl _
          · exact Nat.le_add_right _ _
        exact I1.fpOk hle (I1.hok.fresh hle)
      refine call_new (show s1.heap.IsTuple a its.toArray from p1) p2.isList fun h' hz hTI hTO h1 h2 hk => wpAny_pyIter_zip hz ?_
      exact ⟨s1.heap.objs.size + 4, [s1.heap.objs.size + 4, s1.heap.objs.size + 2, s1.heap.objs.size + 3, s1.heap.objs.size, s1.heap.objs.size + 1], _, _, H1, rfl, I1.kept (t' := s1.toks) hk, turnM (PySem.W.ktu_apart s1.heap.objs.size a b (Heap.lt_size ho1) p2.lt), ⟨hz, hTI, ⟨_, _, hTO⟩, h1, h2⟩, fresh, q⟩
end VZ
namespace VL
open PySem L2 VZ
section
variable {C : Ctx} {ta tb : TE} {da db : DE}
@[simp] def iZpM (da db : DE) : DI := fun δ Φ => da δ fun x => db δ fun y => ∃ xs ys, x = .tuple xs ∧ y = .list ys ∧ Φ (zipD xs ys)
theorem smi_zipM (ha : Sm C true ta da) (hb : Sm C true tb db) : SmI C (iZipM C.K (tCons ta (tCons tb tNil))) (iZpM da db) := fun σ δ H0 H Φ R s w q =>
  ha σ δ H0 H _ _ s w fun H01 H1 v x e1 r1 w1 => hb σ δ H01 H1 _ _ (s.go e1) w1 fun H02 H2 u y e2 r2 ⟨xs, ys, ex, ey, w2⟩ => by
    subst ex ey
    have r1' := r1.mono e2.fz
    cases r1' with
    | @tup a us _ h r =>
      cases r2 with
      | @lst b ws _ h' r' =>
        refine ⟨a, b, us, ws, rfl, same_t e2.wf.sub h, SqL.of (e2.wf.sub _ _ h'), q H02 H2 _ _ (e1.trans e2) ⟨?_, ?_, ?_⟩ w2⟩
        · intro H0' H' i e w hi
          refine ⟨us, ws, same_t w.sub (same_t e h), SqL.of (w.sub _ _ (e _ _ h')), ?_⟩
          rw [r.length, r'.length]
          unfold zipD at hi
          rw [List.length_zipWith] at hi
          omega
        · intro H0' H' i e w hi
          unfold zipD at hi
          rw [List.length_zipWith] at hi
          obtain ⟨y1, hy1⟩ := get_lt (show i < xs.length by omega)
          obtain ⟨v1, h1, _⟩ := r.get hy1
          obtain ⟨y2, hy2⟩ := get_lt (show i < ys.length by omega)
          obtain ⟨v2, h2, _⟩ := r'.get hy2
          exact ⟨us, ws, v1, v2, same_t w.sub (same_t e h), SqL.of (w.sub _ _ (e _ _ h')), h1, h2⟩
        · intro H0' H' i v H'' e w hi y
          obtain ⟨T, x1, x2, rfl, hT, rfl, y1, y2⟩ := y
          have y1 := y1 us (same_t w.sub (same_t e h))
          have y2 := y2 ws (SqL.of (w.sub _ _ (e _ _ h')))
          obtain ⟨d1, hd1, rd1⟩ := r.get' y1
          obtain ⟨d2, hd2, rd2⟩ := r'.get' y2
          obtain ⟨H0'', g, r2⟩ := tup_new w hT (.cons (rd1.mono e) (.cons (Rp.mono e rd2) .nil))
          refine ⟨H0'', _, g, ?_, r2⟩
          unfold zipD
          rw [List.getElem?_zipWith, hd1, hd2]
end
end VL

/-! Defs that are called where no repr is under way: repr of data. -/
namespace VG
open PySem PySem.Spec PyProof.Rows L2
section
variable {P : Program} {w : World} {K : PySem.W.Frag} {mg : Str → Option Value} {base : Heap} {fa : Addr} {fd : FuncData} {nms : List Str} {k : Nat} {sp : Sp}
/-- a def's promise, where the stack holds no guard -/
structure FnG (P : Program) (w : World) (K : PySem.W.Frag) (mg : Str → Option Value) (base : Heap) (k : Nat) (fa : Addr) (fd : FuncData) (nms : List Str) (sp : Sp) : Prop where
  size : ∀ xs H Q E, sp xs H Q E → xs.length = nms.length
  goes : ∀ (A : Around) (ou : List Env) (st : Shared) (H : Hp) (ar : Args) (us : List Value) (xs : List V) (Q : VK) (E : XK), A.guards = some [] → Room k A → Env0 P w K mg base A ou st H → BindsTo st fd ar (nms.zip us) → Vals xs us → sp xs H Q E →
    codeAny (model P w) A (.call (.ref fa) ar) (CR CX0 ou P w H st Q E) st
theorem FnG.of (F : FnOk P w K mg base CX0 k fa fd nms sp) : FnG P w K mg base k fa fd nms sp := ⟨F.len, fun A ou st H ar us xs Q E _ => F.run A ou st H ar us xs Q E⟩
end
section
variable {X : Cx} {k : Nat} {fa : Addr} {fd : FuncData} {nms : List Str} {sp : Sp} {more : List V} {mvs : List Value} {x : Str} {p1 p2 : Pos} {e1 : Expr} {es : List Expr} {ta : TA}
theorem goes_fn {E : XK} {pins : List (Addr × Obj)} {σ : L2.St} {H : Hp} {st : Shared} {Q : VK} {us : List Value} {xs : List V} (gd : X.A.guards = some []) (F : FnG X.prog X.w X.K X.mg X.base k fa fd nms sp) (rm : Room k X.A) (bi : Binds X.K fd nms mvs) (dv : Vals more mvs)
    (inv : Inv X pins σ H st) (rv : Vals xs us) (wish : sp (xs ++ more) H Q E) : wpAny (model X.prog X.w) X.A (call (.ref fa) us) (EP X pins σ Q) X.xe st := by
  have both : Vals (xs ++ more) (us ++ mvs) := rv.append dv
  have sz : (us ++ mvs).length = nms.length := both.length.symm.trans (F.size _ _ _ _ wish)
  refine wpAny_call (codeAny_mono (F.goes X.A X.stack st H ⟨us, []⟩ (us ++ mvs) (xs ++ more) Q E gd rm inv.env0 (bi st us inv.kIn sz) both wish) fun res st' got => ?_)
  match res, got with
  | .error _, got => exact got.elim
  | .ok (.ret _), got => exact inv.after got
  | .ok .next, got => exact got.elim
  | .ok .brk, got => exact got.elim
  | .ok .cont, got => exact got.elim
theorem pe_callG (gd : X.A.guards = some []) (F : FnG X.prog X.w X.K X.mg X.base k fa fd nms sp) (rm : Room k X.A) (hg : Gl X x) (hm : X.mg x = some (.ref fa)) (hk : PySem.W.keepIn X.K (.ref fa) = true) (bi : Binds X.K fd nms mvs) (dv : Vals more mvs)
    (pa : PA X (e1 :: es) ta) (dbg : (x == ("__debug__" : Str)) = false := by decide) (h1 : starEach (e1 :: es) X.env = (false, eval e1 X.env) :: starEach es X.env := by rfl) (h2 : (backTo p2 (starEach es X.env)).any (·.1) = false := by rfl) :
    PE X (.Call (.Name x p1) (e1 :: es) [] p2) (tCall sp more E0 ta) where
  run := fun pins st σ H Q inv wish => by
    refine wpAny_Call_Name_kw (ld_glob inv hg hm ?_ dbg)
    exact PySem.W.callWith_K (h₀ := X.base) inv.ok.mod.kin hk (thn (pa.run p2 pins st σ H _ inv wish) fun us st1 ⟨xs, H1, inv1, rv, q⟩ => ⟨inv1.kIn, goes_fn gd F rm bi dv inv1 rv q⟩) h1 h2
end
section
variable {P : Program} {w : World} {K : PySem.W.Frag} {mg : Str → Option Value} {base : Heap} {sp : Sp} {k : Nat} {fa : Addr} {fd : FuncData} {nms Ns : List Str} {x qu : Str} {sm : Stmt}
theorem okG (F : Fun K x qu sm fa fd) (S : FnScope Ns nms (defScope sm)) (size : ∀ xs H Q E, sp xs H Q E → xs.length = nms.length)
    (body : ∀ (cdv : Value) (A : Around) (ou : List Env) (st : Shared) (H : Hp) (xs : List V) (Q : VK) (E : XK), A.guards = some [] → Room k (A.deeper (envOfC qu (defScope sm) st.heap.objs.size fa cdv)) → sp xs H Q E →
      ∃ t, PSs (cxOf CX0 P w K mg base Ns qu (defScope sm) fa cdv A ou st H E).nox (defBody sm) t ∧ t { nx := fun _ H' => Q .non H', rt := Q } (L2.start Ns xs) H) : FnG P w K mg base (k + 1) fa fd nms sp := by
  obtain ⟨_, _, _, _, _, _, cdv, _, _, rfl, lk, cin⟩ := F.ex
  refine ⟨size, fun A ou st H ar us xs Q E gd rm e0 bi rv wish => ?_⟩
  have sz := size _ _ _ _ wish
  have kin : K.In st.heap := e0.mod.kin.keeps fun b o z => (e0.bs b o z).1
  have nol : st.heap.NoLimit := e0.mod.nolimit.keeps fun b o z => (e0.bs b o z).1
  have each : ∀ y ∈ nms.zip us, (defScope sm).names.lookup y.1 = some .local ∨ ((defScope sm).names.lookup y.1 = some .cell ∧ ((cellsFrom (st.heap.objs.size + 1) (defScope sm).names []).lookup y.1).isSome = true) := fun y hy =>
    (S.par y.1 (List.of_mem_zip hy).1).imp id fun z => ⟨z, PySem.W.cellsFrom_some _ _ _ (.inl z)⟩
  refine codeAny_call_function rm.depth (kin _ _ lk) rfl S.co S.gen rfl (PySem.W.codeRec_of kin cin) (bi _ _ _ _ ?_)
  refine wpAny_newFunctionEnv_cells S.kind each fun en hen st1 ent => ?_
  subst hen
  refine ⟨nol.keeps ent.toInCall.keep, codeAny_func ?_⟩
  obtain ⟨t, run, got⟩ := body cdv A ou st H xs Q E gd (rm.deeper _) wish
  have inv : Inv (cxOf CX0 P w K mg base Ns qu (defScope sm) fa cdv A ou st H E) [] (L2.start Ns xs) H st1 := inv_start S rm.hd e0 sz rv ent
  refine wpAny_mono (run.nox.run [] st1 (L2.start Ns xs) H _ inv got) (fun fl st' hs => ?_) fun _ _ hs => hs
  have last : ∀ {σ' : L2.St} {H' : Hp} {v : V} {u : Value}, Inv (cxOf CX0 P w K mg base Ns qu (defScope sm) fa cdv A ou st H E) [] σ' H' st' → RelV v u → Q v H' → CE ou P w H st Q u st' :=
    fun J r q => ⟨_, _, J.os, J.bare, J.base, J.hok, r, q⟩
  match fl, hs with
  | .ret _, ⟨_, _, _, J, r, q⟩ => exact last J r q
  | .next, ⟨_, _, J, q⟩ => exact last (v := .non) (u := Value.none) J rfl q
  | .brk, ⟨_, _, _, q⟩ => exact q.elim
  | .cont, ⟨_, _, _, q⟩ => exact q.elim
end
section
variable {P : Program} {w : World} {K : PySem.W.Frag} {mg mb : Str → Option Value} {k : Nat} {fa a : Addr} {fd : FuncData} {x : Str} {sp : Sp} {st : Shared} {us : List Value} {ns : List Int}
/-- the law's call, from its def's promise without guards -/
theorem callG (kin : K.In st.heap) (n1 : st.heap.Ns mainGlobals mg) (n2 : st.heap.Ns builtinsNs mb) (n3 : ∀ x : Str, x ≠ "__name__" → mb x = bootBuiltins x) (n4 : st.heap.NoLimit) (gn : st.gens = #[])
    (ga : st.heap.get? a = some { cls := .type "list", data := .seq us.toArray }) (hi : IntsAre us ns) (hl : ns.length ≤ sizeLine) (rm : Room k callerA)
    (F : ∀ base : Heap, K.In base → base.Ns mainGlobals mg → FnG P w K mg base k fa fd [x] sp) (bi : ∀ (s : Shared) (u : Value), BindsTo s fd ⟨[u], []⟩ [(x, u)])
    (wish : ∀ H : Hp, Only H → SqL K H a (ns.map V.int) → sp [.ref a] H (fun v _ => v = .bl true) fun _ _ _ => False) :
    codeAny (model P w) callerA (.call (.ref fa) ⟨[.ref a], []⟩) (fun r s' => r = .ok (.ret (.bool true)) ∧ OldK st.heap s'.heap ∧ s'.os = st.os ∧ AllBare s'.gens) st := by
  have vals := vals_ints hi
  have core : ∀ H : Hp, Only H → SqL K H a (ns.map V.int) → HOk P w H st.heap → (∀ b, H b ≠ none → b = a) → (H a ≠ none → K.lookup a = none) →
      codeAny (model P w) callerA (.call (.ref fa) ⟨[.ref a], []⟩) (fun r s' => r = .ok (.ret (.bool true)) ∧ OldK st.heap s'.heap ∧ s'.os = st.os ∧ AllBare s'.gens) st := by
    intro H ho hs hok one out
    have none_of : ∀ {b : Addr} {o : Obj}, st.heap.get? b = some o → (b = a → False) → H b = none := fun {b o} _ z => by
      cases q : H b with
      | none => rfl
      | some u => exact (z (one b (by rw [q]; exact nofun))).elim
    have dicts : ∀ {b : Addr} {o : Obj} {ds : Array DictEntry} {n : Nat}, st.heap.get? b = some o → o.data = .dict ds n → H b = none := fun {b o ds n} e d => none_of e fun z => by
      rw [z, ga] at e
      cases e
      cases (show Data.seq us.toArray _ = Data.dict ds n from d)
    have nsp : ∀ {b : Addr} {m : Str → Option Value}, st.heap.Ns b m → (hidT st.heap H).Ns b m := fun ⟨o, ds, n, e, d, r⟩ => ⟨o, ds, n, hidT_get e (dicts e d), d, r⟩
    have kin2 : K.In (hidT st.heap H) := fun b o e => hidT_get (kin b o e) (by
      cases q : H b with
      | none => rfl
      | some u =>
        have z := one b (by rw [q]; exact nofun)
        rw [z] at q e
        rw [out (by rw [q]; exact nofun)] at e
        cases e)
    have md : Mod K mg (hidT st.heap H) := ⟨kin2, nsp n1, ⟨mb, nsp n2, n3⟩, n4.imp fun _ z => ⟨nsp z.1, z.2⟩⟩
    have e0 : Env0 P w K mg (hidT st.heap H) callerA [] st H := ⟨rfl, md, fun _ _ z => of_hidT z, Nat.le_of_eq (hidT_size _ _), trivial, (fun b hb => nomatch (show b ∈ ([] : List Addr) from hb)), hok, .of_eq gn⟩
    refine codeAny_mono ((F _ kin2 (nsp n1)).goes callerA [] st H ⟨[.ref a], []⟩ [.ref a] [.ref a] _ _ rfl rm e0 (bi st (.ref a)) (.cons rfl .nil) (wish H ho hs)) fun r s' got => ?_
    match r, got with
    | .error _, got => exact got.elim
    | .ok .next, got => exact got.elim
    | .ok .brk, got => exact got.elim
    | .ok .cont, got => exact got.elim
    | .ok (.ret u), ⟨v, H', o1, o2, un, hok', rv, q⟩ =>
      have q : v = .bl true := q
      subst q
      obtain rfl : u = Value.bool true := rv
      refine ⟨rfl, OldK.of_keep fun b o e => ?_, o1, o2⟩
      cases hb : H b with
      | none => exact un.keep b o e hb (fun z => nomatch (show b ∈ ([] : List Addr) from z)) nofun
      | some y =>
        rcases ho b with z | ⟨ob, xs, z⟩
        · rw [hb] at z; cases z
        · have e1 := (hok b _ z).1
          rw [e] at e1
          cases e1
          exact (hok' b _ (un.frzs b _ _ z)).1
  cases hk : K.lookup a with
  | some o =>
    have e := kin a o hk
    rw [ga] at e
    cases e
    exact core (fun _ => none) (fun _ => .inl rfl) (.inr ⟨_, us.toArray, _, hk, rfl, rfl, rfl, by rw [List.size_toArray, hi.length]; exact hl, by simpa using vals⟩) (fun b u z => nomatch (show (none : Option HO) = some u from z)) (fun b z => absurd rfl z) fun z => absurd rfl z
  | none =>
    refine core (fun b => if b = a then some (.frz { cls := .type "list", data := .seq us.toArray } (.lst (ns.map V.int))) else none) (fun b => ?_) (.inl (.inr ⟨_, if_pos rfl⟩)) (fun b u z => ?_) (fun b z => ?_) fun _ => hk
    · by_cases hb : b = a
      · exact .inr ⟨_, _, if_pos hb⟩
      · exact .inl (if_neg hb)
    · by_cases hb : b = a
      · cases (if_pos hb).symm.trans z
        subst hb
        exact ⟨ga, by rw [List.length_map]; exact hl, us, _, vals, ga⟩
      · cases (if_neg hb).symm.trans z
    · by_cases hb : b = a
      · exact hb
      · exact absurd (if_neg hb) z
end
theorem walkG {l : PySem.W.OpenLaw} {n k : Nat} {q : Program} {loose : List Str} {XP : (Str → Option Value) → Heap → Prop} {YP : World → Heap → Prop} {d : DefRec} {K : Params → PySem.W.Frag} {sp : World → Sp} {x : Str}
    (hn : l.most = some n) (hn2 : n ≤ sizeLine) (nodef : d.params.defaults = []) (rm : Room k callerA) (hY : ∀ (w : World) (h : Heap), YP w h → (K w.params).In h)
    (F : ∀ (w : World) (mg : Str → Option Value) (fa : Addr) (h : Heap), (K w.params).In h → h.Ns mainGlobals mg → mg d.name = some (.ref fa) →
      ∃ fd : FuncData, (∀ (s : Shared) (u : Value), BindsTo s fd ⟨[u], []⟩ [(x, u)]) ∧ ∀ base : Heap, (K w.params).In base → base.Ns mainGlobals mg → FnG l.prog w (K w.params) mg base k fa fd [x] (sp w))
    (wish : ∀ (w : World) (H : Hp) (a : Addr) (ns : List Int), ns.length ≤ n → Only H → SqL (K w.params) H a (ns.map V.int) → sp w [.ref a] H (fun v _ => v = .bl true) fun _ _ _ => False) :
    PySem.W.WalkO q loose XP YP l.row.toRowW d [] (fun f vs => PySem.call f vs) := by
  refine Att.attach_call hn nodef fun w _ _ mg _ fa _ _ _ _ a _ ns G Y _ _ _ hm ob hi le gn => ?_
  obtain ⟨_, bi, run⟩ := F w mg fa _ (hY w _ Y) G.T.g hm
  exact callG (hY w _ Y) G.T.g G.T.b G.T.builtins G.T.nolimit gn ob hi (Nat.le_trans le hn2) rm run bi fun H h1 h2 => wish w H a ns le h1 h2
/-! ### repr of data -/
/-- data without dicts, not deep, its text not long -/
def Shw (m n : Nat) (d : PyData) : Prop := d.showable = true ∧ d.hasDict = false ∧ d.canLay0 = true ∧ d.depth ≤ n ∧ d.shown.length ≤ m
def rRepr (K : PySem.W.Frag) : List V → Hp → VK → Prop := fun xs H Q => ∃ x d, xs = [x] ∧ (∃ a, x = .ref a) ∧ Dp K H x d ∧ Shw 10000000 60 d ∧ Q (.str d.shown) H
theorem kx_repr {X : Cx} {K : PySem.W.Frag} (h : X.K = K) (gd : X.A.guards = some []) (hu : X.A.units + 64 < cLine) : CallR X (.builtin "repr") (rRepr K) := by
  subst h
  intro pins s σ H xs us Q inv rv ⟨x, d, e, ⟨a, ea⟩, hd, ⟨s1, s2, s3, s4, s5⟩, q⟩
  subst e ea
  cases rv with
  | cons r n =>
    cases n
    obtain ⟨as, rd⟩ := Dp.reads inv d _ _ hd r
    obtain rfl := r
    exact repr_of_reads' rd s1 (PyData.noDict_hsm s2) gd (by omega) (fun _ _ e => e) (fun h' u tk hk => ⟨.str _, H, inv.kept hk, ⟨_, rfl⟩, q⟩) (Nat.le_trans s5 (by decide))
end VG
namespace VL
open PySem L2
section
variable {C : Ctx} {f f1 : Bool} {ta : TE} {da : DE}
@[simp] def isRef : PyData → Bool
  | .list _ => true
  | .tuple _ => true
  | _ => false
@[simp] def gRepr : List PyData → (PyData → Prop) → Prop := fun xs Φ => ∃ d, xs = [d] ∧ isRef d = true ∧ VG.Shw 10000000 60 d ∧ Φ (.str d.shown)
theorem cbd_repr : CbD C (VG.rRepr C.K) gRepr := fun H vs xs Φ Q r ⟨d, e, e2, hs, p⟩ q => by
  subst e
  cases r with
  | cons h n =>
    cases n
    refine ⟨_, d, rfl, ?_, h.dp hs.2.2.1, hs, q _ _ (fun _ => .str _) p⟩
    cases h <;> first | exact ⟨_, rfl⟩ | simp at e2
end
theorem body_start {K : PySem.W.Frag} {ex : Option Addr} {H H0 : Hp} {rs : List R} {vs : List V} {Φ : RX → Prop} {Q : VK} {N : List Str} {ln : Nat} {t : TS} {d : DS} (hn : ln = N.length) (hd : ∀ (ex : Option Addr) (He Hf : Hp), SmS ⟨K, ex, He, Hf⟩ t d) (wf : Wf ⟨K, ex, H, H0⟩ H0 H) (ra : RRas K ex H0 vs rs)
    (hp : d { nx := fun _ => Φ (.d .none), rt := Φ } (startD ln rs)) (q : ∀ H0' H' v r, Wf ⟨K, ex, H, H0⟩ H0' H' → RXR ⟨K, ex, H, H0⟩ H0' H' v r → Φ r → Q v H') : t { nx := fun _ H' => Q .non H', rt := Q } (L2.start N vs) H := by
  have hlen := ra.length
  refine hd ex H H0 _ (startD ln rs) H0 H _ _ ⟨wf, ?_, fun i r e => ?_, fun i j a b xs ys n e1 e2 => ?_⟩ hp ⟨fun H0' H' σ δ g s' w' => ?_, fun H0' H' v r g w' xr p' => q H0' H' v r w' xr p', fun _ _ _ _ _ _ h => h.elim, fun _ _ _ _ _ _ h => h.elim⟩
  · simp [L2.start, startD, hlen, hn]
  · unfold startD at e
    by_cases hi : i < rs.length
    · rw [List.getElem?_append_left (by simpa using hi), List.getElem?_map] at e
      cases e1 : rs[i]? with
      | none => rw [e1] at e; simp at e
      | some r' =>
        rw [e1] at e
        simp at e
        subst e
        obtain ⟨v, h1, h2⟩ := ra.get e1
        refine ⟨v, ?_, ?_⟩
        · unfold L2.start
          rw [List.getElem?_append_left (by rw [List.length_map, hlen]; exact hi), List.getElem?_map, h1]
          rfl
        · cases r' with
          | d x => exact h2
          | own a xs => exact h2.elim
          | drw => exact h2
          | raw u => exact h2
          | scr ns => exact h2
    · rw [List.getElem?_append_right (by simpa using hi)] at e
      rw [List.getElem?_replicate] at e
      split at e <;> simp at e
  · exfalso
    have f : ∀ {i : Nat} {a : Addr} {xs : List PyData}, (startD ln rs)[i]? = some (some (R.own a xs)) → False := fun {i a xs} e => by
      unfold startD at e
      by_cases hi : i < rs.length
      · rw [List.getElem?_append_left (by simpa using hi), List.getElem?_map] at e
        cases e1 : rs[i]? with
        | none => rw [e1] at e; simp at e
        | some r' =>
          rw [e1] at e
          simp at e
          subst e
          obtain ⟨v, h1, h2⟩ := ra.get e1
          exact h2
      · rw [List.getElem?_append_right (by simpa using hi)] at e
        rw [List.getElem?_replicate] at e
        split at e <;> simp at e
    exact f e1
  · exact q H0' H' .non (.d .none) s'.toWf .non w'

theorem fn_okG {P : Program} {w : World} {K : PySem.W.Frag} {mg : Str → Option Value} {base : Heap} {x qual : Str} {st : Stmt} {fa : Addr} {fd : FuncData} {N ps : List Str} {k : Nat} {p : VSp}
    (F : Fun K x qual st fa fd) (S : FnScope N ps (defScope st))
    (hbody : ∀ (cdv : Value) (A : Around) (outer : List Env) (s : Shared) (H : Hp) (E : XK), A.guards = some [] → Room k (A.deeper (PyProof.Rows.envOfC qual (defScope st) s.heap.objs.size fa cdv)) →
      ∃ t, PSs (cxOf CX0 P w K mg base N qual (defScope st) fa cdv A outer s H E).nox (defBody st) t ∧ ∃ d : DS, (∀ (ex : Option Addr) (He Hf : Hp), SmS ⟨K, ex, He, Hf⟩ t d) ∧ ∀ rs Φ, p rs Φ → d { nx := fun _ => Φ (.d .none), rt := Φ } (startD N.length rs)) : VG.FnG P w K mg base (k + 1) fa fd ps (toSp K ps.length p) := by
  refine VG.okG F S (fun vs H Q E h => h.1) (fun cdv A outer s H vs Q E gd hr h => ?_)
  obtain ⟨t, ht, d, hd, hp⟩ := hbody cdv A outer s H E gd hr
  obtain ⟨hl, ex, H0, rs, Φ, wf, ra, hsp, q⟩ := h
  exact ⟨t, ht, body_start rfl hd wf ra (hp rs Φ hsp) q⟩
/-- a comprehension over range(n) -/
theorem oLc_nn {da : DE} {i : Nat} {de : DE} {δ : Dl} {Φ : List PyData → Prop} {n : Nat} (hn : n ≤ 1000000) (h : ∀ Ψ : PyData → Prop, Ψ (.int n) → da δ Ψ) (P : List PyData → Prop) (h0 : P [])
    (hs : ∀ (k : Nat) (acc : List PyData) (Ψ : PyData → Prop), k < n → acc.length = k → P acc → (∀ z, P (acc ++ [z]) → Ψ z) → de (δ.set i (some (.d (.int k)))) Ψ) (hΦ : ∀ acc, acc.length = n → P acc → Φ acc) : oLc (iR1 da) i dYes de δ Φ := by
  unfold oLc
  refine h _ ⟨n, rfl, by omega, by omega, fun k acc => acc.length = k ∧ P acc, ⟨rfl, h0⟩, fun k y acc hy ha => ?_, fun acc ha => ?_⟩
  · obtain ⟨hk, rfl⟩ := rng_get hy
    have hk : k < n := hk
    unfold dYes
    dsimp only
    rw [if_pos rfl]
    rw [show (0 : Int) + (k : Int) = (k : Int) from Int.zero_add _]
    refine hs k acc _ hk ha.1 ha.2 fun z hz => ⟨?_, ?_, hz⟩
    · rw [ha.1]
      exact Nat.lt_of_lt_of_le (show k < 1000000 by omega) (by decide)
    · rw [List.length_append, ha.1]; rfl
  · rw [rng_len] at ha
    exact hΦ acc ha.1 ha.2
section
variable {C : Ctx} {f f2 : Bool} {tb : TE} {db : DE}
/-- an item of an owned list -/
@[simp] def dIxO (i : Nat) (db : DE) : DE := fun δ Φ => ∃ a xs, δ[i]? = some (some (.own a xs)) ∧ db δ fun y => ∃ k z, y = .int k ∧ atI xs k = some z ∧ Φ z
theorem sm_ixO (i : Nat) (hb : Sm C f2 tb db) : Sm C f (tOp (rIx C.K) (tVar i) tb) (dIxO i db) := fun σ δ H0 H Φ Q s ⟨a, xs, e, w⟩ q => by
  obtain ⟨v, e1, rfl, h1, h2, h3, vs, h4, h5⟩ := s.sl i _ e
  refine ⟨_, e1, hb σ δ H0 H _ _ s w fun H02 H2 u y g2 r2 ⟨k, z, e2, e3, p⟩ => ?_⟩
  subst e2
  cases r2
  have s2 := s.go g2
  obtain ⟨v', f1, f2, f3, f4, f5, us, f6, f7⟩ := s2.sl i _ e
  obtain ⟨y', e4, ry⟩ := atI_rp f7 e3
  exact .inl ⟨a, us, k, y', rfl, rfl, SqL.of f6, e4, q H02 H2 y' z g2 (Rp.mono g2.wf.to ry) p⟩
end
/-- a statement with two ways: what the test tells, then each way -/
theorem dIfS_two {dt : DT} {d1 d2 : DS} {E : DEnds} {δ : Dl} (Ok : Bool → Prop) (h : ∀ Ψ : Bool → Prop, (∀ b, Ok b → Ψ b) → dt δ Ψ) (h1 : Ok true → d1 E δ) (h2 : Ok false → d2 E δ) : dIfS dt d1 d2 E δ := by
  unfold dIfS
  refine h _ fun b hb => ?_
  cases b with
  | true => rw [if_pos rfl]; exact h1 hb
  | false => rw [if_neg Bool.false_ne_true]; exact h2 hb
/-- range(n), n at most L -/
theorem dFor_r {da : DE} {i : Nat} {db : DS} {E : DEnds} {δ : Dl} (L : Nat) (hL : L < 4611686018427387904) (h : ∀ Ψ : PyData → Prop, (∀ n : Nat, n ≤ L → Ψ (.int n)) → da δ Ψ) (I : Nat → Dl → Prop) (h0 : I 0 δ)
    (hs : ∀ (k : Nat) (δ' : Dl), k < L → I k δ' → db { E with nx := I (k + 1), ct := I (k + 1), bk := E.nx } (δ'.set i (some (.d (.int k))))) (he : ∀ (n : Nat) (δ' : Dl), n ≤ L → I n δ' → E.nx δ') : dFor (iR1 da) (dgName i) db E δ := by
  unfold dFor
  refine h _ fun n hn => ⟨n, rfl, by omega, by omega, I, h0, fun k y δ' hy hI => ?_, fun δ' hI => ?_⟩
  · obtain ⟨hk, rfl⟩ := rng_get hy
    have hk : k < n := hk
    have := hs k δ' (by omega) hI
    rw [show (k : Int) = 0 + (k : Int) from (Int.zero_add _).symm] at this
    exact this
  · rw [rng_len] at hI
    exact he n δ' hn hI
end VL

/-! reversed of a tuple, sums, comprehensions with a test. -/
namespace VL
open PySem L2
section
variable {C : Ctx} {ta : TE} {da : DE}
@[simp] def iRvA (da : DE) : DI := fun δ Φ => da δ fun x => ∃ xs, seqOf x = some xs ∧ Φ xs.reverse
theorem smi_revA (ha : Sm C true ta da) : SmI C (RT.iRevA C.K ta) (iRvA da) := fun σ δ H0 H Φ R s w q =>
  ha σ δ H0 H _ _ s w fun H01 H1 v x g1 r1 ⟨xs, e, p⟩ => by
    cases r1 with
    | @lst a us _ h r =>
      simp [seqOf] at e
      subst e
      refine ⟨a, us, rfl, .inl ⟨SqL.of (g1.wf.sub _ _ h), q _ _ _ _ g1 ⟨fun H0' H' i e w hi => ?_, fun H0' H' i e w hi => ?_, fun H0' H' i v H'' e w hi y => ?_⟩ p⟩⟩
      · rw [List.length_reverse] at hi
        show us.length ≤ i
        rw [r.length]; omega
      · rw [List.length_reverse] at hi
        obtain ⟨y, hy⟩ := get_lt (show us.length - 1 - i < us.length by rw [r.length]; omega)
        exact ⟨by rw [r.length]; exact hi, us, y, SqL.of (w.sub _ _ (e _ _ h)), hy⟩
      · rw [List.length_reverse] at hi
        obtain ⟨rfl, y⟩ := y
        obtain ⟨z, hz, rz⟩ := r.get' (y us (SqL.of (w.sub _ _ (e _ _ h))))
        refine ⟨H0', z, .refl w, ?_, rz.mono e⟩
        rw [List.getElem?_reverse hi, ← r.length]
        exact hz
    | @tup a us _ h r =>
      simp [seqOf] at e
      subst e
      refine ⟨a, us, rfl, .inr ⟨same_t g1.wf.sub h, q _ _ _ _ g1 ⟨fun H0' H' i e w hi => ?_, fun H0' H' i e w hi => ?_, fun H0' H' i v H'' e w hi y => ?_⟩ p⟩⟩
      · rw [List.length_reverse] at hi
        show us.length ≤ i
        rw [r.length]; omega
      · rw [List.length_reverse] at hi
        obtain ⟨y, hy⟩ := get_lt (show us.length - 1 - i < us.length by rw [r.length]; omega)
        exact ⟨by rw [r.length]; exact hi, us, y, same_t w.sub (same_t e h), hy⟩
      · rw [List.length_reverse] at hi
        obtain ⟨rfl, y⟩ := y
        obtain ⟨z, hz, rz⟩ := r.get' (y us (same_t w.sub (same_t e h)))
        refine ⟨H0', z, .refl w, ?_, rz.mono e⟩
        rw [List.getElem?_reverse hi, ← r.length]
        exact hz
    | _ => simp [seqOf] at e
@[simp] def gSum : List PyData → (PyData → Prop) → Prop := fun xs Φ => ∃ ns : List Int, xs = [.list (ns.map .int)] ∧ Φ (.int ns.sum)
theorem cbd_sum : CbD C (rSum C.K) gSum := fun H vs xs Φ Q r ⟨ns, e, p⟩ q => by
  subst e
  cases r with
  | cons h n =>
    cases n
    cases h with
    | lst h r =>
      have e := rpa_ints r
      subst e
      exact ⟨_, ns, rfl, SqL.of h, q _ _ (fun _ => .int _) p⟩
end
theorem kx_revA {X : Cx} {K : PySem.W.Frag} (h : X.K = K) {tg e : Expr} {te : TE} {p pos : Pos} (hg : Gl X "reversed") (hm : X.mg "reversed" = none) (he : PE X e te) (hs : starEach [e] X.env = (false, eval e X.env) :: starEach [] X.env := by rfl) : PI X tg (.Call (.Name "reversed" p) [e] [] pos) (RT.iRevA K te) := by
  subst h
  exact RT.pi_revA hg hm he hs
theorem kx_sum {X : Cx} {K : PySem.W.Frag} (h : X.K = K) (hc : X.calm = true) : CallR X (.builtin "sum") (rSum K) := by
  subst h
  exact cr_sum hc
/-- a comprehension with a test over a walked list: the items that pass, each by a function -/
theorem oLc_filter {α : Type} {di : DI} {i : Nat} {dt : DT} {de : DE} {δ : Dl} {Φ : List PyData → Prop} (xs : List α) (D G : α → PyData) (T : α → Bool) (hn : xs.length < 1000000) (h : ∀ Ψ : List PyData → Prop, Ψ (xs.map D) → di δ Ψ)
    (ht : ∀ (k : Nat) (a : α) (Ψ : Bool → Prop), xs[k]? = some a → Ψ (T a) → dt (δ.set i (some (.d (D a)))) Ψ)
    (hs : ∀ (k : Nat) (a : α) (Ψ : PyData → Prop), xs[k]? = some a → T a = true → Ψ (G a) → de (δ.set i (some (.d (D a)))) Ψ) (hΦ : Φ ((xs.filter T).map G)) : oLc di i dt de δ Φ := by
  unfold oLc
  refine h _ ⟨fun k acc => acc = ((xs.take k).filter T).map G, by simp, fun k y acc hy ha => ?_, fun acc ha => ?_⟩
  · subst ha
    rw [List.getElem?_map] at hy
    obtain ⟨a, ha, rfl⟩ := Option.map_eq_some_iff.mp hy
    have hk := (List.getElem?_eq_some_iff.mp ha).1
    refine ht k a _ ha ?_
    cases e : T a with
    | false =>
      rw [if_neg Bool.false_ne_true]
      show ((xs.take k).filter T).map G = ((xs.take (k + 1)).filter T).map G
      rw [List.take_add_one, ha, List.filter_append]
      simp [e]
    | true =>
      rw [if_pos rfl]
      refine hs k a _ ha e ⟨?_, ?_⟩
      · rw [List.length_map]
        have h1 := List.length_filter_le T (xs.take k)
        rw [List.length_take] at h1
        exact Nat.lt_of_lt_of_le (show _ < 1000000 by omega) (by decide)
      · show ((xs.take k).filter T).map G ++ [G a] = ((xs.take (k + 1)).filter T).map G
        rw [List.take_add_one, ha, List.filter_append]
        simp [e]
  · subst ha
    rw [List.length_map, List.take_length]
    exact hΦ
section
variable {C : Ctx}
@[simp] def gIsB (neg : Bool) : PyData → PyData → (PyData → Prop) → Prop := fun x y Φ => ∃ a b, x = .bool a ∧ y = .bool b ∧ Φ (.bool (if neg then !decide (a = b) else decide (a = b)))
theorem opd_notB : OpD C rNotB (gIsB true) := fun H v u x y Φ Q rv ru ⟨a, b, e1, e2, p⟩ q => by
  subst e1 e2
  cases rv
  cases ru
  exact ⟨a, b, rfl, rfl, q _ _ (fun _ => .bl _) p⟩
theorem opd_isB : OpD C rIsB (gIsB false) := fun H v u x y Φ Q rv ru ⟨a, b, e1, e2, p⟩ q => by
  subst e1 e2
  cases rv
  cases ru
  exact ⟨a, b, rfl, rfl, q _ _ (fun _ => .bl _) p⟩
end
/-- range(n), n from 1 to L -/
theorem dFor_r1 {da : DE} {i : Nat} {db : DS} {E : DEnds} {δ : Dl} (L : Nat) (hL : L < 4611686018427387904) (h : ∀ Ψ : PyData → Prop, (∀ n : Nat, 1 ≤ n → n ≤ L → Ψ (.int n)) → da δ Ψ) (I : Nat → Dl → Prop) (h0 : I 0 δ)
    (hs : ∀ (k : Nat) (δ' : Dl), k < L → I k δ' → db { E with nx := I (k + 1), ct := I (k + 1), bk := E.nx } (δ'.set i (some (.d (.int k))))) (he : ∀ (n : Nat) (δ' : Dl), 1 ≤ n → n ≤ L → I n δ' → E.nx δ') : dFor (iR1 da) (dgName i) db E δ := by
  unfold dFor
  refine h _ fun n hn1 hn => ⟨n, rfl, by omega, by omega, I, h0, fun k y δ' hy hI => ?_, fun δ' hI => ?_⟩
  · obtain ⟨hk, rfl⟩ := rng_get hy
    have hk : k < n := hk
    have := hs k δ' (by omega) hI
    rw [show (k : Int) = 0 + (k : Int) from (Int.zero_add _).symm] at this
    exact this
  · rw [rng_len] at hI
    exact he n δ' hn1 hn hI
section
variable {C : Ctx} {ta tb : TE} {da db : DE} {f2 : Bool}
theorem RpA.flat {K : PySem.W.Frag} {H : Hp} {vs : List V} {xs : List PyData} (r : RpA K H vs xs) : ∀ n : Nat, RpA K H (List.replicate n vs).flatten (List.replicate n xs).flatten
  | 0 => .nil
  | n + 1 => by
    rw [List.replicate_succ, List.replicate_succ, List.flatten_cons, List.flatten_cons]
    exact r.append (RpA.flat r n)
/-- xs * n, a new list -/
@[simp] def oRep (da db : DE) : DO := fun δ Φ => da δ fun x => db δ fun y => ∃ xs k, x = .list xs ∧ y = .int k ∧ -(2 ^ 63) ≤ k ∧ k < 2 ^ 63 ∧ xs.length * k.toNat ≤ sizeLine ∧ Φ (List.replicate k.toNat xs).flatten
theorem smo_rep (ha : Sm C true ta da) (hb : Sm C f2 tb db) : SmO C (tOp rRep ta tb) (oRep da db) := fun σ δ H0 H Φ Q s w q =>
  ha σ δ H0 H _ _ s w fun H01 H1 v x g1 r1 w1 => hb σ δ H01 H1 _ _ (s.go g1) w1 fun H02 H2 u y g2 r2 ⟨xs, k, e1, e2, h1, h2, h3, p⟩ => by
    subst e1 e2
    cases r2
    have r3 := r1.mono g2.fz
    cases r3 with
    | @lst a us _ h r =>
      refine ⟨a, k, us, rfl, rfl, g2.wf.sub _ _ h, h1, h2, by rw [r.length]; exact h3, fun l hl => ?_⟩
      have g3 := Go.free (o := .lst (List.replicate k.toNat us).flatten) g2.wf hl
      exact q _ _ l _ _ ((g1.trans g2).trans g3) ((g1.trans g2).fresh hl) (g2.wf.none hl) upd_same (r.flat _) p
end
section
variable {C : Ctx} {ta : TE} {da : DE} {f1 : Bool}
/-- list(range(n)), a new list -/
@[simp] def oListRg (da : DE) : DO := fun δ Φ => da δ fun x => ∃ n : Nat, x = .int n ∧ n ≤ 16777216 ∧ Φ (rng 0 n)
theorem rpa_rng {K : PySem.W.Frag} {H : Hp} (n : Nat) : RpA K H (rgV 0 (n : Int)) (rng 0 n) := by
  unfold rgV rng
  rw [show ((n : Int) - 0).toNat = n by omega]
  generalize List.range n = l
  induction l with
  | nil => exact .nil
  | cons a l ih => exact .cons (.int _) ih
theorem smo_listRg (ha : Sm C f1 ta da) : SmO C (tLstRg (tRg1 ta)) (oListRg da) := fun σ δ H0 H Φ Q s w q =>
  ha σ δ H0 H _ _ s w fun H01 H1 v x g1 r1 ⟨n, e, hn, p⟩ => by
    subst e
    cases r1
    refine ⟨(n : Int), rfl, RgOk.of_le (by omega) (by omega) (by omega) (by omega), fun l hl => ?_⟩
    have g2 := Go.free (o := .lst (rgV 0 (n : Int))) g1.wf hl
    exact q _ _ l _ _ (g1.trans g2) (g1.fresh hl) (g1.wf.none hl) upd_same (rpa_rng n) p
end
/-- while: a statement that falls by a number; what the test tells, then the turn, then the end -/
theorem dWhile_by {dt : DT} {db : DS} {E : DEnds} {δ : Dl} (I : Nat → Dl → Prop) (h0 : ∃ m, I m δ)
    (hs : ∀ m δ', I m δ' → ∃ Ok : Bool → Prop, (∀ Ψ : Bool → Prop, (∀ b, Ok b → Ψ b) → dt δ' Ψ) ∧ (Ok true → db { E with nx := fun δ'' => ∃ m', m' < m ∧ I m' δ'', ct := fun δ'' => ∃ m', m' < m ∧ I m' δ'', bk := E.nx } δ') ∧ (Ok false → E.nx δ')) : dWhile dt db E δ := by
  refine ⟨I, h0, fun m δ' hI => ?_⟩
  obtain ⟨Ok, h1, h2, h3⟩ := hs m δ' hI
  refine h1 _ fun b hb => ?_
  cases b with
  | true => rw [if_pos rfl]; exact h2 hb
  | false => rw [if_neg Bool.false_ne_true]; exact h3 hb
/-- what is walked is known by a property -/
theorem dFor_q {di : DI} {dg : DG} {db : DS} {E : DEnds} {δ : Dl} (Q : List PyData → Prop) (h : ∀ Ψ : List PyData → Prop, (∀ xs, Q xs → Ψ xs) → di δ Ψ) (I : Nat → Dl → Prop) (h0 : I 0 δ)
    (hs : ∀ (xs : List PyData) (k : Nat) (y : PyData) (δ' : Dl), Q xs → xs[k]? = some y → I k δ' → dg y δ' fun δ'' => db { E with nx := I (k + 1), ct := I (k + 1), bk := E.nx } δ'') (he : ∀ (xs : List PyData) (δ' : Dl), Q xs → I xs.length δ' → E.nx δ') : dFor di dg db E δ := by
  unfold dFor
  exact h _ fun xs hq => ⟨I, h0, fun k y δ' hy hI => hs xs k y δ' hq hy hI, fun δ' hI => he xs δ' hq hI⟩
section
variable {C : Ctx} {te ta tb td : TE} {de da db dd : DE} {g1 g2 : TG} {dg1 dg2 : DG} {f f1 f2 : Bool}
/-- a = b = e -/
@[simp] def dAsg2 (de : DE) (dg1 dg2 : DG) : DS := fun E δ => de δ fun x => dg1 x δ fun δ1 => dg2 x δ1 E.nx
theorem sms_asg2 (h : Sm C true te de) (k1 : SmG C g1 dg1) (k2 : SmG C g2 dg2) : SmS C (tAsg2 te g1 g2) (dAsg2 de dg1 dg2) := fun σ δ H0 H E D s w e =>
  h σ δ H0 H _ _ s w fun H0' H' v x g r p => k1 v x σ δ H0' H' _ _ (s.go g) r p fun σ1 δ1 s1 w1 => k2 v x σ1 δ1 H0' H' _ _ s1 r w1 fun σ2 δ2 s2 w2 => e.nx H0' H' σ2 δ2 g.fz s2 w2
/-- {k1: a, k2: b}[d], keys and values texts -/
@[simp] def dMenu2 (k1 k2 : Str) (da db dd : DE) : DE := fun δ Φ => da δ fun x => db δ fun y => ∃ i j, x = .str i ∧ y = .str j ∧ ¬ k2 = k1 ∧ dd δ fun t => ∃ s, t = .str s ∧ ((s = k1 ∧ Φ (.str i)) ∨ (s = k2 ∧ Φ (.str j)))
theorem sm_menu2 {k1 k2 : Str} (ha : Sm C f1 ta da) (hb : Sm C f2 tb db) (hd : Sm C false td dd) : Sm C f (tDGet (tDisp [(tC (.str k1), ta), (tC (.str k2), tb)]) td) (dMenu2 k1 k2 da db dd) := fun σ δ H0 H Φ Q s w q => by
  intro p hp
  have gp : Go C H0 H H0 (upd H p (.dK [])) := Go.free s.toWf hp
  have nex := (Go.he s.toWf hp).2
  refine ha σ δ H0 _ _ _ (s.go gp) w fun H01 H1 v x g1 r1 w1 => hb σ δ H01 H1 _ _ ((s.go gp).go g1) w1 fun H02 H2 u y g2 r2 w2 => ?_
  have g12 := g1.trans g2
  have hk : H2 p = some (.dK []) := g12.kp p _ nex upd_same
  have g0 := gp.trans g12
  have hn : H02 p = none := by
    cases e : H02 p with
    | none => rfl
    | some o =>
      rcases g12.nw p o e with h | h
      · rw [s.toWf.none hp] at h; cases h
      · rw [upd_same] at h; cases h
  obtain ⟨i, j, rfl, rfl, n1, w4⟩ := w2
  cases r1
  cases r2
  have m1 : mergeK [] [((.inr k1 : Key), V.str i), (.inr k2, .str j)] = [((.inr k1 : Key), V.str i), (.inr k2, .str j)] := by
    simp [mergeK, putK, Ne.symm n1, n1]
  refine ⟨hk, [((.inr k1 : Key), V.str i), (.inr k2, .str j)], rfl, by simp, ?_⟩
  rw [m1]
  have g4 := Go.wr (o := .dK [((.inr k1 : Key), V.str i), (.inr k2, .str j)]) s.toWf hp g0 hn
  refine hd σ δ H02 _ _ _ (s.go g4) w4 fun H05 H5 v5 x5 g5 r5 ⟨st, e5, p5⟩ => ?_
  subst e5
  cases r5
  have h5 : H5 p = some (.dK [((.inr k1 : Key), V.str i), (.inr k2, .str j)]) := g5.kp p _ nex upd_same
  rcases p5 with ⟨rfl, p5⟩ | ⟨rfl, p5⟩
  · refine ⟨p, .str i, rfl, .inl ⟨_, .inr st, .inl h5, rfl, ?_⟩, q _ _ _ _ (g4.trans g5) (.str i) p5⟩
    simp [valV]
  · refine ⟨p, .str j, rfl, .inl ⟨_, .inr st, .inl h5, rfl, ?_⟩, q _ _ _ _ (g4.trans g5) (.str j) p5⟩
    simp [valV, Ne.symm n1]
end
end VL

/-! a written dict of defs: looked up into a slot, asked for a key, its def called. -/
namespace VL
open PySem L2
/-- a written dict whose values are defs -/
structure KdF (K : PySem.W.Frag) (w : World) (d : Addr) (L : List (Str × Addr)) : Prop where
  ex : ∃ es n, L2.KDict K w d es n
  all : ∀ k f, (k, f) ∈ L → PySem.W.nsIn K d k = some (some (.ref f))
theorem KdF.mk' {K : PySem.W.Frag} {w : World} {d : Addr} {L : List (Str × Addr)} {es : Array DictEntry} {n : Nat} (h : K.lookup d = some ⟨.type "dict", none, .dict es n, #[]⟩) (hk : PySem.W.KeysLit w.params es.toList) (lo : (d == sysModules) = false)
    (all : ∀ k f, (k, f) ∈ L → PySem.W.nsIn K d k = some (some (.ref f))) : KdF K w d L := ⟨⟨es, n, h, hk, lo⟩, all⟩
theorem kdf_nil {K : PySem.W.Frag} {d : Addr} : ∀ k f, (k, f) ∈ ([] : List (Str × Addr)) → PySem.W.nsIn K d k = some (some (.ref f)) := fun _ _ h => nomatch h
theorem kdf_cons {K : PySem.W.Frag} {d : Addr} {L : List (Str × Addr)} {k : Str} {f : Addr} (h : PySem.W.nsIn K d k = some (some (.ref f))) (t : ∀ k f, (k, f) ∈ L → PySem.W.nsIn K d k = some (some (.ref f))) : ∀ k' f', (k', f') ∈ (k, f) :: L → PySem.W.nsIn K d k' = some (some (.ref f')) := fun k' f' h' => by
  rcases List.mem_cons.mp h' with e | e
  · cases e; exact h
  · exact t k' f' e
theorem KdF.kdct {K : PySem.W.Frag} {w : World} {d : Addr} {L : List (Str × Addr)} (D : KdF K w d L) {k : Str} {f : Addr} (h : (k, f) ∈ L) : KDct K w d k (.ref f) := by
  obtain ⟨es, n, D1⟩ := D.ex
  exact ⟨es, n, _, D1.at_, D1.lit, D.all k f h, rfl⟩
/-- key not in the dict, for a key that it has -/
def rNotF (d : Addr) (L : List (Str × Addr)) : R2 := fun x y H Q => ∃ (z : Str) (f : Addr), x = .str z ∧ y = .ref d ∧ (z, f) ∈ L ∧ Q (.bl false) H
theorem kx_notF {X : Cx} {K : PySem.W.Frag} {w : World} {d : Addr} {L : List (Str × Addr)} (h : X.K = K) (h2 : X.w = w) (D : KdF K w d L) : OpR X (compareOp .NotIn) (rNotF d L) := by
  subst h h2
  obtain ⟨es, n, D1⟩ := D.ex
  intro pins s σ H x y v u Q I rx ry ⟨z, f, e1, e2, m, q⟩
  exact (op_notIn_kd D1) pins s σ H x y v u Q I rx ry ⟨z, _, e1, e2, D.all z f m, q⟩
section
variable {C : Ctx} {ta tb : TE} {da db d1 d2 : DE} {f1 f2 f : Bool} {tas : TA} {dqs : DR}
@[simp] def dNotF (L : List (Str × Addr)) (da : DE) : DE := fun δ Φ => da δ fun x => ∃ (z : Str) (f : Addr), x = .str z ∧ (z, f) ∈ L ∧ Φ (.bool false)
theorem sm_notF {d : Addr} {L : List (Str × Addr)} {v : V} (hv : v = .ref d) (ha : Sm C f1 ta da) : Sm C f (tOp (rNotF d L) ta (tC v)) (dNotF L da) := fun σ δ H0 H Φ Q s w q =>
  ha σ δ H0 H _ _ s w fun H01 H1 u y g1 r1 ⟨z, fa, e, m, p⟩ => by
    subst e hv
    cases r1
    exact ⟨z, fa, rfl, rfl, m, q _ _ _ _ g1 (.bl false) p⟩
/-- a slot gets a def -/
theorem St.set_raw {H0 H : Hp} {σ : L2.St} {δ : Dl} (s : St C H0 H σ δ) (i : Nat) (v : V) : St C H0 H (σ.set i (some v)) (δ.set i (some (.raw v))) where
  toWf := s.toWf
  len := by rw [List.length_set, List.length_set, s.len]
  sl := fun j r e => by
    by_cases q : i = j
    · subst q
      rw [List.getElem?_set_self'] at e
      cases hd : δ[i]? with
      | none => rw [hd] at e; simp at e
      | some z =>
        rw [hd] at e
        simp at e
        subst e
        have : i < σ.length := by rw [s.len]; exact (List.getElem?_eq_some_iff.mp hd).1
        exact ⟨v, by rw [List.getElem?_set_self this], rfl⟩
    · rw [List.getElem?_set_ne q] at e
      obtain ⟨u, e1, h1⟩ := s.sl j r e
      exact ⟨u, by rw [List.getElem?_set_ne q]; exact e1, h1⟩
  sep := fun j k a b xs ys n e1 e2 => by
    have f : ∀ {j : Nat} {a : Addr} {xs : List PyData}, (δ.set i (some (R.raw v)))[j]? = some (some (R.own a xs)) → δ[j]? = some (some (R.own a xs)) := fun {j a xs} e => by
      by_cases q : i = j
      · subst q
        rw [List.getElem?_set_self'] at e
        cases hd : δ[i]? with
        | none => rw [hd] at e; simp at e
        | some z => rw [hd] at e; simp at e
      · rw [List.getElem?_set_ne q] at e; exact e
    exact s.sep j k a b xs ys n (f e1) (f e2)
/-- slot = dict[key] -/
@[simp] def dRowF (i : Nat) (L : List (Str × Addr)) (db : DE) : DS := fun E δ => db δ fun y => ∃ (z : Str) (f : Addr), y = .str z ∧ (z, f) ∈ L ∧ E.nx (δ.set i (some (.raw (.ref f))))
theorem sms_rowF {w : World} {d : Addr} {L : List (Str × Addr)} {v : V} (i : Nat) (hv : v = .ref d) (D : KdF C.K w d L) (hb : Sm C f1 tb db) : SmS C (tAsg (tOp (rIxD C.K w) (tC v) tb) (gName i)) (dRowF i L db) := fun σ δ H0 H E X s w' e =>
  hb σ δ H0 H _ _ s w' fun H01 H1 u y g1 r1 ⟨z, fa, e1, m, p⟩ => by
    subst e1 hv
    cases r1
    exact ⟨d, z, _, rfl, rfl, D.kdct m, e.nx H01 H1 _ _ g1.fz ((s.go g1).set_raw i _) p⟩
/-- one of two ways to say an expression -/
def tAlt (t1 t2 : TE) : TE := fun σ H Q => t1 σ H Q ∨ t2 σ H Q
theorem pe_alt {X : Cx} {e : Expr} {t1 t2 : TE} (h1 : PE X e t1) (h2 : PE X e t2) : PE X e (tAlt t1 t2) := ⟨fun pins s σ H Q I h => h.elim (h1.run pins s σ H Q I) (h2.run pins s σ H Q I)⟩
@[simp] def dAlt (d1 d2 : DE) : DE := fun δ Φ => d1 δ Φ ∨ d2 δ Φ
theorem sm_alt {t1 t2 : TE} (h1 : Sm C f t1 d1) (h2 : Sm C f t2 d2) : Sm C f (tAlt t1 t2) (dAlt d1 d2) := fun σ δ H0 H Φ Q s w q => w.elim (fun w => .inl (h1 σ δ H0 H Φ Q s w q)) (fun w => .inr (h2 σ δ H0 H Φ Q s w q))
end
section
variable {C : Ctx} {gs : TGs} {dgs : DGs}
/-- a, b = a list -/
@[simp] def dgUnl (n : Nat) (dgs : DGs) : DG := fun x δ Ψ => ∃ xs, x = .list xs ∧ xs.length = n ∧ dgs xs δ Ψ
theorem smg_unl {n : Nat} (h : SmGs C gs dgs) : SmG C (gUnl C.K n gs) (dgUnl n dgs) := fun v x σ δ H0 H Ψ Q s r ⟨xs, e, hn, w⟩ q => by
  subst e
  cases r with
  | @lst a us _ hs r => exact ⟨a, us, rfl, SqL.of (s.toWf.sub _ _ hs), by rw [r.length]; exact hn, h _ _ σ δ H0 H _ _ s r w q⟩
end
end VL

/-! a, b, c = three values. -/
namespace VL
open PySem L2
section
variable {C : Ctx} {f f1 f2 f3 : Bool} {ta tb tc td : TE} {da db dc dd : DE}
@[simp] def dPar3 (i j l : Nat) (da db dc : DE) : DS := fun E δ => da δ fun x => db δ fun y => dc δ fun z => E.nx (((δ.set i (some (.d x))).set j (some (.d y))).set l (some (.d z)))
theorem sms_par3 (i j l : Nat) (ha : Sm C true ta da) (hb : Sm C true tb db) (hc : Sm C true tc dc) : SmS C (tPar3 i j l (tCons ta (tCons tb (tCons tc tNil)))) (dPar3 i j l da db dc) := fun σ δ H0 H E D s w e =>
  ha σ δ H0 H _ _ s w fun H01 H1 v x g1 r1 w1 => hb σ δ H01 H1 _ _ (s.go g1) w1 fun H02 H2 u y g2 r2 w2 => hc σ δ H02 H2 _ _ ((s.go g1).go g2) w2 fun H03 H3 t z g3 r3 w3 =>
    ⟨v, u, t, rfl, e.nx _ _ _ _ ((g1.fz.trans g2.fz).trans g3.fz) ((((((s.go g1).go g2).go g3).set_d i (Rp.mono (g2.fz.trans g3.fz) r1)).set_d j (Rp.mono g3.fz r2)).set_d l r3) w3⟩
end
end VL

namespace Toy
open PySem PySem.Spec PyProof.Rows L2 VL
def topS (i : Nat) : Stmt := PySem.Challenge.pw_burnish_k30_transfer_contains_results.main.body.getD i (.Pass ⟨0, 0, 0, 0⟩)
abbrev swidth : Stmt := topS 4
theorem sc_width : FnScope ["kind"] ["kind"] (defScope swidth) := ⟨rfl, rfl, rfl, by decide +kernel, rfl, by decide +kernel, by decide +kernel⟩
abbrev ssigned : Stmt := topS 5
theorem sc_signed : FnScope ["w", "x"] ["w", "x"] (defScope ssigned) := ⟨rfl, rfl, rfl, by decide +kernel, rfl, by decide +kernel, by decide +kernel⟩
abbrev swrap : Stmt := topS 6
theorem sc_wrap : FnScope ["w", "n"] ["w", "n"] (defScope swrap) := ⟨rfl, rfl, rfl, by decide +kernel, rfl, by decide +kernel, by decide +kernel⟩
abbrev sbinary : Stmt := topS 7
theorem sc_binary : FnScope ["op", "w", "x", "y"] ["op", "w", "x", "y"] (defScope sbinary) := ⟨rfl, rfl, rfl, by decide +kernel, rfl, by decide +kernel, by decide +kernel⟩
abbrev s_divided : Stmt := topS 8
theorem sc__divided : FnScope ["op", "w", "x", "y", "quotient", "a", "b"] ["op", "w", "x", "y"] (defScope s_divided) := ⟨rfl, rfl, rfl, by decide +kernel, rfl, by decide +kernel, by decide +kernel⟩
abbrev s_shifted : Stmt := topS 9
theorem sc__shifted : FnScope ["op", "w", "x", "y"] ["op", "w", "x", "y"] (defScope s_shifted) := ⟨rfl, rfl, rfl, by decide +kernel, rfl, by decide +kernel, by decide +kernel⟩
abbrev scompare : Stmt := topS 10
theorem sc_compare : FnScope ["predicate", "w", "x", "y"] ["predicate", "w", "x", "y"] (defScope scompare) := ⟨rfl, rfl, rfl, by decide +kernel, rfl, by decide +kernel, by decide +kernel⟩
abbrev s_ordered : Stmt := topS 11
theorem sc__ordered : FnScope ["relation", "x", "y"] ["relation", "x", "y"] (defScope s_ordered) := ⟨rfl, rfl, rfl, by decide +kernel, rfl, by decide +kernel, by decide +kernel⟩
abbrev sopposite : Stmt := topS 12
theorem sc_opposite : FnScope ["predicate"] ["predicate"] (defScope sopposite) := ⟨rfl, rfl, rfl, by decide +kernel, rfl, by decide +kernel, by decide +kernel⟩
abbrev sswapped : Stmt := topS 13
theorem sc_swapped : FnScope ["predicate"] ["predicate"] (defScope sswapped) := ⟨rfl, rfl, rfl, by decide +kernel, rfl, by decide +kernel, by decide +kernel⟩
abbrev scast : Stmt := topS 14
theorem sc_cast : FnScope ["op", "v", "w", "x"] ["op", "v", "w", "x"] (defScope scast) := ⟨rfl, rfl, rfl, by decide +kernel, rfl, by decide +kernel, by decide +kernel⟩
abbrev stop_of : Stmt := topS 16
theorem sc_top_of : FnScope ["kind"] ["kind"] (defScope stop_of) := ⟨rfl, rfl, rfl, by decide +kernel, rfl, by decide +kernel, by decide +kernel⟩
abbrev shalf_of : Stmt := topS 17
theorem sc_half_of : FnScope ["kind"] ["kind"] (defScope shalf_of) := ⟨rfl, rfl, rfl, by decide +kernel, rfl, by decide +kernel, by decide +kernel⟩
abbrev sfull : Stmt := topS 18
theorem sc_full : FnScope ["kind"] ["kind"] (defScope sfull) := ⟨rfl, rfl, rfl, by decide +kernel, rfl, by decide +kernel, by decide +kernel⟩
abbrev ssingle : Stmt := topS 19
theorem sc_single : FnScope ["kind", "value"] ["kind", "value"] (defScope ssingle) := ⟨rfl, rfl, rfl, by decide +kernel, rfl, by decide +kernel, by decide +kernel⟩
abbrev sis_single : Stmt := topS 20
theorem sc_is_single : FnScope ["bounds"] ["bounds"] (defScope sis_single) := ⟨rfl, rfl, rfl, by decide +kernel, rfl, by decide +kernel, by decide +kernel⟩
abbrev sunion : Stmt := topS 21
theorem sc_union : FnScope ["a", "b"] ["a", "b"] (defScope sunion) := ⟨rfl, rfl, rfl, by decide +kernel, rfl, by decide +kernel, by decide +kernel⟩
abbrev s_tightened : Stmt := topS 22
theorem sc__tightened : FnScope ["kind", "bounds", "top", "fixed", "zeros", "ones", "lo", "hi"] ["kind", "bounds"] (defScope s_tightened) := ⟨rfl, rfl, rfl, by decide +kernel, rfl, by decide +kernel, by decide +kernel⟩
abbrev snormal : Stmt := topS 23
theorem sc_normal : FnScope ["kind", "bounds", "before"] ["kind", "bounds"] (defScope snormal) := ⟨rfl, rfl, rfl, by decide +kernel, rfl, by decide +kernel, by decide +kernel⟩
abbrev stransfer : Stmt := topS 24
theorem sc_transfer : FnScope ["op", "kind", "data", "kinds", "ranges", "row", "bounds", "result"] ["op", "kind", "data", "kinds", "ranges"] (defScope stransfer) := ⟨rfl, rfl, rfl, by decide +kernel, rfl, by decide +kernel, by decide +kernel⟩
abbrev s_select : Stmt := topS 25
theorem sc__select : FnScope ["ranges", "condition", "first", "second"] ["ranges"] (defScope s_select) := ⟨rfl, rfl, rfl, by decide +kernel, rfl, by decide +kernel, by decide +kernel⟩
abbrev s_icmp : Stmt := topS 26
theorem sc__icmp : FnScope ["kind", "predicate", "ranges", "told", "a", "b"] ["kind", "predicate", "ranges"] (defScope s_icmp) := ⟨rfl, rfl, rfl, by decide +kernel, rfl, by decide +kernel, by decide +kernel⟩
abbrev s_cast : Stmt := topS 27
theorem sc__cast : FnScope ["op", "kind", "old", "bounds", "top", "lo", "hi", "zeros", "ones"] ["op", "kind", "old", "bounds"] (defScope s_cast) := ⟨rfl, rfl, rfl, by decide +kernel, rfl, by decide +kernel, by decide +kernel⟩
abbrev s_and : Stmt := topS 28
theorem sc__and : FnScope ["op", "kind", "a", "b"] ["op", "kind", "a", "b"] (defScope s_and) := ⟨rfl, rfl, rfl, by decide +kernel, rfl, by decide +kernel, by decide +kernel⟩
abbrev s_or : Stmt := topS 29
theorem sc__or : FnScope ["op", "kind", "a", "b"] ["op", "kind", "a", "b"] (defScope s_or) := ⟨rfl, rfl, rfl, by decide +kernel, rfl, by decide +kernel, by decide +kernel⟩
abbrev s_xor : Stmt := topS 30
theorem sc__xor : FnScope ["op", "kind", "a", "b", "zeros", "ones"] ["op", "kind", "a", "b"] (defScope s_xor) := ⟨rfl, rfl, rfl, by decide +kernel, rfl, by decide +kernel, by decide +kernel⟩
abbrev s_low_bits : Stmt := topS 31
theorem sc__low_bits : FnScope ["op", "kind", "a", "b", "unknown", "mask", "ones"] ["op", "kind", "a", "b"] (defScope s_low_bits) := ⟨rfl, rfl, rfl, by decide +kernel, rfl, by decide +kernel, by decide +kernel⟩
abbrev s_arithmetic : Stmt := topS 32
theorem sc__arithmetic : FnScope ["op", "kind", "a", "b", "top", "zeros", "ones", "lo", "hi"] ["op", "kind", "a", "b"] (defScope s_arithmetic) := ⟨rfl, rfl, rfl, by decide +kernel, rfl, by decide +kernel, by decide +kernel⟩
abbrev s_shift : Stmt := topS 33
theorem sc__shift : FnScope ["op", "kind", "a", "b", "top", "count", "low", "zeros", "ones", "lo", "hi", "high"] ["op", "kind", "a", "b"] (defScope s_shift) := ⟨rfl, rfl, rfl, by decide +kernel, rfl, by decide +kernel, by decide +kernel⟩
abbrev s_divide : Stmt := topS 34
theorem sc__divide : FnScope ["op", "kind", "a", "b"] ["op", "kind", "a", "b"] (defScope s_divide) := ⟨rfl, rfl, rfl, by decide +kernel, rfl, by decide +kernel, by decide +kernel⟩
abbrev s_divide_signed : Stmt := topS 35
theorem sc__divide_signed : FnScope ["op", "kind", "a", "b"] ["op", "kind", "a", "b"] (defScope s_divide_signed) := ⟨rfl, rfl, rfl, by decide +kernel, rfl, by decide +kernel, by decide +kernel⟩
abbrev sdecide : Stmt := topS 37
theorem sc_decide : FnScope ["predicate", "kind", "a", "b", "told"] ["predicate", "kind", "a", "b"] (defScope sdecide) := ⟨rfl, rfl, rfl, by decide +kernel, rfl, by decide +kernel, by decide +kernel⟩
abbrev s_equal : Stmt := topS 38
theorem sc__equal : FnScope ["a", "b"] ["a", "b"] (defScope s_equal) := ⟨rfl, rfl, rfl, by decide +kernel, rfl, by decide +kernel, by decide +kernel⟩
abbrev s_less : Stmt := topS 39
theorem sc__less : FnScope ["predicate", "kind", "a", "b", "half"] ["predicate", "kind", "a", "b"] (defScope s_less) := ⟨rfl, rfl, rfl, by decide +kernel, rfl, by decide +kernel, by decide +kernel⟩
abbrev s_law_draw : Stmt := topS 41
theorem sc__law_draw : FnScope ["script", "seed", "cell"] ["script"] (defScope s_law_draw) := ⟨rfl, rfl, rfl, by decide +kernel, rfl, by decide +kernel, by decide +kernel⟩
abbrev s_law_take : Stmt := topS 42
theorem sc__law_take : FnScope ["draw", "many", "found"] ["draw", "many"] (defScope s_law_take) := ⟨rfl, rfl, rfl, by decide +kernel, rfl, by decide +kernel, by decide +kernel⟩
abbrev s_law_whole : Stmt := topS 43
theorem sc__law_whole : FnScope ["value"] ["value"] (defScope s_law_whole) := ⟨rfl, rfl, rfl, by decide +kernel, rfl, by decide +kernel, by decide +kernel⟩
abbrev s_law_width : Stmt := topS 44
theorem sc__law_width : FnScope ["kind", "row"] ["kind"] (defScope s_law_width) := ⟨rfl, rfl, rfl, by decide +kernel, rfl, by decide +kernel, by decide +kernel⟩
abbrev s_law_number : Stmt := topS 45
theorem sc__law_number : FnScope ["draw", "w", "top", "k", "found", "part"] ["draw", "w"] (defScope s_law_number) := ⟨rfl, rfl, rfl, by decide +kernel, rfl, by decide +kernel, by decide +kernel⟩
abbrev s_law_signed : Stmt := topS 46
theorem sc__law_signed : FnScope ["w", "x"] ["w", "x"] (defScope s_law_signed) := ⟨rfl, rfl, rfl, by decide +kernel, rfl, by decide +kernel, by decide +kernel⟩
abbrev s_law_shift : Stmt := topS 47
theorem sc__law_shift : FnScope ["op", "w", "x", "y"] ["op", "w", "x", "y"] (defScope s_law_shift) := ⟨rfl, rfl, rfl, by decide +kernel, rfl, by decide +kernel, by decide +kernel⟩
abbrev s_law_divide : Stmt := topS 48
theorem sc__law_divide : FnScope ["op", "w", "x", "y", "a", "b", "quotient"] ["op", "w", "x", "y"] (defScope s_law_divide) := ⟨rfl, rfl, rfl, by decide +kernel, rfl, by decide +kernel, by decide +kernel⟩
abbrev s_law_binary : Stmt := topS 49
theorem sc__law_binary : FnScope ["op", "w", "x", "y", "top"] ["op", "w", "x", "y"] (defScope s_law_binary) := ⟨rfl, rfl, rfl, by decide +kernel, rfl, by decide +kernel, by decide +kernel⟩
abbrev s_law_compare : Stmt := topS 50
theorem sc__law_compare : FnScope ["predicate", "w", "x", "y", "word"] ["predicate", "w", "x", "y"] (defScope s_law_compare) := ⟨rfl, rfl, rfl, by decide +kernel, rfl, by decide +kernel, by decide +kernel⟩
abbrev s_law_cast : Stmt := topS 51
theorem sc__law_cast : FnScope ["op", "v", "w", "x"] ["op", "v", "w", "x"] (defScope s_law_cast) := ⟨rfl, rfl, rfl, by decide +kernel, rfl, by decide +kernel, by decide +kernel⟩
abbrev s_law_member : Stmt := topS 52
theorem sc__law_member : FnScope ["bounds", "value", "lo", "hi", "zeros", "ones"] ["bounds", "value"] (defScope s_law_member) := ⟨rfl, rfl, rfl, by decide +kernel, rfl, by decide +kernel, by decide +kernel⟩
abbrev s_law_is_range : Stmt := topS 53
theorem sc__law_is_range : FnScope ["bounds", "w", "part"] ["bounds", "w"] (defScope s_law_is_range) := ⟨rfl, rfl, rfl, by decide +kernel, rfl, by decide +kernel, by decide +kernel⟩
abbrev s_law_tight : Stmt := topS 54
theorem sc__law_tight : FnScope ["values", "w", "top", "zeros", "ones", "value"] ["values", "w"] (defScope s_law_tight) := ⟨rfl, rfl, rfl, by decide +kernel, rfl, by decide +kernel, by decide +kernel⟩
abbrev s_law_loose : Stmt := topS 55
theorem sc__law_loose : FnScope ["draw", "bounds", "w", "top", "how", "mask", "lo", "hi", "zeros", "ones"] ["draw", "bounds", "w"] (defScope s_law_loose) := ⟨rfl, rfl, rfl, by decide +kernel, rfl, by decide +kernel, by decide +kernel⟩
abbrev s_law_normal : Stmt := topS 56
theorem sc__law_normal : FnScope ["bounds", "w", "turn", "found"] ["bounds", "w"] (defScope s_law_normal) := ⟨rfl, rfl, rfl, by decide +kernel, rfl, by decide +kernel, by decide +kernel⟩
abbrev s_law_turn : Stmt := topS 57
theorem sc__law_turn : FnScope ["bounds", "w", "top", "k", "lo", "hi", "zeros", "ones"] ["bounds", "w"] (defScope s_law_turn) := ⟨rfl, rfl, rfl, by decide +kernel, rfl, by decide +kernel, by decide +kernel⟩
abbrev s_law_low : Stmt := topS 58
theorem sc__law_low : FnScope ["a", "b", "w", "count"] ["a", "b", "w"] (defScope s_law_low) := ⟨rfl, rfl, rfl, by decide +kernel, rfl, by decide +kernel, by decide +kernel⟩
abbrev s_law_sum_row : Stmt := topS 59
theorem sc__law_sum_row : FnScope ["op", "w", "a", "b", "size", "mask", "ones", "lo", "hi", "low"] ["op", "w", "a", "b"] (defScope s_law_sum_row) := ⟨rfl, rfl, rfl, by decide +kernel, rfl, by decide +kernel, by decide +kernel⟩
abbrev s_law_shift_row : Stmt := topS 60
theorem sc__law_shift_row : FnScope ["op", "w", "a", "b", "top", "c", "zeros"] ["op", "w", "a", "b"] (defScope s_law_shift_row) := ⟨rfl, rfl, rfl, by decide +kernel, rfl, by decide +kernel, by decide +kernel⟩
abbrev s_law_binary_row : Stmt := topS 61
theorem sc__law_binary_row : FnScope ["op", "w", "a", "b", "top"] ["op", "w", "a", "b"] (defScope s_law_binary_row) := ⟨rfl, rfl, rfl, by decide +kernel, rfl, by decide +kernel, by decide +kernel⟩
abbrev s_law_order : Stmt := topS 62
theorem sc__law_order : FnScope ["predicate", "w", "a", "b", "answer"] ["predicate", "w", "a", "b"] (defScope s_law_order) := ⟨rfl, rfl, rfl, by decide +kernel, rfl, by decide +kernel, by decide +kernel⟩
abbrev s_law_decided : Stmt := topS 63
theorem sc__law_decided : FnScope ["predicate", "w", "a", "b", "answer"] ["predicate", "w", "a", "b"] (defScope s_law_decided) := ⟨rfl, rfl, rfl, by decide +kernel, rfl, by decide +kernel, by decide +kernel⟩
abbrev s_law_exact : Stmt := topS 64
theorem sc__law_exact : FnScope ["op", "kind", "data", "kinds", "row", "w"] ["op", "kind", "data", "kinds", "row"] (defScope s_law_exact) := ⟨rfl, rfl, rfl, by decide +kernel, rfl, by decide +kernel, by decide +kernel⟩
abbrev s_law_transfer : Stmt := topS 65
theorem sc__law_transfer : FnScope ["op", "kind", "data", "kinds", "ranges", "w", "a", "row", "value", "answer", "top", "v", "b", "bounds", "low", "high"] ["op", "kind", "data", "kinds", "ranges"] (defScope s_law_transfer) := ⟨rfl, rfl, rfl, by decide +kernel, rfl, by decide +kernel, by decide +kernel⟩
abbrev s_law_values : Stmt := topS 66
theorem sc__law_values : FnScope ["draw", "w", "found", "k"] ["draw", "w"] (defScope s_law_values) := ⟨rfl, rfl, rfl, by decide +kernel, rfl, by decide +kernel, by decide +kernel⟩
abbrev s_law_case : Stmt := topS 67
theorem sc__law_case : FnScope ["draw", "kinds", "ops", "kind", "k", "old", "words"] ["draw"] (defScope s_law_case) := ⟨rfl, rfl, rfl, by decide +kernel, rfl, by decide +kernel, by decide +kernel⟩
abbrev s_law_due : Stmt := topS 68
theorem sc__law_due : FnScope ["case", "values", "op", "kind", "data", "kinds"] ["case", "values"] (defScope s_law_due) := ⟨rfl, rfl, rfl, by decide +kernel, rfl, by decide +kernel, by decide +kernel⟩
abbrev s_law_rows : Stmt := topS 69
theorem sc__law_rows : FnScope ["lists", "rows", "items", "longer", "row", "item"] ["lists"] (defScope s_law_rows) := ⟨rfl, rfl, rfl, by decide +kernel, rfl, by decide +kernel, by decide +kernel⟩
abbrev slaw : Stmt := topS 70
theorem sc_law : FnScope ["script", "draw", "case", "lists", "ranges", "name", "handed", "found", "w", "results", "value", "exact", "k", "op", "kind", "data", "kinds", "tight", "row"] ["script"] (defScope slaw) := ⟨rfl, rfl, rfl, by decide +kernel, rfl, by decide +kernel, by decide +kernel⟩
def L__WIDTHS : List (Str × PyData) := [("i1", .int 1), ("i8", .int 8), ("i16", .int 16), ("i32", .int 32), ("i64", .int 64)]
def L__OPPOSITES : List (Str × PyData) := [("eq", .str "ne"), ("ne", .str "eq"), ("ult", .str "uge"), ("uge", .str "ult"), ("ule", .str "ugt"), ("ugt", .str "ule"), ("slt", .str "sge"), ("sge", .str "slt"), ("sle", .str "sgt"), ("sgt", .str "sle")]
def L__SWAPPED : List (Str × PyData) := [("eq", .str "eq"), ("ne", .str "ne"), ("ult", .str "ugt"), ("ugt", .str "ult"), ("ule", .str "uge"), ("uge", .str "ule"), ("slt", .str "sgt"), ("sgt", .str "slt"), ("sle", .str "sge"), ("sge", .str "sle")]
structure Txt (K : PySem.W.Frag) (mg : Str → Option Value) (w : World) where
  f_width : Addr
  fd_width : FuncData
  F_width : Fun K "width" "width" swidth f_width fd_width
  g_width : mg "width" = some (.ref f_width)
  b_width : Binds K fd_width ["kind"] []
  f_signed : Addr
  fd_signed : FuncData
  F_signed : Fun K "signed" "signed" ssigned f_signed fd_signed
  g_signed : mg "signed" = some (.ref f_signed)
  b_signed : Binds K fd_signed ["w", "x"] []
  f_wrap : Addr
  fd_wrap : FuncData
  F_wrap : Fun K "wrap" "wrap" swrap f_wrap fd_wrap
  g_wrap : mg "wrap" = some (.ref f_wrap)
  b_wrap : Binds K fd_wrap ["w", "n"] []
  f_binary : Addr
  fd_binary : FuncData
  F_binary : Fun K "binary" "binary" sbinary f_binary fd_binary
  g_binary : mg "binary" = some (.ref f_binary)
  b_binary : Binds K fd_binary ["op", "w", "x", "y"] []
  f__divided : Addr
  fd__divided : FuncData
  F__divided : Fun K "_divided" "_divided" s_divided f__divided fd__divided
  g__divided : mg "_divided" = some (.ref f__divided)
  b__divided : Binds K fd__divided ["op", "w", "x", "y"] []
  f__shifted : Addr
  fd__shifted : FuncData
  F__shifted : Fun K "_shifted" "_shifted" s_shifted f__shifted fd__shifted
  g__shifted : mg "_shifted" = some (.ref f__shifted)
  b__shifted : Binds K fd__shifted ["op", "w", "x", "y"] []
  f_compare : Addr
  fd_compare : FuncData
  F_compare : Fun K "compare" "compare" scompare f_compare fd_compare
  g_compare : mg "compare" = some (.ref f_compare)
  b_compare : Binds K fd_compare ["predicate", "w", "x", "y"] []
  f__ordered : Addr
  fd__ordered : FuncData
  F__ordered : Fun K "_ordered" "_ordered" s_ordered f__ordered fd__ordered
  g__ordered : mg "_ordered" = some (.ref f__ordered)
  b__ordered : Binds K fd__ordered ["relation", "x", "y"] []
  f_opposite : Addr
  fd_opposite : FuncData
  F_opposite : Fun K "opposite" "opposite" sopposite f_opposite fd_opposite
  g_opposite : mg "opposite" = some (.ref f_opposite)
  b_opposite : Binds K fd_opposite ["predicate"] []
  f_swapped : Addr
  fd_swapped : FuncData
  F_swapped : Fun K "swapped" "swapped" sswapped f_swapped fd_swapped
  g_swapped : mg "swapped" = some (.ref f_swapped)
  b_swapped : Binds K fd_swapped ["predicate"] []
  f_cast : Addr
  fd_cast : FuncData
  F_cast : Fun K "cast" "cast" scast f_cast fd_cast
  g_cast : mg "cast" = some (.ref f_cast)
  b_cast : Binds K fd_cast ["op", "v", "w", "x"] []
  f_top_of : Addr
  fd_top_of : FuncData
  F_top_of : Fun K "top_of" "top_of" stop_of f_top_of fd_top_of
  g_top_of : mg "top_of" = some (.ref f_top_of)
  b_top_of : Binds K fd_top_of ["kind"] []
  f_half_of : Addr
  fd_half_of : FuncData
  F_half_of : Fun K "half_of" "half_of" shalf_of f_half_of fd_half_of
  g_half_of : mg "half_of" = some (.ref f_half_of)
  b_half_of : Binds K fd_half_of ["kind"] []
  f_full : Addr
  fd_full : FuncData
  F_full : Fun K "full" "full" sfull f_full fd_full
  g_full : mg "full" = some (.ref f_full)
  b_full : Binds K fd_full ["kind"] []
  f_single : Addr
  fd_single : FuncData
  F_single : Fun K "single" "single" ssingle f_single fd_single
  g_single : mg "single" = some (.ref f_single)
  b_single : Binds K fd_single ["kind", "value"] []
  f_is_single : Addr
  fd_is_single : FuncData
  F_is_single : Fun K "is_single" "is_single" sis_single f_is_single fd_is_single
  g_is_single : mg "is_single" = some (.ref f_is_single)
  b_is_single : Binds K fd_is_single ["bounds"] []
  f_union : Addr
  fd_union : FuncData
  F_union : Fun K "union" "union" sunion f_union fd_union
  g_union : mg "union" = some (.ref f_union)
  b_union : Binds K fd_union ["a", "b"] []
  f__tightened : Addr
  fd__tightened : FuncData
  F__tightened : Fun K "_tightened" "_tightened" s_tightened f__tightened fd__tightened
  g__tightened : mg "_tightened" = some (.ref f__tightened)
  b__tightened : Binds K fd__tightened ["kind", "bounds"] []
  f_normal : Addr
  fd_normal : FuncData
  F_normal : Fun K "normal" "normal" snormal f_normal fd_normal
  g_normal : mg "normal" = some (.ref f_normal)
  b_normal : Binds K fd_normal ["kind", "bounds"] []
  f_transfer : Addr
  fd_transfer : FuncData
  F_transfer : Fun K "transfer" "transfer" stransfer f_transfer fd_transfer
  g_transfer : mg "transfer" = some (.ref f_transfer)
  b_transfer : Binds K fd_transfer ["op", "kind", "data", "kinds", "ranges"] []
  f__select : Addr
  fd__select : FuncData
  F__select : Fun K "_select" "_select" s_select f__select fd__select
  g__select : mg "_select" = some (.ref f__select)
  b__select : Binds K fd__select ["ranges"] []
  f__icmp : Addr
  fd__icmp : FuncData
  F__icmp : Fun K "_icmp" "_icmp" s_icmp f__icmp fd__icmp
  g__icmp : mg "_icmp" = some (.ref f__icmp)
  b__icmp : Binds K fd__icmp ["kind", "predicate", "ranges"] []
  f__cast : Addr
  fd__cast : FuncData
  F__cast : Fun K "_cast" "_cast" s_cast f__cast fd__cast
  g__cast : mg "_cast" = some (.ref f__cast)
  b__cast : Binds K fd__cast ["op", "kind", "old", "bounds"] []
  f__and : Addr
  fd__and : FuncData
  F__and : Fun K "_and" "_and" s_and f__and fd__and
  g__and : mg "_and" = some (.ref f__and)
  b__and : Binds K fd__and ["op", "kind", "a", "b"] []
  f__or : Addr
  fd__or : FuncData
  F__or : Fun K "_or" "_or" s_or f__or fd__or
  g__or : mg "_or" = some (.ref f__or)
  b__or : Binds K fd__or ["op", "kind", "a", "b"] []
  f__xor : Addr
  fd__xor : FuncData
  F__xor : Fun K "_xor" "_xor" s_xor f__xor fd__xor
  g__xor : mg "_xor" = some (.ref f__xor)
  b__xor : Binds K fd__xor ["op", "kind", "a", "b"] []
  f__low_bits : Addr
  fd__low_bits : FuncData
  F__low_bits : Fun K "_low_bits" "_low_bits" s_low_bits f__low_bits fd__low_bits
  g__low_bits : mg "_low_bits" = some (.ref f__low_bits)
  b__low_bits : Binds K fd__low_bits ["op", "kind", "a", "b"] []
  f__arithmetic : Addr
  fd__arithmetic : FuncData
  F__arithmetic : Fun K "_arithmetic" "_arithmetic" s_arithmetic f__arithmetic fd__arithmetic
  g__arithmetic : mg "_arithmetic" = some (.ref f__arithmetic)
  b__arithmetic : Binds K fd__arithmetic ["op", "kind", "a", "b"] []
  f__shift : Addr
  fd__shift : FuncData
  F__shift : Fun K "_shift" "_shift" s_shift f__shift fd__shift
  g__shift : mg "_shift" = some (.ref f__shift)
  b__shift : Binds K fd__shift ["op", "kind", "a", "b"] []
  f__divide : Addr
  fd__divide : FuncData
  F__divide : Fun K "_divide" "_divide" s_divide f__divide fd__divide
  g__divide : mg "_divide" = some (.ref f__divide)
  b__divide : Binds K fd__divide ["op", "kind", "a", "b"] []
  f__divide_signed : Addr
  fd__divide_signed : FuncData
  F__divide_signed : Fun K "_divide_signed" "_divide_signed" s_divide_signed f__divide_signed fd__divide_signed
  g__divide_signed : mg "_divide_signed" = some (.ref f__divide_signed)
  b__divide_signed : Binds K fd__divide_signed ["op", "kind", "a", "b"] []
  f_decide : Addr
  fd_decide : FuncData
  F_decide : Fun K "decide" "decide" sdecide f_decide fd_decide
  g_decide : mg "decide" = some (.ref f_decide)
  b_decide : Binds K fd_decide ["predicate", "kind", "a", "b"] []
  f__equal : Addr
  fd__equal : FuncData
  F__equal : Fun K "_equal" "_equal" s_equal f__equal fd__equal
  g__equal : mg "_equal" = some (.ref f__equal)
  b__equal : Binds K fd__equal ["a", "b"] []
  f__less : Addr
  fd__less : FuncData
  F__less : Fun K "_less" "_less" s_less f__less fd__less
  g__less : mg "_less" = some (.ref f__less)
  b__less : Binds K fd__less ["predicate", "kind", "a", "b"] []
  f__law_draw : Addr
  fd__law_draw : FuncData
  F__law_draw : Fun K "_law_draw" "_law_draw" s_law_draw f__law_draw fd__law_draw
  g__law_draw : mg "_law_draw" = some (.ref f__law_draw)
  b__law_draw : Binds K fd__law_draw ["script"] []
  f__law_take : Addr
  fd__law_take : FuncData
  F__law_take : Fun K "_law_take" "_law_take" s_law_take f__law_take fd__law_take
  g__law_take : mg "_law_take" = some (.ref f__law_take)
  b__law_take : Binds K fd__law_take ["draw", "many"] []
  f__law_whole : Addr
  fd__law_whole : FuncData
  F__law_whole : Fun K "_law_whole" "_law_whole" s_law_whole f__law_whole fd__law_whole
  g__law_whole : mg "_law_whole" = some (.ref f__law_whole)
  b__law_whole : Binds K fd__law_whole ["value"] []
  f__law_width : Addr
  fd__law_width : FuncData
  F__law_width : Fun K "_law_width" "_law_width" s_law_width f__law_width fd__law_width
  g__law_width : mg "_law_width" = some (.ref f__law_width)
  b__law_width : Binds K fd__law_width ["kind"] []
  f__law_number : Addr
  fd__law_number : FuncData
  F__law_number : Fun K "_law_number" "_law_number" s_law_number f__law_number fd__law_number
  g__law_number : mg "_law_number" = some (.ref f__law_number)
  b__law_number : Binds K fd__law_number ["draw", "w"] []
  f__law_signed : Addr
  fd__law_signed : FuncData
  F__law_signed : Fun K "_law_signed" "_law_signed" s_law_signed f__law_signed fd__law_signed
  g__law_signed : mg "_law_signed" = some (.ref f__law_signed)
  b__law_signed : Binds K fd__law_signed ["w", "x"] []
  f__law_shift : Addr
  fd__law_shift : FuncData
  F__law_shift : Fun K "_law_shift" "_law_shift" s_law_shift f__law_shift fd__law_shift
  g__law_shift : mg "_law_shift" = some (.ref f__law_shift)
  b__law_shift : Binds K fd__law_shift ["op", "w", "x", "y"] []
  f__law_divide : Addr
  fd__law_divide : FuncData
  F__law_divide : Fun K "_law_divide" "_law_divide" s_law_divide f__law_divide fd__law_divide
  g__law_divide : mg "_law_divide" = some (.ref f__law_divide)
  b__law_divide : Binds K fd__law_divide ["op", "w", "x", "y"] []
  f__law_binary : Addr
  fd__law_binary : FuncData
  F__law_binary : Fun K "_law_binary" "_law_binary" s_law_binary f__law_binary fd__law_binary
  g__law_binary : mg "_law_binary" = some (.ref f__law_binary)
  b__law_binary : Binds K fd__law_binary ["op", "w", "x", "y"] []
  f__law_compare : Addr
  fd__law_compare : FuncData
  F__law_compare : Fun K "_law_compare" "_law_compare" s_law_compare f__law_compare fd__law_compare
  g__law_compare : mg "_law_compare" = some (.ref f__law_compare)
  b__law_compare : Binds K fd__law_compare ["predicate", "w", "x", "y"] []
  f__law_cast : Addr
  fd__law_cast : FuncData
  F__law_cast : Fun K "_law_cast" "_law_cast" s_law_cast f__law_cast fd__law_cast
  g__law_cast : mg "_law_cast" = some (.ref f__law_cast)
  b__law_cast : Binds K fd__law_cast ["op", "v", "w", "x"] []
  f__law_member : Addr
  fd__law_member : FuncData
  F__law_member : Fun K "_law_member" "_law_member" s_law_member f__law_member fd__law_member
  g__law_member : mg "_law_member" = some (.ref f__law_member)
  b__law_member : Binds K fd__law_member ["bounds", "value"] []
  f__law_is_range : Addr
  fd__law_is_range : FuncData
  F__law_is_range : Fun K "_law_is_range" "_law_is_range" s_law_is_range f__law_is_range fd__law_is_range
  g__law_is_range : mg "_law_is_range" = some (.ref f__law_is_range)
  b__law_is_range : Binds K fd__law_is_range ["bounds", "w"] []
  f__law_tight : Addr
  fd__law_tight : FuncData
  F__law_tight : Fun K "_law_tight" "_law_tight" s_law_tight f__law_tight fd__law_tight
  g__law_tight : mg "_law_tight" = some (.ref f__law_tight)
  b__law_tight : Binds K fd__law_tight ["values", "w"] []
  f__law_loose : Addr
  fd__law_loose : FuncData
  F__law_loose : Fun K "_law_loose" "_law_loose" s_law_loose f__law_loose fd__law_loose
  g__law_loose : mg "_law_loose" = some (.ref f__law_loose)
  b__law_loose : Binds K fd__law_loose ["draw", "bounds", "w"] []
  f__law_normal : Addr
  fd__law_normal : FuncData
  F__law_normal : Fun K "_law_normal" "_law_normal" s_law_normal f__law_normal fd__law_normal
  g__law_normal : mg "_law_normal" = some (.ref f__law_normal)
  b__law_normal : Binds K fd__law_normal ["bounds", "w"] []
  f__law_turn : Addr
  fd__law_turn : FuncData
  F__law_turn : Fun K "_law_turn" "_law_turn" s_law_turn f__law_turn fd__law_turn
  g__law_turn : mg "_law_turn" = some (.ref f__law_turn)
  b__law_turn : Binds K fd__law_turn ["bounds", "w"] []
  f__law_low : Addr
  fd__law_low : FuncData
  F__law_low : Fun K "_law_low" "_law_low" s_law_low f__law_low fd__law_low
  g__law_low : mg "_law_low" = some (.ref f__law_low)
  b__law_low : Binds K fd__law_low ["a", "b", "w"] []
  f__law_sum_row : Addr
  fd__law_sum_row : FuncData
  F__law_sum_row : Fun K "_law_sum_row" "_law_sum_row" s_law_sum_row f__law_sum_row fd__law_sum_row
  g__law_sum_row : mg "_law_sum_row" = some (.ref f__law_sum_row)
  b__law_sum_row : Binds K fd__law_sum_row ["op", "w", "a", "b"] []
  f__law_shift_row : Addr
  fd__law_shift_row : FuncData
  F__law_shift_row : Fun K "_law_shift_row" "_law_shift_row" s_law_shift_row f__law_shift_row fd__law_shift_row
  g__law_shift_row : mg "_law_shift_row" = some (.ref f__law_shift_row)
  b__law_shift_row : Binds K fd__law_shift_row ["op", "w", "a", "b"] []
  f__law_binary_row : Addr
  fd__law_binary_row : FuncData
  F__law_binary_row : Fun K "_law_binary_row" "_law_binary_row" s_law_binary_row f__law_binary_row fd__law_binary_row
  g__law_binary_row : mg "_law_binary_row" = some (.ref f__law_binary_row)
  b__law_binary_row : Binds K fd__law_binary_row ["op", "w", "a", "b"] []
  f__law_order : Addr
  fd__law_order : FuncData
  F__law_order : Fun K "_law_order" "_law_order" s_law_order f__law_order fd__law_order
  g__law_order : mg "_law_order" = some (.ref f__law_order)
  b__law_order : Binds K fd__law_order ["predicate", "w", "a", "b"] []
  f__law_decided : Addr
  fd__law_decided : FuncData
  F__law_decided : Fun K "_law_decided" "_law_decided" s_law_decided f__law_decided fd__law_decided
  g__law_decided : mg "_law_decided" = some (.ref f__law_decided)
  b__law_decided : Binds K fd__law_decided ["predicate", "w", "a", "b"] []
  f__law_exact : Addr
  fd__law_exact : FuncData
  F__law_exact : Fun K "_law_exact" "_law_exact" s_law_exact f__law_exact fd__law_exact
  g__law_exact : mg "_law_exact" = some (.ref f__law_exact)
  b__law_exact : Binds K fd__law_exact ["op", "kind", "data", "kinds", "row"] []
  f__law_transfer : Addr
  fd__law_transfer : FuncData
  F__law_transfer : Fun K "_law_transfer" "_law_transfer" s_law_transfer f__law_transfer fd__law_transfer
  g__law_transfer : mg "_law_transfer" = some (.ref f__law_transfer)
  b__law_transfer : Binds K fd__law_transfer ["op", "kind", "data", "kinds", "ranges"] []
  f__law_values : Addr
  fd__law_values : FuncData
  F__law_values : Fun K "_law_values" "_law_values" s_law_values f__law_values fd__law_values
  g__law_values : mg "_law_values" = some (.ref f__law_values)
  b__law_values : Binds K fd__law_values ["draw", "w"] []
  f__law_case : Addr
  fd__law_case : FuncData
  F__law_case : Fun K "_law_case" "_law_case" s_law_case f__law_case fd__law_case
  g__law_case : mg "_law_case" = some (.ref f__law_case)
  b__law_case : Binds K fd__law_case ["draw"] []
  f__law_due : Addr
  fd__law_due : FuncData
  F__law_due : Fun K "_law_due" "_law_due" s_law_due f__law_due fd__law_due
  g__law_due : mg "_law_due" = some (.ref f__law_due)
  b__law_due : Binds K fd__law_due ["case", "values"] []
  f__law_rows : Addr
  fd__law_rows : FuncData
  F__law_rows : Fun K "_law_rows" "_law_rows" s_law_rows f__law_rows fd__law_rows
  g__law_rows : mg "_law_rows" = some (.ref f__law_rows)
  b__law_rows : Binds K fd__law_rows ["lists"] []
  f_law : Addr
  fd_law : FuncData
  F_law : Fun K "law" "law" slaw f_law fd_law
  g_law : mg "law" = some (.ref f_law)
  b_law : Binds K fd_law ["script"] []
  abs : mg "abs" = none
  min : mg "min" = none
  int : mg "int" = none
  max : mg "max" = none
  len : mg "len" = none
  isinstance : mg "isinstance" = none
  bool : mg "bool" = none
  range : mg "range" = none
  tuple : mg "tuple" = none
  list : mg "list" = none
  a__WIDTHS : Addr
  g__WIDTHS : mg "_WIDTHS" = some (.ref a__WIDTHS)
  kd__WIDTHS : KdL K w a__WIDTHS L__WIDTHS
  a__OPPOSITES : Addr
  g__OPPOSITES : mg "_OPPOSITES" = some (.ref a__OPPOSITES)
  kd__OPPOSITES : KdL K w a__OPPOSITES L__OPPOSITES
  a__SWAPPED : Addr
  g__SWAPPED : mg "_SWAPPED" = some (.ref a__SWAPPED)
  kd__SWAPPED : KdL K w a__SWAPPED L__SWAPPED
  a__ROWS : Addr
  g__ROWS : mg "_ROWS" = some (.ref a__ROWS)
  kf__ROWS : KdF K w a__ROWS [("and", f__and), ("or", f__or), ("xor", f__xor), ("add", f__arithmetic), ("sub", f__arithmetic), ("mul", f__arithmetic), ("shl", f__shift), ("lshr", f__shift), ("ashr", f__shift), ("udiv", f__divide), ("urem", f__divide), ("sdiv", f__divide_signed), ("srem", f__divide_signed)]
section
variable {P : Program} {w : World} {K : PySem.W.Frag} {mg : Str → Option Value} {base : Heap}
/-! ### the numbers that the law draws -/
theorem seed_ok {x y : Int} (h : 0 ≤ x) (h2 : x < 2147483647) (h3 : 0 ≤ y) : 0 ≤ (x * 48271 + y) % 2147483647 ∧ (x * 48271 + y) % 2147483647 < 2147483647 :=
  ⟨Int.emod_nonneg _ (by decide), Int.emod_lt_of_pos _ (by decide)⟩
theorem G__law_take (T : Txt K mg w) : FnOk P w K mg base CX0 1 T.f__law_take T.fd__law_take ["draw", "many"] (toSp K 2 spTake) := by
  refine T.F__law_take.ok sc__law_take (fun vs H Q E h => h.1) (fun cdv A outer s H vs Q E hr h => ?_)
  obtain ⟨_, ex, H0, rs, Φ, wf, ra, ⟨many, rfl, ⟨h0, hm⟩, hΦ⟩, q⟩ := h
  obtain ⟨p, vm, rfl, hp, hvm⟩ : ∃ p vm, vs = [.ref p, vm] ∧ ex = some p ∧ vm = .int many := by
    cases ra with
    | cons a r =>
      cases r with
      | cons b r2 =>
        cases r2
        obtain ⟨p, h1, rfl⟩ := a
        cases b
        exact ⟨p, _, rfl, h1, rfl⟩
  subst hvm
  subst hp
  obtain ⟨c, i, v, sd, cells, hH, hc, hn, hcell, hi, hv, hs0, hs1⟩ := wf.dr p rfl
  have hcH : H c = some (.lst (cells.map V.int)) := wf.sub _ _ hc
  have hcp : c ≠ p := fun z => by rw [z, hn] at hc; cases hc
  have wr : ∀ (i' v' s' : Int), -1 ≤ i' → 0 ≤ v' → 0 ≤ s' → s' < 2147483647 → Wf ⟨K, some p, H, H0⟩ H0 (upd H p (.lst [.ref c, .int i', .int v', .int s'])) := fun i' v' s' a1 a2 a3 a4 =>
    wf.draw (i := i) (v := v) (s := sd) rfl hH a1 a2 a3 a4
  refine ⟨_, (pss_cons (ps_if (pt_cmpR op_eq (pe_ix ix_list (pv 0) pe_int (fun _ _ => rfl)) pe_int (nomark _)) (pss_cons (ps_asg (pe_op op_add (pe_ix ix_list (pv 0) pe_int (fun _ _ => rfl)) pe_int) (pg_sub (pv 0) pe_int set_list))
 (pss_cons (ps_if (pt_cmpR op_lt (pe_ix ix_list (pv 0) pe_int (fun _ _ => rfl)) (pe_callB call_len_seq (by rfl) T.len PySem.boot_len (pa_cons (pe_ix ix_list (pv 0) pe_int (fun _ _ => rfl)) pa_nil)) (nomark _)) (pss_one (ps_asg (pe_ix ix_list (pe_ix ix_list (pv 0) pe_int (fun _ _ => rfl)) (pe_ix ix_list (pv 0) pe_int (fun _ _ => rfl)) (fun _ _ => rfl)) (pg_sub (pv 0) pe_int set_list))) pss_nil)
 (pss_one (ps_if (pt_cmpR op_eq (pe_ix ix_list (pv 0) pe_int (fun _ _ => rfl)) pe_int (nomark _)) (pss_cons (ps_asg (pe_op op_mod (pe_callTy call_int1 (by rfl) T.int (by decide +kernel) (pa_cons (pe_op op_add (pe_op op_mul (pe_ix ix_list (pv 0) pe_int (fun _ _ => rfl)) pe_int) pe_int) pa_nil)) pe_int) (pg_sub (pv 0) pe_int set_list))
 (pss_one (ps_asg (pe_ix ix_list (pv 0) pe_int (fun _ _ => rfl)) (pg_sub (pv 0) pe_int set_list)))) pss_nil)))) pss_nil)
 (pss_cons (ps_set (i := 2) sc__law_take.nd rfl (Or.inl rfl) (pe_op op_mod (pe_callTy call_int1 (by rfl) T.int (by decide +kernel) (pa_cons (pe_ix ix_list (pv 0) pe_int (fun _ _ => rfl)) pa_nil)) (pv 1)))
 (pss_cons (ps_asg (pe_op op_fdivW (pe_ix ix_list (pv 0) pe_int (fun _ _ => rfl)) (pv 1)) (pg_sub (pv 0) pe_int set_list))
 (pss_one (ps_ret (pv 2)))))), ?_⟩
  -- what stands behind the first test
  have rest : ∀ (i' v' s' : Int), -1 ≤ i' → 0 ≤ v' → 0 ≤ s' → s' < 2147483647 → ∀ H', H' p = some (.lst [.ref c, .int i', .int v', .int s']) → (∀ v2 : Int, upd H' p (.lst [.ref c, .int i', .int v2, .int s']) = upd H p (.lst [.ref c, .int i', .int v2, .int s'])) →
      (∀ D : Ends, D.rt = Q → tSeq (tAsg (tOp (rI (fun _ j => 0 < j) fun i j => .int (i % j)) (tCB (fun xs H Q => (∃ i, xs = [.int i] ∧ Q (.int i) H) ∨ ∃ k, xs = [.bl k] ∧ Q (.int (if k then 1 else 0)) H) (tCons (tOp (rIxL K) (tVar 0) (tC (.int 2))) tNil)) (tVar 1)) (gName 2))
        (tSeq (tAsg (tOp (rI CDivW fun i j => .int (i / j)) (tOp (rIxL K) (tVar 0) (tC (.int 2))) (tVar 1)) (gSub (tVar 0) (tC (.int 2)) rSetL)) (tRet (tVar 2))) D [some (.ref p), some (.int many), none] H') := by
    intro i' v' s' a1 a2 a3 a4 H' hp he D hD
    refine ⟨_, rfl, _, _, _, _, rfl, rfl, SqL.of hp, rfl, .inl ⟨v', rfl, _, rfl, v', many, rfl, rfl, h0, ?_⟩⟩
    refine ⟨_, rfl, _, _, _, _, rfl, rfl, SqL.of hp, rfl, _, rfl, v', many, rfl, rfl, wide_div h0 hm (by decide) (by decide), _, rfl, p, _, 2, 2, rfl, rfl, hp, rfl, ?_⟩
    refine ⟨_, rfl, ?_⟩
    show D.rt (.int (v' % many)) (upd H' p (.lst [.ref c, .int i', .int (v' / many), .int s']))
    rw [hD, he]
    exact q H0 _ _ (.d (.int (v' % many))) (wr i' (v' / many) s' a1 (Int.ediv_nonneg a2 (Int.le_of_lt h0)) a3 a4) (.int _) (hΦ _ (Int.emod_nonneg _ (by omega)) (Int.emod_lt_of_pos _ h0))
  refine ⟨_, rfl, _, _, _, _, rfl, rfl, SqL.of hH, rfl, rfl, _, rfl, ite2 (fun e => ?_) (fun e => rest i v sd hi hv hs0 hs1 H hH (fun _ => rfl) _ rfl)⟩
  -- draw[1] = draw[1] + 1
  refine ⟨_, rfl, _, _, _, _, rfl, rfl, SqL.of hH, rfl, _, _, rfl, rfl, _, rfl, p, _, 1, 1, rfl, rfl, hH, rfl, ?_⟩
  have h1 : (upd H p (.lst [.ref c, .int (i + 1), .int v, .int sd])) p = some (.lst [.ref c, .int (i + 1), .int v, .int sd]) := upd_same
  have h1c : (upd H p (.lst [.ref c, .int (i + 1), .int v, .int sd])) c = some (.lst (cells.map V.int)) := by rw [upd_ne hcp]; exact hcH
  -- the last part: a new number, if there is none
  have last : ∀ (v' : Int), 0 ≤ v' → ∀ (H' : Hp) (D : Ends), H' p = some (.lst [.ref c, .int (i + 1), .int v', .int sd]) → (∀ o, upd H' p o = upd H p o) → (∀ v2 s2, 0 ≤ v2 → 0 ≤ s2 → s2 < 2147483647 → ∀ H2, H2 p = some (.lst [.ref c, .int (i + 1), .int v2, .int s2]) → (∀ o, upd H2 p o = upd H p o) → D.nx [some (.ref p), some (.int many), none] H2) →
      tIfS (tTest (tOp rEq (tOp (rIxL K) (tVar 0) (tC (.int 2))) (tC (.int 0)))) (tSeq (tAsg (tOp (rI (fun _ j => 0 < j) fun i j => .int (i % j)) (tCB (fun xs H Q => (∃ i, xs = [.int i] ∧ Q (.int i) H) ∨ ∃ k, xs = [.bl k] ∧ Q (.int (if k then 1 else 0)) H) (tCons (tOp (rI0 fun i j => .int (i + j)) (tOp (rI CMul fun i j => .int (i * j)) (tOp (rIxL K) (tVar 0) (tC (.int 3))) (tC (.int 48271))) (tC (.int 11))) tNil)) (tC (.int 2147483647))) (gSub (tVar 0) (tC (.int 3)) rSetL))
        (tAsg (tOp (rIxL K) (tVar 0) (tC (.int 3))) (gSub (tVar 0) (tC (.int 2)) rSetL))) tNext D [some (.ref p), some (.int many), none] H' := by
    intro v' hv' H' D hp' ho hD
    refine ⟨_, rfl, _, _, _, _, rfl, rfl, SqL.of hp', rfl, rfl, _, rfl, ite2 (fun e => ?_) (fun e => hD v' sd hv' hs0 hs1 H' hp' ho)⟩
    refine ⟨_, rfl, _, _, _, _, rfl, rfl, SqL.of hp', rfl, _, _, rfl, rfl, .inl ⟨by omega, by omega⟩, _, _, rfl, rfl, .inl ⟨_, rfl, _, _, rfl, rfl, (by show (0 : Int) < 2147483647; decide), _, rfl, p, _, 3, 3, rfl, rfl, hp', rfl, ?_⟩⟩
    obtain ⟨g1, g2⟩ := seed_ok (y := 11) hs0 hs1 (by decide)
    refine ⟨_, rfl, _, _, _, _, rfl, rfl, SqL.of upd_same, rfl, _, rfl, p, _, 2, 2, rfl, rfl, upd_same, rfl, ?_⟩
    refine hD _ _ g1 g1 g2 _ upd_same (fun o => ?_)
    rw [upd_upd, upd_upd, ho]
  -- if draw[1] < len(draw[0])
  refine ⟨_, rfl, _, _, _, _, rfl, rfl, SqL.of h1, rfl, _, rfl, _, _, _, _, rfl, rfl, SqL.of h1, rfl, c, _, rfl, .inl (SqL.of h1c), _, _, rfl, rfl, _, rfl, ite2 (fun e2 => ?_) (fun e2 => ?_)⟩
  · have e3 : i + 1 < (cells.length : Int) := by
      have := of_decide_eq_true e2
      rw [List.length_map] at this
      exact this
    obtain ⟨j, hj⟩ : ∃ j : Nat, i + 1 = (j : Int) := ⟨(i + 1).toNat, by omega⟩
    have hjl : j < cells.length := by omega
    have hx : (cells.map V.int)[j]? = some (.int cells[j]) := by rw [List.getElem?_map, List.getElem?_eq_getElem hjl]; rfl
    refine ⟨_, rfl, _, _, _, _, rfl, rfl, SqL.of h1, rfl, _, rfl, _, _, _, _, rfl, rfl, SqL.of h1, rfl, c, _, _, _, rfl, rfl, SqL.of h1c, (by rw [hj]; exact atI_nat hx), _, rfl, p, _, 2, 2, rfl, rfl, h1, rfl, ?_⟩
    refine last cells[j] (hcell _ (List.getElem_mem _)) _ _ upd_same (fun o => by rw [upd_upd, upd_upd]) (fun v2 s2 b1 b2 b3 H2 hp2 ho2 => ?_)
    exact rest (i + 1) v2 s2 (by omega) b1 b2 b3 H2 hp2 (fun _ => ho2 _) _ rfl
  · refine last v hv _ _ h1 (fun o => by rw [upd_upd]) (fun v2 s2 b1 b2 b3 H2 hp2 ho2 => ?_)
    exact rest (i + 1) v2 s2 (by omega) b1 b2 b3 H2 hp2 (fun _ => ho2 _) _ rfl
theorem len__law_take : ∀ rs Φ, spTake rs Φ → rs.length = 2 := spTake_len
theorem G__law_draw (T : Txt K mg w) : FnOk P w K mg base CX0 1 T.f__law_draw T.fd__law_draw ["script"] (spDraw K) := by
  refine T.F__law_draw.ok sc__law_draw (fun vs H Q E h => ?_) (fun cdv A outer s H vs Q E hr h => ?_)
  · obtain ⟨a, ns, rfl, _⟩ := h
    rfl
  · obtain ⟨a, ns, rfl, hS, hlen, k⟩ := h
    refine ⟨_, (pss_cons (ps_set (i := 1) sc__law_draw.nd rfl (Or.inl rfl) pe_int)
 (pss_cons (ps_for PassesOwn.never rfl ((kpi_list (K := K) rfl (pv 0))) (pg_name (i := 2) sc__law_draw.nd rfl (Or.inl rfl)) (pss_one (ps_set (i := 1) sc__law_draw.nd rfl (Or.inl rfl) (pe_op op_mod (pe_callTy call_int1 (by rfl) T.int (by decide +kernel) (pa_cons (pe_op op_add (pe_op op_add (pe_op op_mul (pv 1) pe_int) (pe_op op_mod (pe_callB call_abs (by rfl) T.abs (by decide +kernel) (pa_cons (pe_callTy call_int1 (by rfl) T.int (by decide +kernel) (pa_cons (pv 2) pa_nil)) pa_nil)) pe_int)) pe_int) pa_nil)) pe_int))))
 (pss_one (ps_ret (pe_lst (pa_cons (pe_lc (own := [("cell", 2)]) (g := gName 2) (tt := tYes) rfl sc__law_draw.nd ((kpi_list (K := K) rfl (pv 0))) (blkOk_by (N := ["script", "seed", "cell"]) (sc := defScope s_law_draw) (by decide +kernel)) (fun _ _ _ _ _ => pg_name (i := 2) sc__law_draw.nd rfl (Or.inl rfl)) (fun _ _ _ _ _ => pts_nil) (fun _ _ _ _ _ => (pe_callB call_abs (by rfl) T.abs (by decide +kernel) (pa_cons (pe_callTy call_int1 (by rfl) T.int (by decide +kernel) (pa_cons (pv 2) pa_nil)) pa_nil)))) (pa_cons (pe_un un_neg pe_int) (pa_cons pe_int (pa_cons (pv 1) pa_nil))))))))), ?_⟩
    refine ⟨_, rfl, a, rfl, ⟨_, hS⟩, for_list (K := K) (a := a) (xs := ns.map V.int) (fun i σ H' => ∃ (z : Int) (v : Option V), σ = [some (.ref a), some (.int z), v] ∧ H' = H ∧ 0 ≤ z ∧ z < 2147483647)
      ⟨7, none, rfl, rfl, by decide, by decide⟩ (fun i σ H' _ ⟨_, _, _, e, _⟩ => e ▸ hS) ?_ ?_⟩
    · rintro i y σ H' hi ⟨z, v, rfl, rfl, z0, z1⟩
      obtain ⟨u, rfl⟩ : ∃ u, y = V.int u := by
        rw [List.getElem?_map] at hi
        cases e : ns[i]? with
        | none => rw [e] at hi; cases hi
        | some u => rw [e] at hi; exact ⟨u, (Option.some.inj hi).symm⟩
      refine ⟨_, rfl, _, _, rfl, rfl, .inl ⟨by omega, by omega⟩, _, rfl, .inl ⟨_, rfl, _, rfl, _, _, rfl, rfl, (by show (0 : Int) < 65521; decide), _, _, rfl, rfl, _, _, rfl, rfl, .inl ⟨_, rfl, _, _, rfl, rfl, (by show (0 : Int) < 2147483647; decide), ?_⟩⟩⟩
      exact ⟨_, some (.int u), rfl, rfl, Int.emod_nonneg _ (by decide), Int.emod_lt_of_pos _ (by decide)⟩
    · rintro σ H' ⟨z, v, rfl, rfl, z0, z1⟩
      refine ⟨_, rfl, a, rfl, ⟨_, hS⟩, fun D hD => lc_list (K := K) (a := a) (xs := ns.map V.int) (fun i H2 => ∃ cells : List Int, H2 = upd H' D (.lst (cells.map V.int)) ∧ (∀ x ∈ cells, 0 ≤ x) ∧ cells.length ≤ i)
        ⟨[], rfl, fun _ h => (nomatch h), Nat.le_refl _⟩ (fun i H2 hi ⟨cells, e, _⟩ => ?_) ?_ ?_⟩
      · have sm : Same H' (upd H' D (.lst (cells.map V.int))) := fun b o e => by rw [upd_ne (ne_of_none e hD)]; exact e
        rw [e]
        exact sm.seq hS
      · rintro i y H2 hi ⟨cells, rfl, hc, hl⟩
        have hi63 : i < ns.length := by
          have q := (List.getElem?_eq_some_iff.mp hi).1
          rw [List.length_map] at q
          exact q
        obtain ⟨u, rfl⟩ : ∃ u, y = V.int u := by
          rw [List.getElem?_map] at hi
          cases e : ns[i]? with
          | none => rw [e] at hi; cases hi
          | some u => rw [e] at hi; exact ⟨u, (Option.some.inj hi).symm⟩
        refine ⟨rfl, ?_⟩
        unfold tYes
        dsimp only
        rw [if_pos rfl]
        refine ⟨_, rfl, .inl ⟨_, rfl, _, rfl, cells.map V.int, upd_same, ?_, cells ++ [if u < 0 then -u else u], ?_, ?_, ?_⟩⟩
        · rw [List.length_map]
          exact Nat.lt_of_le_of_lt (Nat.le_trans hl (Nat.le_of_lt (Nat.lt_of_lt_of_le hi63 hlen))) (by decide)
        · rw [upd_upd, List.map_append]
          rfl
        · intro x hx
          rcases List.mem_append.mp hx with hx | hx
          · exact hc x hx
          · rw [List.mem_singleton.mp hx]
            split <;> omega
        · rw [List.length_append]
          exact Nat.add_le_add_right hl 1
      · rintro H2 ⟨cells, rfl, hc, hl⟩
        refine ⟨_, rfl, ?_⟩
        refine ⟨_, rfl, (by show 4 ≤ sizeLine; decide), fun p hp => ?_⟩
        have np : D ≠ p := fun z => by rw [← z, upd_same] at hp; cases hp
        refine k _ p D z cells (fun b o e => ?_) upd_same ?_ np hc z0 z1
        · have e1 : upd H' D (.lst (cells.map V.int)) b = some o := by rw [upd_ne (ne_of_none e hD)]; exact e
          rw [upd_ne (ne_of_none e1 hp)]
          exact e1
        · rw [upd_ne np]
          exact upd_same

/-- the law's own call: how its row is made, then its body by data -/
theorem law_in {Kl : PySem.W.Frag} {a : Addr} {ns : List Int} {H : Hp} {Q : VK} {n : Nat} {t : TS} {d : DS} (hS : SqL Kl H a (ns.map V.int)) (hlen : ns.length ≤ 63) (k : ∀ H', Q (.bl true) H') (hd : ∀ (ex : Option Addr) (He Hf : Hp), SmS ⟨Kl, ex, He, Hf⟩ t d)
    (hp : ∀ raw : V, d { nx := fun _ => False, rt := fun r => r = .d (.bool true) } (some (.raw raw) :: some .drw :: List.replicate n none)) {E : XK} :
    tSeq (tAsg (tCall (spDraw Kl) [] E (tCons (tVar 0) tNil)) (gName 1)) t { nx := fun _ H' => Q .non H', rt := Q } (some (.ref a) :: none :: List.replicate n none) H :=
  ⟨.ref a, rfl, a, ns, rfl, hS, hlen, fun H' p c sd cells sm h1 h2 h3 h4 h5 h6 => law_start h1 h2 h3 h4 h5 h6 hd k hp⟩

def sgn (w : Nat) (x : Int) : Int := if 2 ^ (w - 1) ≤ x then x - 2 ^ w else x
def vp_signed : VSp := fun rs Φ => ∃ (w : Nat) (x : Int), rs = [.d (.int w), .d (.int x)] ∧ 1 ≤ w ∧ w ≤ 64 ∧ Φ (.d (.int (sgn w x)))
theorem len_signed : ∀ rs Φ, vp_signed rs Φ → rs.length = 2 := fun rs Φ ⟨_, _, e, _⟩ => by rw [e]; rfl
theorem cp1 {j : Int} (h : 0 ≤ j) (h2 : j ≤ 1000) : CPow 1 j := ⟨h, by omega, by decide⟩
theorem G_signed (T : Txt K mg w) : FnOk P w K mg base CX0 1 T.f_signed T.fd_signed ["w", "x"] (toSp K 2 vp_signed) := by
  refine fn_ok T.F_signed sc_signed fun cdv A outer s H E hr => ⟨_, (pss_cons (ps_if (pt_cmpR op_ge (pv 1) (pe_op op_shl pe_int (pe_op op_sub (pv 0) pe_int)) (nomark _)) (pss_one (ps_ret (pe_op op_sub (pv 1) (pe_op op_shl pe_int (pv 0))))) pss_nil)
 (pss_one (ps_ret (pv 1)))), _, fun ex He Hf => (sms_seq (sms_if (smt_t (f1 := false) (sm_op (f1 := false) (f2 := false) (opd_I0 (g' := fun i j => .bool (decide (j ≤ i))) fun _ _ => rfl) (sm_var 1) (sm_op (f1 := false) (f2 := false) (opd_I (g' := fun i j => .int (i * 2 ^ j.toNat)) fun _ _ => rfl) (sm_int _) (sm_op (f1 := false) (f2 := false) (opd_I0 (g' := fun i j => .int (i - j)) fun _ _ => rfl) (sm_var 0) (sm_int _)))))
 (sms_ret (sm_op (f1 := false) (f2 := false) (opd_I0 (g' := fun i j => .int (i - j)) fun _ _ => rfl) (sm_var 1) (sm_op (f1 := false) (f2 := false) (opd_I (g' := fun i j => .int (i * 2 ^ j.toNat)) fun _ _ => rfl) (sm_int _) (sm_var 0))))
 sms_next)
 (sms_ret (sm_var 1))), ?_⟩
  rintro rs Φ ⟨w, x, rfl, h1, h2, h⟩
  have e1 : ((w : Int) - 1).toNat = w - 1 := by omega
  simp [e1]
  refine ⟨cp1 (by omega) (by omega), ?_⟩
  unfold sgn at h
  split
  · rename_i hc
    rw [if_pos hc] at h
    exact ⟨cp1 (by omega) (by omega), h⟩
  · rename_i hc
    rw [if_neg hc] at h
    exact h
def vp_wrap : VSp := fun rs Φ => ∃ (w : Nat) (x : Int), rs = [.d (.int w), .d (.int x)] ∧ w ≤ 64 ∧ Φ (.d (.int (x % 2 ^ w)))
theorem len_wrap : ∀ rs Φ, vp_wrap rs Φ → rs.length = 2 := fun rs Φ ⟨_, _, e, _⟩ => by rw [e]; rfl
theorem G_wrap (T : Txt K mg w) : FnOk P w K mg base CX0 1 T.f_wrap T.fd_wrap ["w", "n"] (toSp K 2 vp_wrap) := by
  refine fn_ok T.F_wrap sc_wrap fun cdv A outer s H E hr => ⟨_, (pss_one (ps_ret (pe_op op_and (pv 1) (pe_op op_sub (pe_op op_shl pe_int (pv 0)) pe_int)))), _, fun ex He Hf => (sms_ret (sm_op (f1 := false) (f2 := false) (opd_I0 (g' := fun i j => .int (Builtin.bitAnd i j)) fun _ _ => rfl) (sm_var 1) (sm_op (f1 := false) (f2 := false) (opd_I0 (g' := fun i j => .int (i - j)) fun _ _ => rfl) (sm_op (f1 := false) (f2 := false) (opd_I (g' := fun i j => .int (i * 2 ^ j.toNat)) fun _ _ => rfl) (sm_int _) (sm_var 0)) (sm_int _)))), ?_⟩
  rintro rs Φ ⟨w, x, rfl, h2, h⟩
  simp
  rw [PySem.W.kbt_mask]
  exact ⟨cp1 (by omega) (by omega), h⟩
def Val (w : Nat) (x : Int) : Prop := 0 ≤ x ∧ x < 2 ^ w
theorem pow_le64 {w : Nat} (h : w ≤ 64) : (2 : Int) ^ w ≤ 18446744073709551616 := by
  have := Nat.pow_le_pow_right (n := 2) (by decide) h
  rw [← PySem.W.kbt_cast]
  exact Int.ofNat_le.mpr this
theorem pow_half {w : Nat} (h1 : 1 ≤ w) : (2 : Int) ^ w = 2 * 2 ^ (w - 1) := by
  obtain ⟨k, rfl⟩ : ∃ k, w = k + 1 := ⟨w - 1, by omega⟩
  rw [Int.pow_succ, Nat.add_sub_cancel, Int.mul_comm]
theorem sgn_bd {w : Nat} {x : Int} (h1 : 1 ≤ w) (h : Val w x) : -(2 ^ (w - 1)) ≤ sgn w x ∧ sgn w x < 2 ^ (w - 1) := by
  have := pow_half h1
  obtain ⟨a, b⟩ := h
  unfold sgn
  split <;> omega
theorem sgn_zero {w : Nat} {x : Int} (h1 : 1 ≤ w) (h : Val w x) (h0 : ¬ x = 0) : ¬ sgn w x = 0 := by
  have := pow_half h1
  obtain ⟨a, b⟩ := h
  unfold sgn
  split <;> omega
theorem pow_pos2 (w : Nat) : (0 : Int) < 2 ^ w := PySem.W.kbt_pos w
theorem minI (a b : Int) : (if b < a then b else a) = min a b := by omega
theorem log2_le {n k : Nat} (h : n < 2 ^ k) (hk : 0 < k) (hk2 : k ≤ 9000) : n.log2 < 9000 := Nat.lt_of_lt_of_le (PySem.Flt.log2_lt_of hk h) hk2
theorem cdw {i j : Int} (h : 0 < j) (h2 : j ≤ 18446744073709551616) : CDivW i j := ⟨h, log2_le (k := 65) (by omega) (by decide) (by decide)⟩

/-- the quotient toward zero -/
def tz (a b : Int) : Int := if (a < 0) ↔ (b < 0) then (a.natAbs / b.natAbs : Nat) else -((a.natAbs / b.natAbs : Nat) : Int)
def divd (op : Str) (w : Nat) (x y : Int) : PyData :=
  if y = 0 then .none else if op = "udiv" then .int (x / y) else if op = "urem" then .int (x % y) else
  if op = "sdiv" then .int (tz (sgn w x) (sgn w y) % 2 ^ w) else .int ((sgn w x - tz (sgn w x) (sgn w y) * sgn w y) % 2 ^ w)
def vp__divided : VSp := fun rs Φ => ∃ (op : Str) (w : Nat) (x y : Int), rs = [.d (.str op), .d (.int w), .d (.int x), .d (.int y)] ∧ (op = "udiv" ∨ op = "urem" ∨ op = "sdiv" ∨ op = "srem") ∧ 1 ≤ w ∧ w ≤ 64 ∧ Val w x ∧ Val w y ∧ Φ (.d (divd op w x y))
theorem len__divided : ∀ rs Φ, vp__divided rs Φ → rs.length = 4 := fun rs Φ ⟨_, _, _, _, e, _⟩ => by rw [e]; rfl
theorem absI (a : Int) : (if a < 0 then -a else a) = (a.natAbs : Int) := by omega
theorem G__divided (T : Txt K mg w) : FnOk P w K mg base CX0 2 T.f__divided T.fd__divided ["op", "w", "x", "y"] (toSp K 4 vp__divided) := by
  refine fn_ok T.F__divided sc__divided fun cdv A outer s H E hr => ⟨_, (pss_cons (ps_if (pt_cmpR op_eq (pv 3) pe_int (nomark _)) (pss_one (ps_ret pe_non)) pss_nil)
 (pss_cons (ps_if (pt_cmpR op_eq (pv 0) pe_str (nomark _)) (pss_one (ps_ret (pe_op op_fdivW (pv 2) (pv 3)))) pss_nil)
 (pss_cons (ps_if (pt_cmpR op_eq (pv 0) pe_str (nomark _)) (pss_one (ps_ret (pe_op op_mod (pv 2) (pv 3)))) pss_nil)
 (pss_cons (ps_par (by rfl) sc__divided.nd rfl rfl (by decide) rfl rfl (pa_cons (pe_call (G_signed T) hr (by rfl) T.g_signed T.F_signed.kp T.b_signed .nil pass0 (pa_cons (pv 1) (pa_cons (pv 2) pa_nil))) (pa_cons (pe_call (G_signed T) hr (by rfl) T.g_signed T.F_signed.kp T.b_signed .nil pass0 (pa_cons (pv 1) (pa_cons (pv 3) pa_nil))) pa_nil)) (by rfl))
 (pss_cons (ps_set (i := 4) sc__divided.nd rfl (Or.inl rfl) (pe_op op_fdivW (pe_callB call_abs (by rfl) T.abs (by decide +kernel) (pa_cons (pv 5) pa_nil)) (pe_callB call_abs (by rfl) T.abs (by decide +kernel) (pa_cons (pv 6) pa_nil))))
 (pss_cons (ps_if (pt_cmpR op_ne (pe_cmpR op_lt (pv 5) pe_int (nomark _)) (pe_cmpR op_lt (pv 6) pe_int (nomark _)) (nomark _)) (pss_one (ps_set (i := 4) sc__divided.nd rfl (Or.inl rfl) (pe_un un_neg (pv 4)))) pss_nil)
 (pss_cons (ps_if (pt_cmpR op_eq (pv 0) pe_str (nomark _)) (pss_one (ps_ret (pe_call (G_wrap T) hr (by rfl) T.g_wrap T.F_wrap.kp T.b_wrap .nil pass0 (pa_cons (pv 1) (pa_cons (pv 4) pa_nil))))) pss_nil)
 (pss_one (ps_ret (pe_call (G_wrap T) hr (by rfl) T.g_wrap T.F_wrap.kp T.b_wrap .nil pass0 (pa_cons (pv 1) (pa_cons (pe_op op_sub (pv 5) (pe_op op_mul (pv 4) (pv 6))) pa_nil)))))))))))), _, fun ex He Hf => (sms_seq (sms_if (smt_t (f1 := false) (sm_op (f1 := false) (f2 := false) opd_eq (sm_var 3) (sm_int _)))
 (sms_ret sm_non)
 sms_next)
 (sms_seq (sms_if (smt_t (f1 := false) (sm_op (f1 := false) (f2 := false) opd_eq (sm_var 0) (sm_str _)))
 (sms_ret (sm_op (f1 := false) (f2 := false) (opd_I (g' := fun i j => .int (i / j)) fun _ _ => rfl) (sm_var 2) (sm_var 3)))
 sms_next)
 (sms_seq (sms_if (smt_t (f1 := false) (sm_op (f1 := false) (f2 := false) opd_eq (sm_var 0) (sm_str _)))
 (sms_ret (sm_op (f1 := false) (f2 := false) (opd_I (g' := fun i j => .int (i % j)) fun _ _ => rfl) (sm_var 2) (sm_var 3)))
 sms_next)
 (sms_seq (sms_par 5 6 (sm_call len_signed (smq_cons (sm_var 1) (smq_cons (sm_var 2) smq_nil))) (sm_call len_signed (smq_cons (sm_var 1) (smq_cons (sm_var 3) smq_nil))))
 (sms_seq (sms_asg (sm_op (f1 := false) (f2 := false) (opd_I (g' := fun i j => .int (i / j)) fun _ _ => rfl) (sm_cb (f1 := false) cbd_abs (sma_cons (sm_var 5) sma_nil)) (sm_cb (f1 := false) cbd_abs (sma_cons (sm_var 6) sma_nil))) (smg_name 4))
 (sms_seq (sms_if (smt_t (f1 := false) (sm_op (f1 := false) (f2 := false) opd_ne (sm_op (f1 := false) (f2 := false) (opd_I0 (g' := fun i j => .bool (decide (i < j))) fun _ _ => rfl) (sm_var 5) (sm_int _)) (sm_op (f1 := false) (f2 := false) (opd_I0 (g' := fun i j => .bool (decide (i < j))) fun _ _ => rfl) (sm_var 6) (sm_int _))))
 (sms_asg (sm_un (f1 := false) (g' := fun i => .int (-i)) (fun _ => rfl) (sm_var 4)) (smg_name 4))
 sms_next)
 (sms_seq (sms_if (smt_t (f1 := false) (sm_op (f1 := false) (f2 := false) opd_eq (sm_var 0) (sm_str _)))
 (sms_ret (sm_call len_wrap (smq_cons (sm_var 1) (smq_cons (sm_var 4) smq_nil))))
 sms_next)
 (sms_ret (sm_call len_wrap (smq_cons (sm_var 1) (smq_cons (sm_op (f1 := false) (f2 := false) (opd_I0 (g' := fun i j => .int (i - j)) fun _ _ => rfl) (sm_var 5) (sm_op (f1 := false) (f2 := false) (opd_I (g' := fun i j => .int (i * j)) fun _ _ => rfl) (sm_var 4) (sm_var 6))) smq_nil))))))))))), ?_⟩
  rintro rs Φ ⟨op, w, x, y, rfl, ho, h1, h2, hx, hy, h⟩
  have p64 := pow_le64 h2
  have ph := pow_half h1
  by_cases hy0 : y = 0
  · simp [hy0, divd] at h ⊢
    exact h
  have sb := sgn_bd h1 hy
  have s0 := sgn_zero h1 hy hy0
  have sa := sgn_bd h1 hx
  obtain ⟨x0, x1⟩ := hx
  obtain ⟨y0, y1⟩ := hy
  have qa : (if sgn w x < 0 then -(sgn w x) else sgn w x) / (if sgn w y < 0 then -(sgn w y) else sgn w y) = (((sgn w x).natAbs / (sgn w y).natAbs : Nat) : Int) := by
    rw [absI, absI]
    push_cast
    rfl
  have cd : CDivW (if sgn w x < 0 then -(sgn w x) else sgn w x) (if sgn w y < 0 then -(sgn w y) else sgn w y) := by
    rw [absI, absI]
    exact cdw (by omega) (by omega)
  rcases ho with rfl | rfl | rfl | rfl
  · simp [hy0, divd] at h ⊢
    exact ⟨cdw (by omega) (by omega), h⟩
  · simp [hy0, divd] at h ⊢
    exact ⟨by omega, h⟩
  · simp [hy0, divd] at h ⊢
    refine ⟨w, x, rfl, h1, h2, w, y, rfl, h1, h2, _, rfl, _, rfl, cd, _, rfl, _, rfl, ?_⟩
    rw [qa]
    unfold tz at h
    by_cases hs : sgn w x < 0 ↔ sgn w y < 0
    · rw [if_pos hs] at h
      exact .inl ⟨hs, w, _, rfl, h2, h⟩
    · rw [if_neg hs] at h
      exact .inr ⟨hs, w, _, rfl, h2, h⟩
  · simp [hy0, divd] at h ⊢
    refine ⟨w, x, rfl, h1, h2, w, y, rfl, h1, h2, _, rfl, _, rfl, cd, _, rfl, _, rfl, ?_⟩
    rw [qa]
    unfold tz at h
    by_cases hs : sgn w x < 0 ↔ sgn w y < 0
    · rw [if_pos hs] at h
      refine .inl ⟨hs, ?_⟩
      simp at h ⊢
      exact ⟨.inr ⟨by omega, by omega⟩, w, _, rfl, h2, h⟩
    · rw [if_neg hs] at h
      refine .inr ⟨hs, ?_⟩
      simp at h ⊢
      exact ⟨.inr ⟨by omega, by omega⟩, w, _, rfl, h2, h⟩
def shf (op : Str) (w : Nat) (x y : Int) : PyData :=
  if op = "ashr" then .int (sgn w x / 2 ^ (min y w).toNat % 2 ^ w) else if (w : Int) ≤ y then .int 0 else if op = "shl" then .int (x * 2 ^ y.toNat % 2 ^ w) else .int (x / 2 ^ y.toNat)
def vp__shifted : VSp := fun rs Φ => ∃ (op : Str) (w : Nat) (x y : Int), rs = [.d (.str op), .d (.int w), .d (.int x), .d (.int y)] ∧ (op = "shl" ∨ op = "lshr" ∨ op = "ashr") ∧ 1 ≤ w ∧ w ≤ 64 ∧ Val w x ∧ Val w y ∧ Φ (.d (shf op w x y))
theorem len__shifted : ∀ rs Φ, vp__shifted rs Φ → rs.length = 4 := fun rs Φ ⟨_, _, _, _, e, _⟩ => by rw [e]; rfl
theorem G__shifted (T : Txt K mg w) : FnOk P w K mg base CX0 2 T.f__shifted T.fd__shifted ["op", "w", "x", "y"] (toSp K 4 vp__shifted) := by
  refine fn_ok T.F__shifted sc__shifted fun cdv A outer s H E hr => ⟨_, (pss_cons (ps_if (pt_cmpR op_eq (pv 0) pe_str (nomark _)) (pss_one (ps_ret (pe_call (G_wrap T) hr (by rfl) T.g_wrap T.F_wrap.kp T.b_wrap .nil pass0 (pa_cons (pv 1) (pa_cons (pe_op op_shr (pe_call (G_signed T) hr (by rfl) T.g_signed T.F_signed.kp T.b_signed .nil pass0 (pa_cons (pv 1) (pa_cons (pv 2) pa_nil))) (pe_callB (call_min2 rfl) (by rfl) T.min (by decide +kernel) (pa_cons (pv 3) (pa_cons (pv 1) pa_nil)))) pa_nil))))) pss_nil)
 (pss_cons (ps_if (pt_cmpR op_ge (pv 3) (pv 1) (nomark _)) (pss_one (ps_ret pe_int)) pss_nil)
 (pss_cons (ps_if (pt_cmpR op_eq (pv 0) pe_str (nomark _)) (pss_one (ps_ret (pe_call (G_wrap T) hr (by rfl) T.g_wrap T.F_wrap.kp T.b_wrap .nil pass0 (pa_cons (pv 1) (pa_cons (pe_op op_shl (pv 2) (pv 3)) pa_nil))))) pss_nil)
 (pss_one (ps_ret (pe_op op_shr (pv 2) (pv 3))))))), _, fun ex He Hf => (sms_seq (sms_if (smt_t (f1 := false) (sm_op (f1 := false) (f2 := false) opd_eq (sm_var 0) (sm_str _)))
 (sms_ret (sm_call len_wrap (smq_cons (sm_var 1) (smq_cons (sm_op (f1 := false) (f2 := false) (opd_I (g' := fun i j => .int (i / 2 ^ j.toNat)) fun _ _ => rfl) (sm_call len_signed (smq_cons (sm_var 1) (smq_cons (sm_var 2) smq_nil))) (sm_cb (f1 := false) cbd_min (sma_cons (sm_var 3) (sma_cons (sm_var 1) sma_nil)))) smq_nil))))
 sms_next)
 (sms_seq (sms_if (smt_t (f1 := false) (sm_op (f1 := false) (f2 := false) (opd_I0 (g' := fun i j => .bool (decide (j ≤ i))) fun _ _ => rfl) (sm_var 3) (sm_var 1)))
 (sms_ret (sm_int _))
 sms_next)
 (sms_seq (sms_if (smt_t (f1 := false) (sm_op (f1 := false) (f2 := false) opd_eq (sm_var 0) (sm_str _)))
 (sms_ret (sm_call len_wrap (smq_cons (sm_var 1) (smq_cons (sm_op (f1 := false) (f2 := false) (opd_I (g' := fun i j => .int (i * 2 ^ j.toNat)) fun _ _ => rfl) (sm_var 2) (sm_var 3)) smq_nil))))
 sms_next)
 (sms_ret (sm_op (f1 := false) (f2 := false) (opd_I (g' := fun i j => .int (i / 2 ^ j.toNat)) fun _ _ => rfl) (sm_var 2) (sm_var 3)))))), ?_⟩
  rintro rs Φ ⟨op, w, x, y, rfl, ho, h1, h2, hx, hy, h⟩
  have p64 := pow_le64 h2
  obtain ⟨x0, x1⟩ := hx
  obtain ⟨y0, y1⟩ := hy
  rcases ho with rfl | rfl | rfl
  · simp [shf] at h ⊢
    split
    · rename_i hc
      rw [if_pos hc] at h
      exact h
    · rename_i hc
      rw [if_neg hc] at h
      exact ⟨⟨y0, by omega, by omega⟩, w, _, rfl, h2, h⟩
  · simp [shf] at h ⊢
    split
    · rename_i hc
      rw [if_pos hc] at h
      exact h
    · rename_i hc
      rw [if_neg hc] at h
      exact ⟨y0, h⟩
  · simp [shf] at h ⊢
    refine ⟨w, x, rfl, h1, h2, ?_⟩
    simp
    refine ⟨?_, w, _, rfl, h2, ?_⟩
    · rw [minI]; omega
    · rw [minI]; exact h
def bin (op : Str) (w : Nat) (x y : Int) : PyData :=
  if op = "udiv" ∨ op = "urem" ∨ op = "sdiv" ∨ op = "srem" then divd op w x y else if op = "shl" ∨ op = "lshr" ∨ op = "ashr" then shf op w x y else
  if op = "add" then .int ((x + y) % 2 ^ w) else if op = "sub" then .int ((x - y) % 2 ^ w) else if op = "mul" then .int (x * y % 2 ^ w) else
  if op = "and" then .int (Builtin.bitAnd x y) else if op = "or" then .int (Builtin.bitOr x y) else .int (Builtin.bitXor x y)
def ops : List Str := ["add", "sub", "mul", "and", "or", "xor", "shl", "lshr", "ashr", "udiv", "sdiv", "urem", "srem"]
def vp_binary : VSp := fun rs Φ => ∃ (op : Str) (w : Nat) (x y : Int), rs = [.d (.str op), .d (.int w), .d (.int x), .d (.int y)] ∧ op ∈ ops ∧ 1 ≤ w ∧ w ≤ 64 ∧ Val w x ∧ Val w y ∧ Φ (.d (bin op w x y))
theorem len_binary : ∀ rs Φ, vp_binary rs Φ → rs.length = 4 := fun rs Φ ⟨_, _, _, _, e, _⟩ => by rw [e]; rfl
theorem G_binary (T : Txt K mg w) : FnOk P w K mg base CX0 3 T.f_binary T.fd_binary ["op", "w", "x", "y"] (toSp K 4 vp_binary) := by
  refine fn_ok T.F_binary sc_binary fun cdv A outer s H E hr => ⟨_, (pss_cons (ps_if (pt_cmpR (kx_in (K := K) rfl) (pv 0) (pe_tup (pa_cons pe_str (pa_cons pe_str (pa_cons pe_str (pa_cons pe_str pa_nil))))) (by rfl)) (pss_one (ps_ret (pe_call (G__divided T) hr (by rfl) T.g__divided T.F__divided.kp T.b__divided .nil pass0 (pa_cons (pv 0) (pa_cons (pv 1) (pa_cons (pv 2) (pa_cons (pv 3) pa_nil))))))) pss_nil)
 (pss_cons (ps_if (pt_cmpR (kx_in (K := K) rfl) (pv 0) (pe_tup (pa_cons pe_str (pa_cons pe_str (pa_cons pe_str pa_nil)))) (by rfl)) (pss_one (ps_ret (pe_call (G__shifted T) hr (by rfl) T.g__shifted T.F__shifted.kp T.b__shifted .nil pass0 (pa_cons (pv 0) (pa_cons (pv 1) (pa_cons (pv 2) (pa_cons (pv 3) pa_nil))))))) pss_nil)
 (pss_cons (ps_if (pt_cmpR op_eq (pv 0) pe_str (nomark _)) (pss_one (ps_ret (pe_call (G_wrap T) (hr.mono (by decide)) (by rfl) T.g_wrap T.F_wrap.kp T.b_wrap .nil pass0 (pa_cons (pv 1) (pa_cons (pe_op op_add (pv 2) (pv 3)) pa_nil))))) pss_nil)
 (pss_cons (ps_if (pt_cmpR op_eq (pv 0) pe_str (nomark _)) (pss_one (ps_ret (pe_call (G_wrap T) (hr.mono (by decide)) (by rfl) T.g_wrap T.F_wrap.kp T.b_wrap .nil pass0 (pa_cons (pv 1) (pa_cons (pe_op op_sub (pv 2) (pv 3)) pa_nil))))) pss_nil)
 (pss_cons (ps_if (pt_cmpR op_eq (pv 0) pe_str (nomark _)) (pss_one (ps_ret (pe_call (G_wrap T) (hr.mono (by decide)) (by rfl) T.g_wrap T.F_wrap.kp T.b_wrap .nil pass0 (pa_cons (pv 1) (pa_cons (pe_op op_mul (pv 2) (pv 3)) pa_nil))))) pss_nil)
 (pss_cons (ps_if (pt_cmpR op_eq (pv 0) pe_str (nomark _)) (pss_one (ps_ret (pe_op op_and (pv 2) (pv 3)))) pss_nil)
 (pss_cons (ps_if (pt_cmpR op_eq (pv 0) pe_str (nomark _)) (pss_one (ps_ret (pe_op op_or (pv 2) (pv 3)))) pss_nil)
 (pss_one (ps_ret (pe_op op_xor (pv 2) (pv 3))))))))))), _, fun ex He Hf => (sms_seq (sms_if (smt_t (f1 := false) (sm_op (f1 := false) (f2 := false) (opd_in false) (sm_var 0) (sm_tup (sma_cons (sm_str _) (sma_cons (sm_str _) (sma_cons (sm_str _) (sma_cons (sm_str _) sma_nil)))))))
 (sms_ret (sm_call len__divided (smq_cons (sm_var 0) (smq_cons (sm_var 1) (smq_cons (sm_var 2) (smq_cons (sm_var 3) smq_nil))))))
 sms_next)
 (sms_seq (sms_if (smt_t (f1 := false) (sm_op (f1 := false) (f2 := false) (opd_in false) (sm_var 0) (sm_tup (sma_cons (sm_str _) (sma_cons (sm_str _) (sma_cons (sm_str _) sma_nil))))))
 (sms_ret (sm_call len__shifted (smq_cons (sm_var 0) (smq_cons (sm_var 1) (smq_cons (sm_var 2) (smq_cons (sm_var 3) smq_nil))))))
 sms_next)
 (sms_seq (sms_if (smt_t (f1 := false) (sm_op (f1 := false) (f2 := false) opd_eq (sm_var 0) (sm_str _)))
 (sms_ret (sm_call len_wrap (smq_cons (sm_var 1) (smq_cons (sm_op (f1 := false) (f2 := false) (opd_I0 (g' := fun i j => .int (i + j)) fun _ _ => rfl) (sm_var 2) (sm_var 3)) smq_nil))))
 sms_next)
 (sms_seq (sms_if (smt_t (f1 := false) (sm_op (f1 := false) (f2 := false) opd_eq (sm_var 0) (sm_str _)))
 (sms_ret (sm_call len_wrap (smq_cons (sm_var 1) (smq_cons (sm_op (f1 := false) (f2 := false) (opd_I0 (g' := fun i j => .int (i - j)) fun _ _ => rfl) (sm_var 2) (sm_var 3)) smq_nil))))
 sms_next)
 (sms_seq (sms_if (smt_t (f1 := false) (sm_op (f1 := false) (f2 := false) opd_eq (sm_var 0) (sm_str _)))
 (sms_ret (sm_call len_wrap (smq_cons (sm_var 1) (smq_cons (sm_op (f1 := false) (f2 := false) (opd_I (g' := fun i j => .int (i * j)) fun _ _ => rfl) (sm_var 2) (sm_var 3)) smq_nil))))
 sms_next)
 (sms_seq (sms_if (smt_t (f1 := false) (sm_op (f1 := false) (f2 := false) opd_eq (sm_var 0) (sm_str _)))
 (sms_ret (sm_op (f1 := false) (f2 := false) (opd_I0 (g' := fun i j => .int (Builtin.bitAnd i j)) fun _ _ => rfl) (sm_var 2) (sm_var 3)))
 sms_next)
 (sms_seq (sms_if (smt_t (f1 := false) (sm_op (f1 := false) (f2 := false) opd_eq (sm_var 0) (sm_str _)))
 (sms_ret (sm_op (f1 := false) (f2 := false) (opd_I0 (g' := fun i j => .int (Builtin.bitOr i j)) fun _ _ => rfl) (sm_var 2) (sm_var 3)))
 sms_next)
 (sms_ret (sm_op (f1 := false) (f2 := false) (opd_I0 (g' := fun i j => .int (Builtin.bitXor i j)) fun _ _ => rfl) (sm_var 2) (sm_var 3)))))))))), ?_⟩
  rintro rs Φ ⟨op, w, x, y, rfl, ho, h1, h2, hx, hy, h⟩
  have p64 := pow_le64 h2
  have hx' := hx
  have hy' := hy
  obtain ⟨x0, x1⟩ := hx'
  obtain ⟨y0, y1⟩ := hy'
  simp only [ops, List.mem_cons, List.not_mem_nil, or_false] at ho
  rcases ho with rfl | rfl | rfl | rfl | rfl | rfl | rfl | rfl | rfl | rfl | rfl | rfl | rfl
  · simp [bin, inD] at h ⊢
    exact ⟨by decide, by decide, w, _, rfl, h2, h⟩
  · simp [bin, inD] at h ⊢
    exact ⟨by decide, by decide, w, _, rfl, h2, h⟩
  · simp [bin, inD] at h ⊢
    exact ⟨by decide, by decide, .inl ⟨by omega, by omega⟩, w, _, rfl, h2, h⟩
  · simp [bin, inD] at h ⊢
    exact ⟨by decide, by decide, h⟩
  · simp [bin, inD] at h ⊢
    exact ⟨by decide, by decide, h⟩
  · simp [bin, inD] at h ⊢
    exact ⟨by decide, by decide, h⟩
  · simp [bin, inD] at h ⊢
    exact ⟨by decide, by decide, _, w, x, y, rfl, by simp, h1, h2, hx, hy, h⟩
  · simp [bin, inD] at h ⊢
    exact ⟨by decide, by decide, _, w, x, y, rfl, by simp, h1, h2, hx, hy, h⟩
  · simp [bin, inD] at h ⊢
    exact ⟨by decide, by decide, _, w, x, y, rfl, by simp, h1, h2, hx, hy, h⟩
  · simp [bin, inD] at h ⊢
    exact ⟨by decide, _, w, x, y, rfl, by simp, h1, h2, hx, hy, h⟩
  · simp [bin, inD] at h ⊢
    exact ⟨by decide, _, w, x, y, rfl, by simp, h1, h2, hx, hy, h⟩
  · simp [bin, inD] at h ⊢
    exact ⟨by decide, _, w, x, y, rfl, by simp, h1, h2, hx, hy, h⟩
  · simp [bin, inD] at h ⊢
    exact ⟨by decide, _, w, x, y, rfl, by simp, h1, h2, hx, hy, h⟩


def b2i (b : Bool) : Int := if b then 1 else 0
def preds : List Str := ["eq", "ne", "ult", "ule", "ugt", "uge", "slt", "sle", "sgt", "sge"]
def cmpI (p : Str) (w : Nat) (x y : Int) : Bool := if p = "eq" then decide (x = y) else if p = "ne" then !decide (x = y) else if p = "ult" then decide (x < y) else if p = "ule" then decide (x ≤ y) else if p = "ugt" then decide (y < x) else if p = "uge" then decide (y ≤ x) else if p = "slt" then decide (sgn w x < sgn w y) else if p = "sle" then decide (sgn w x ≤ sgn w y) else if p = "sgt" then decide (sgn w y < sgn w x) else decide (sgn w y ≤ sgn w x)
def oppS (p : Str) : Str := if p = "eq" then "ne" else if p = "ne" then "eq" else if p = "ult" then "uge" else if p = "ule" then "ugt" else if p = "ugt" then "ule" else if p = "uge" then "ult" else if p = "slt" then "sge" else if p = "sle" then "sgt" else if p = "sgt" then "sle" else "slt"
def swpS (p : Str) : Str := if p = "eq" then "eq" else if p = "ne" then "ne" else if p = "ult" then "ugt" else if p = "ule" then "uge" else if p = "ugt" then "ult" else if p = "uge" then "ule" else if p = "slt" then "sgt" else if p = "sle" then "sge" else if p = "sgt" then "slt" else "sle"
theorem preds_cases {p : Str} (h : p ∈ preds) : p = "eq" ∨ p = "ne" ∨ p = "ult" ∨ p = "ule" ∨ p = "ugt" ∨ p = "uge" ∨ p = "slt" ∨ p = "sle" ∨ p = "sgt" ∨ p = "sge" := by
  simpa [preds] using h

/-- a relation by its word -/
def ordI (r : Str) (x y : Int) : Bool :=
  if r = "eq" then decide (x = y) else if r = "ne" then !decide (x = y) else if r = "lt" then decide (x < y) else if r = "le" then decide (x ≤ y) else if r = "gt" then decide (y < x) else decide (y ≤ x)
def vp__ordered : VSp := fun rs Φ => ∃ (r : Str) (x y : Int), rs = [.d (.str r), .d (.int x), .d (.int y)] ∧ Φ (.d (.int (b2i (ordI r x y))))
theorem len__ordered : ∀ rs Φ, vp__ordered rs Φ → rs.length = 3 := fun rs Φ ⟨_, _, _, e, _⟩ => by rw [e]; rfl
theorem G__ordered (T : Txt K mg w) : FnOk P w K mg base CX0 1 T.f__ordered T.fd__ordered ["relation", "x", "y"] (toSp K 3 vp__ordered) := by
  refine fn_ok T.F__ordered sc__ordered fun cdv A outer s H E hr => ⟨_, (pss_cons (ps_if (pt_cmpR op_eq (pv 0) pe_str (nomark _)) (pss_one (ps_ret (pe_callTy call_int1 (by rfl) T.int (by decide +kernel) (pa_cons (pe_cmpR op_eq (pv 1) (pv 2) (nomark _)) pa_nil)))) pss_nil)
 (pss_cons (ps_if (pt_cmpR op_eq (pv 0) pe_str (nomark _)) (pss_one (ps_ret (pe_callTy call_int1 (by rfl) T.int (by decide +kernel) (pa_cons (pe_cmpR op_ne (pv 1) (pv 2) (nomark _)) pa_nil)))) pss_nil)
 (pss_cons (ps_if (pt_cmpR op_eq (pv 0) pe_str (nomark _)) (pss_one (ps_ret (pe_callTy call_int1 (by rfl) T.int (by decide +kernel) (pa_cons (pe_cmpR op_lt (pv 1) (pv 2) (nomark _)) pa_nil)))) pss_nil)
 (pss_cons (ps_if (pt_cmpR op_eq (pv 0) pe_str (nomark _)) (pss_one (ps_ret (pe_callTy call_int1 (by rfl) T.int (by decide +kernel) (pa_cons (pe_cmpR op_le (pv 1) (pv 2) (nomark _)) pa_nil)))) pss_nil)
 (pss_cons (ps_if (pt_cmpR op_eq (pv 0) pe_str (nomark _)) (pss_one (ps_ret (pe_callTy call_int1 (by rfl) T.int (by decide +kernel) (pa_cons (pe_cmpR op_gt (pv 1) (pv 2) (nomark _)) pa_nil)))) pss_nil)
 (pss_one (ps_ret (pe_callTy call_int1 (by rfl) T.int (by decide +kernel) (pa_cons (pe_cmpR op_ge (pv 1) (pv 2) (nomark _)) pa_nil))))))))), _, fun ex He Hf => (sms_seq (sms_if (smt_t (f1 := false) (sm_op (f1 := false) (f2 := false) opd_eq (sm_var 0) (sm_str _)))
 (sms_ret (sm_cb (f1 := false) cbd_int (sma_cons (sm_op (f1 := false) (f2 := false) opd_eq (sm_var 1) (sm_var 2)) sma_nil)))
 sms_next)
 (sms_seq (sms_if (smt_t (f1 := false) (sm_op (f1 := false) (f2 := false) opd_eq (sm_var 0) (sm_str _)))
 (sms_ret (sm_cb (f1 := false) cbd_int (sma_cons (sm_op (f1 := false) (f2 := false) opd_ne (sm_var 1) (sm_var 2)) sma_nil)))
 sms_next)
 (sms_seq (sms_if (smt_t (f1 := false) (sm_op (f1 := false) (f2 := false) opd_eq (sm_var 0) (sm_str _)))
 (sms_ret (sm_cb (f1 := false) cbd_int (sma_cons (sm_op (f1 := false) (f2 := false) (opd_I0 (g' := fun i j => .bool (decide (i < j))) fun _ _ => rfl) (sm_var 1) (sm_var 2)) sma_nil)))
 sms_next)
 (sms_seq (sms_if (smt_t (f1 := false) (sm_op (f1 := false) (f2 := false) opd_eq (sm_var 0) (sm_str _)))
 (sms_ret (sm_cb (f1 := false) cbd_int (sma_cons (sm_op (f1 := false) (f2 := false) (opd_I0 (g' := fun i j => .bool (decide (i ≤ j))) fun _ _ => rfl) (sm_var 1) (sm_var 2)) sma_nil)))
 sms_next)
 (sms_seq (sms_if (smt_t (f1 := false) (sm_op (f1 := false) (f2 := false) opd_eq (sm_var 0) (sm_str _)))
 (sms_ret (sm_cb (f1 := false) cbd_int (sma_cons (sm_op (f1 := false) (f2 := false) (opd_I0 (g' := fun i j => .bool (decide (j < i))) fun _ _ => rfl) (sm_var 1) (sm_var 2)) sma_nil)))
 sms_next)
 (sms_ret (sm_cb (f1 := false) cbd_int (sma_cons (sm_op (f1 := false) (f2 := false) (opd_I0 (g' := fun i j => .bool (decide (j ≤ i))) fun _ _ => rfl) (sm_var 1) (sm_var 2)) sma_nil)))))))), ?_⟩
  rintro rs Φ ⟨r, x, y, rfl, h⟩
  by_cases e1 : r = "eq"
  · simpa [ordI, b2i, e1] using h
  by_cases e2 : r = "ne"
  · simpa [ordI, b2i, e2] using h
  by_cases e3 : r = "lt"
  · simpa [ordI, b2i, e3] using h
  by_cases e4 : r = "le"
  · simpa [ordI, b2i, e4] using h
  by_cases e5 : r = "gt"
  · simpa [ordI, b2i, e5] using h
  · simpa [ordI, b2i, e1, e2, e3, e4, e5] using h

@[simp] theorem c0_eq : atI (("eq" : Str).cps.toList) 0 = some 101 := by decide +kernel
@[simp] theorem le_eq : (("eq" : Str).length ≤ sizeLine) = True := eq_true (by decide +kernel)
@[simp] theorem c0_ne : atI (("ne" : Str).cps.toList) 0 = some 110 := by decide +kernel
@[simp] theorem le_ne : (("ne" : Str).length ≤ sizeLine) = True := eq_true (by decide +kernel)
@[simp] theorem c0_ult : atI (("ult" : Str).cps.toList) 0 = some 117 := by decide +kernel
@[simp] theorem le_ult : (("ult" : Str).length ≤ sizeLine) = True := eq_true (by decide +kernel)
@[simp] theorem cut_ult : cutS ("ult" : Str) (some 1) none = ("lt" : Str) := by decide +kernel
@[simp] theorem c0_ule : atI (("ule" : Str).cps.toList) 0 = some 117 := by decide +kernel
@[simp] theorem le_ule : (("ule" : Str).length ≤ sizeLine) = True := eq_true (by decide +kernel)
@[simp] theorem cut_ule : cutS ("ule" : Str) (some 1) none = ("le" : Str) := by decide +kernel
@[simp] theorem c0_ugt : atI (("ugt" : Str).cps.toList) 0 = some 117 := by decide +kernel
@[simp] theorem le_ugt : (("ugt" : Str).length ≤ sizeLine) = True := eq_true (by decide +kernel)
@[simp] theorem cut_ugt : cutS ("ugt" : Str) (some 1) none = ("gt" : Str) := by decide +kernel
@[simp] theorem c0_uge : atI (("uge" : Str).cps.toList) 0 = some 117 := by decide +kernel
@[simp] theorem le_uge : (("uge" : Str).length ≤ sizeLine) = True := eq_true (by decide +kernel)
@[simp] theorem cut_uge : cutS ("uge" : Str) (some 1) none = ("ge" : Str) := by decide +kernel
@[simp] theorem c0_slt : atI (("slt" : Str).cps.toList) 0 = some 115 := by decide +kernel
@[simp] theorem le_slt : (("slt" : Str).length ≤ sizeLine) = True := eq_true (by decide +kernel)
@[simp] theorem cut_slt : cutS ("slt" : Str) (some 1) none = ("lt" : Str) := by decide +kernel
@[simp] theorem c0_sle : atI (("sle" : Str).cps.toList) 0 = some 115 := by decide +kernel
@[simp] theorem le_sle : (("sle" : Str).length ≤ sizeLine) = True := eq_true (by decide +kernel)
@[simp] theorem cut_sle : cutS ("sle" : Str) (some 1) none = ("le" : Str) := by decide +kernel
@[simp] theorem c0_sgt : atI (("sgt" : Str).cps.toList) 0 = some 115 := by decide +kernel
@[simp] theorem le_sgt : (("sgt" : Str).length ≤ sizeLine) = True := eq_true (by decide +kernel)
@[simp] theorem cut_sgt : cutS ("sgt" : Str) (some 1) none = ("gt" : Str) := by decide +kernel
@[simp] theorem c0_sge : atI (("sge" : Str).cps.toList) 0 = some 115 := by decide +kernel
@[simp] theorem le_sge : (("sge" : Str).length ≤ sizeLine) = True := eq_true (by decide +kernel)
@[simp] theorem cut_sge : cutS ("sge" : Str) (some 1) none = ("ge" : Str) := by decide +kernel
@[simp] theorem ch_e_s : ((⟨#[101]⟩ : Str) = ("s" : Str)) = False := eq_false (by decide +kernel)
@[simp] theorem ch_e_u : ((⟨#[101]⟩ : Str) = ("u" : Str)) = False := eq_false (by decide +kernel)
@[simp] theorem ch_n_s : ((⟨#[110]⟩ : Str) = ("s" : Str)) = False := eq_false (by decide +kernel)
@[simp] theorem ch_n_u : ((⟨#[110]⟩ : Str) = ("u" : Str)) = False := eq_false (by decide +kernel)
@[simp] theorem ch_u_s : ((⟨#[117]⟩ : Str) = ("s" : Str)) = False := eq_false (by decide +kernel)
@[simp] theorem ch_u_u : ((⟨#[117]⟩ : Str) = ("u" : Str)) = True := eq_true (by decide +kernel)
@[simp] theorem ch_s_s : ((⟨#[115]⟩ : Str) = ("s" : Str)) = True := eq_true (by decide +kernel)
@[simp] theorem ch_s_u : ((⟨#[115]⟩ : Str) = ("u" : Str)) = False := eq_false (by decide +kernel)
@[simp] theorem gx_eq : ¬ (("ge" : Str) = ("eq" : Str)) := by decide +kernel
@[simp] theorem gx_ne : ¬ (("ge" : Str) = ("ne" : Str)) := by decide +kernel
@[simp] theorem gx_lt : ¬ (("ge" : Str) = ("lt" : Str)) := by decide +kernel
@[simp] theorem gx_le : ¬ (("ge" : Str) = ("le" : Str)) := by decide +kernel
@[simp] theorem gx_gt : ¬ (("ge" : Str) = ("gt" : Str)) := by decide +kernel
def vp_compare : VSp := fun rs Φ => ∃ (p : Str) (w : Nat) (x y : Int), rs = [.d (.str p), .d (.int w), .d (.int x), .d (.int y)] ∧ p ∈ preds ∧ 1 ≤ w ∧ w ≤ 64 ∧ Φ (.d (.int (b2i (cmpI p w x y))))
theorem len_compare : ∀ rs Φ, vp_compare rs Φ → rs.length = 4 := fun rs Φ ⟨_, _, _, _, e, _⟩ => by rw [e]; rfl
theorem G_compare (T : Txt K mg w) : FnOk P w K mg base CX0 2 T.f_compare T.fd_compare ["predicate", "w", "x", "y"] (toSp K 4 vp_compare) := by
  refine fn_ok T.F_compare sc_compare fun cdv A outer s H E hr => ⟨_, (pss_cons (ps_if (pt_cmpR op_eq (pe_ix (kx_seq (K := K) rfl) (pv 0) pe_int (fun _ _ => rfl)) pe_str (nomark _)) (pss_one (ps_ret (pe_call (G__ordered T) hr (by rfl) T.g__ordered T.F__ordered.kp T.b__ordered .nil pass0 (pa_cons (pe_slice sl_str (pv 0) (po_some pe_int) po_none) (pa_cons (pe_call (G_signed T) hr (by rfl) T.g_signed T.F_signed.kp T.b_signed .nil pass0 (pa_cons (pv 1) (pa_cons (pv 2) pa_nil))) (pa_cons (pe_call (G_signed T) hr (by rfl) T.g_signed T.F_signed.kp T.b_signed .nil pass0 (pa_cons (pv 1) (pa_cons (pv 3) pa_nil))) pa_nil)))))) pss_nil)
 (pss_cons (ps_if (pt_cmpR op_eq (pe_ix (kx_seq (K := K) rfl) (pv 0) pe_int (fun _ _ => rfl)) pe_str (nomark _)) (pss_one (ps_ret (pe_call (G__ordered T) hr (by rfl) T.g__ordered T.F__ordered.kp T.b__ordered .nil pass0 (pa_cons (pe_slice sl_str (pv 0) (po_some pe_int) po_none) (pa_cons (pv 2) (pa_cons (pv 3) pa_nil)))))) pss_nil)
 (pss_one (ps_ret (pe_call (G__ordered T) hr (by rfl) T.g__ordered T.F__ordered.kp T.b__ordered .nil pass0 (pa_cons (pv 0) (pa_cons (pv 2) (pa_cons (pv 3) pa_nil)))))))), _, fun ex He Hf => (sms_seq (sms_if (smt_t (f1 := false) (sm_op (f1 := false) (f2 := false) opd_eq (sm_ix (f2 := false) (sm_var 0) (sm_int _)) (sm_str _)))
 (sms_ret (sm_call len__ordered (smq_cons (sm_sl_str (f1 := false) (sm_var 0) (smp_some (f1 := false) (sm_int _)) smp_none) (smq_cons (sm_call len_signed (smq_cons (sm_var 1) (smq_cons (sm_var 2) smq_nil))) (smq_cons (sm_call len_signed (smq_cons (sm_var 1) (smq_cons (sm_var 3) smq_nil))) smq_nil)))))
 sms_next)
 (sms_seq (sms_if (smt_t (f1 := false) (sm_op (f1 := false) (f2 := false) opd_eq (sm_ix (f2 := false) (sm_var 0) (sm_int _)) (sm_str _)))
 (sms_ret (sm_call len__ordered (smq_cons (sm_sl_str (f1 := false) (sm_var 0) (smp_some (f1 := false) (sm_int _)) smp_none) (smq_cons (sm_var 2) (smq_cons (sm_var 3) smq_nil)))))
 sms_next)
 (sms_ret (sm_call len__ordered (smq_cons (sm_var 0) (smq_cons (sm_var 2) (smq_cons (sm_var 3) smq_nil))))))), ?_⟩
  rintro rs Φ ⟨p, w, x, y, rfl, hp, h1, h2, h⟩
  rcases preds_cases hp with rfl | rfl | rfl | rfl | rfl | rfl | rfl | rfl | rfl | rfl
  · simp [cmpI] at h ⊢
    exact ⟨_, x, y, rfl, by simpa [ordI] using h⟩
  · simp [cmpI] at h ⊢
    exact ⟨_, x, y, rfl, by simpa [ordI] using h⟩
  · simp [cmpI] at h ⊢
    exact ⟨_, x, y, rfl, by simpa [ordI] using h⟩
  · simp [cmpI] at h ⊢
    exact ⟨_, x, y, rfl, by simpa [ordI] using h⟩
  · simp [cmpI] at h ⊢
    exact ⟨_, x, y, rfl, by simpa [ordI] using h⟩
  · simp [cmpI] at h ⊢
    exact ⟨_, x, y, rfl, by simpa [ordI] using h⟩
  · simp [cmpI] at h ⊢
    exact ⟨w, x, rfl, h1, h2, w, y, rfl, h1, h2, _, _, _, rfl, by simpa [ordI] using h⟩
  · simp [cmpI] at h ⊢
    exact ⟨w, x, rfl, h1, h2, w, y, rfl, h1, h2, _, _, _, rfl, by simpa [ordI] using h⟩
  · simp [cmpI] at h ⊢
    exact ⟨w, x, rfl, h1, h2, w, y, rfl, h1, h2, _, _, _, rfl, by simpa [ordI] using h⟩
  · simp [cmpI] at h ⊢
    exact ⟨w, x, rfl, h1, h2, w, y, rfl, h1, h2, _, _, _, rfl, by simpa [ordI] using h⟩


def vp_opposite : VSp := fun rs Φ => ∃ (p : Str), rs = [.d (.str p)] ∧ p ∈ preds ∧ Φ (.d (.str (oppS p)))
theorem len_opposite : ∀ rs Φ, vp_opposite rs Φ → rs.length = 1 := fun rs Φ ⟨_, e, _⟩ => by rw [e]; rfl
theorem G_opposite (T : Txt K mg w) : FnOk P w K mg base CX0 1 T.f_opposite T.fd_opposite ["predicate"] (toSp K 1 vp_opposite) := by
  refine fn_ok T.F_opposite sc_opposite fun cdv A outer s H E hr => ⟨_, (pss_one (ps_ret (pe_ix (kx_kdict (K := K) (w := w) rfl rfl) (pe_glob (v := .ref T.a__OPPOSITES) rfl T.g__OPPOSITES rfl) (pv 0) (fun _ _ => rfl)))), _, fun ex He Hf => (sms_ret (sm_kd (f1 := false) rfl T.kd__OPPOSITES (sm_var 0))), ?_⟩
  rintro rs Φ ⟨p, rfl, hp, h⟩
  rcases preds_cases hp with rfl | rfl | rfl | rfl | rfl | rfl | rfl | rfl | rfl | rfl
  · simp [oppS] at h ⊢
    exact ⟨_, by simp [L__OPPOSITES], h⟩
  · simp [oppS] at h ⊢
    exact ⟨_, by simp [L__OPPOSITES], h⟩
  · simp [oppS] at h ⊢
    exact ⟨_, by simp [L__OPPOSITES], h⟩
  · simp [oppS] at h ⊢
    exact ⟨_, by simp [L__OPPOSITES], h⟩
  · simp [oppS] at h ⊢
    exact ⟨_, by simp [L__OPPOSITES], h⟩
  · simp [oppS] at h ⊢
    exact ⟨_, by simp [L__OPPOSITES], h⟩
  · simp [oppS] at h ⊢
    exact ⟨_, by simp [L__OPPOSITES], h⟩
  · simp [oppS] at h ⊢
    exact ⟨_, by simp [L__OPPOSITES], h⟩
  · simp [oppS] at h ⊢
    exact ⟨_, by simp [L__OPPOSITES], h⟩
  · simp [oppS] at h ⊢
    exact ⟨_, by simp [L__OPPOSITES], h⟩

def vp_swapped : VSp := fun rs Φ => ∃ (p : Str), rs = [.d (.str p)] ∧ p ∈ preds ∧ Φ (.d (.str (swpS p)))
theorem len_swapped : ∀ rs Φ, vp_swapped rs Φ → rs.length = 1 := fun rs Φ ⟨_, e, _⟩ => by rw [e]; rfl
theorem G_swapped (T : Txt K mg w) : FnOk P w K mg base CX0 1 T.f_swapped T.fd_swapped ["predicate"] (toSp K 1 vp_swapped) := by
  refine fn_ok T.F_swapped sc_swapped fun cdv A outer s H E hr => ⟨_, (pss_one (ps_ret (pe_ix (kx_kdict (K := K) (w := w) rfl rfl) (pe_glob (v := .ref T.a__SWAPPED) rfl T.g__SWAPPED rfl) (pv 0) (fun _ _ => rfl)))), _, fun ex He Hf => (sms_ret (sm_kd (f1 := false) rfl T.kd__SWAPPED (sm_var 0))), ?_⟩
  rintro rs Φ ⟨p, rfl, hp, h⟩
  rcases preds_cases hp with rfl | rfl | rfl | rfl | rfl | rfl | rfl | rfl | rfl | rfl
  · simp [swpS] at h ⊢
    exact ⟨_, by simp [L__SWAPPED], h⟩
  · simp [swpS] at h ⊢
    exact ⟨_, by simp [L__SWAPPED], h⟩
  · simp [swpS] at h ⊢
    exact ⟨_, by simp [L__SWAPPED], h⟩
  · simp [swpS] at h ⊢
    exact ⟨_, by simp [L__SWAPPED], h⟩
  · simp [swpS] at h ⊢
    exact ⟨_, by simp [L__SWAPPED], h⟩
  · simp [swpS] at h ⊢
    exact ⟨_, by simp [L__SWAPPED], h⟩
  · simp [swpS] at h ⊢
    exact ⟨_, by simp [L__SWAPPED], h⟩
  · simp [swpS] at h ⊢
    exact ⟨_, by simp [L__SWAPPED], h⟩
  · simp [swpS] at h ⊢
    exact ⟨_, by simp [L__SWAPPED], h⟩
  · simp [swpS] at h ⊢
    exact ⟨_, by simp [L__SWAPPED], h⟩

def vp_cast : VSp := fun rs Φ => ∃ (op : Str) (v w : Nat) (x : Int), rs = [.d (.str op), .d (.int v), .d (.int w), .d (.int x)] ∧ 1 ≤ v ∧ v ≤ 64 ∧ w ≤ 64 ∧
  ((op = "sext" ∧ Φ (.d (.int (sgn v x % 2 ^ w)))) ∨ (op = "trunc" ∧ Φ (.d (.int (x % 2 ^ w)))) ∨ (op = "zext" ∧ Φ (.d (.int x))))
theorem len_cast : ∀ rs Φ, vp_cast rs Φ → rs.length = 4 := fun rs Φ ⟨_, _, _, _, e, _⟩ => by rw [e]; rfl
theorem G_cast (T : Txt K mg w) : FnOk P w K mg base CX0 2 T.f_cast T.fd_cast ["op", "v", "w", "x"] (toSp K 4 vp_cast) := by
  refine fn_ok T.F_cast sc_cast fun cdv A outer s H E hr => ⟨_, (pss_cons (ps_if (pt_cmpR op_eq (pv 0) pe_str (nomark _)) (pss_one (ps_ret (pe_call (G_wrap T) hr (by rfl) T.g_wrap T.F_wrap.kp T.b_wrap .nil pass0 (pa_cons (pv 2) (pa_cons (pe_call (G_signed T) hr (by rfl) T.g_signed T.F_signed.kp T.b_signed .nil pass0 (pa_cons (pv 1) (pa_cons (pv 3) pa_nil))) pa_nil))))) pss_nil)
 (pss_cons (ps_if (pt_cmpR op_eq (pv 0) pe_str (nomark _)) (pss_one (ps_ret (pe_call (G_wrap T) hr (by rfl) T.g_wrap T.F_wrap.kp T.b_wrap .nil pass0 (pa_cons (pv 2) (pa_cons (pv 3) pa_nil))))) pss_nil)
 (pss_one (ps_ret (pv 3))))), _, fun ex He Hf => (sms_seq (sms_if (smt_t (f1 := false) (sm_op (f1 := false) (f2 := false) opd_eq (sm_var 0) (sm_str _)))
 (sms_ret (sm_call len_wrap (smq_cons (sm_var 2) (smq_cons (sm_call len_signed (smq_cons (sm_var 1) (smq_cons (sm_var 3) smq_nil))) smq_nil))))
 sms_next)
 (sms_seq (sms_if (smt_t (f1 := false) (sm_op (f1 := false) (f2 := false) opd_eq (sm_var 0) (sm_str _)))
 (sms_ret (sm_call len_wrap (smq_cons (sm_var 2) (smq_cons (sm_var 3) smq_nil))))
 sms_next)
 (sms_ret (sm_var 3)))), ?_⟩
  rintro rs Φ ⟨op, v, w, x, rfl, h1, h2, h3, h⟩
  rcases h with ⟨rfl, h⟩ | ⟨rfl, h⟩ | ⟨rfl, h⟩
  · simp
    exact ⟨v, x, rfl, h1, h2, w, _, rfl, h3, h⟩
  · simp
    exact ⟨w, _, rfl, h3, h⟩
  · simp
    exact h

def vp_width : VSp := fun rs Φ => ∃ (p : Str) (v : PyData), rs = [.d (.str p)] ∧ (p, v) ∈ L__WIDTHS ∧ Φ (.d v)
theorem len_width : ∀ rs Φ, vp_width rs Φ → rs.length = 1 := fun rs Φ ⟨_, _, e, _⟩ => by rw [e]; rfl
theorem G_width (T : Txt K mg w) : FnOk P w K mg base CX0 1 T.f_width T.fd_width ["kind"] (toSp K 1 vp_width) := by
  refine fn_ok T.F_width sc_width fun cdv A outer s H E hr => ⟨_, (pss_one (ps_ret (pe_ix (kx_kdict (K := K) (w := w) rfl rfl) (pe_glob (v := .ref T.a__WIDTHS) rfl T.g__WIDTHS rfl) (pv 0) (fun _ _ => rfl)))), _, fun ex He Hf => (sms_ret (sm_kd (f1 := false) rfl T.kd__WIDTHS (sm_var 0))), ?_⟩
  rintro rs Φ ⟨p, v, rfl, hp, h⟩
  simp
  exact ⟨v, hp, h⟩


/-! ### ranges -/
structure Rg where
  l : Nat
  h : Nat
  z : Nat
  o : Nat
def rg (a : Rg) : PyData := .tuple [.int a.l, .int a.h, .int a.z, .int a.o]
theorem bA (x y : Nat) : Builtin.bitAnd (x : Int) (y : Int) = ((x &&& y : Nat) : Int) := by
  rw [PyProof.Rows.bitAnd_pp (Int.natCast_nonneg _) (Int.natCast_nonneg _)]
  rfl
theorem bO (x y : Nat) : Builtin.bitOr (x : Int) (y : Int) = ((x ||| y : Nat) : Int) := by
  have e : ∀ n : Nat, ¬ (0 : Int) ≤ -(n : Int) - 1 := fun n => by omega
  have e2 : ∀ n : Nat, - (-(n : Int) - 1) - 1 = (n : Int) := fun n => by omega
  unfold Builtin.bitOr
  rw [PySem.W.kbt_not, PySem.W.kbt_not, PySem.W.kbt_not]
  unfold Builtin.bitAnd
  rw [decide_eq_false (e x), decide_eq_false (e y)]
  dsimp only
  rw [PySem.W.kbt_not, PySem.W.kbt_not, PySem.W.kbt_not, e2, e2, e2]
  rfl

def Mem (v : Nat) (a : Rg) : Prop := a.l ≤ v ∧ v ≤ a.h ∧ v &&& a.z = 0 ∧ v &&& a.o = a.o
def nl (vs : List Nat) : List PyData := (vs.map fun n : Nat => (n : Int)).map PyData.int
theorem and_comp {w v : Nat} (h : v < 2 ^ w) : v &&& (2 ^ w - 1 - v) = 0 := by
  refine Nat.eq_of_testBit_eq fun i => ?_
  rw [show 2 ^ w - 1 - v = 2 ^ w - (v + 1) by omega, Nat.testBit_and, Nat.testBit_two_pow_sub_succ h, Nat.zero_testBit]
  cases v.testBit i <;> simp
theorem and_z {v z y : Nat} (h : v &&& z = 0) : v &&& (z &&& y) = 0 := by
  rw [← Nat.and_assoc, h, Nat.zero_and]
theorem and_o {v o y : Nat} (h : v &&& o = o) : v &&& (o &&& y) = o &&& y := by
  rw [← Nat.and_assoc, h]

/-! ### a range made tight -/
def InW (w : Nat) (a : Rg) : Prop := a.l < 2 ^ w ∧ a.h < 2 ^ w ∧ a.z < 2 ^ w ∧ a.o < 2 ^ w
def bitN (n : Nat) : Nat := Builtin.Int.intBits (n : Int)
def fixN (w l h : Nat) : Nat := 2 ^ w - 1 - (2 ^ bitN (l ^^^ h) - 1)
def zOf (w : Nat) (a : Rg) : Nat := a.z ||| (fixN w a.l a.h &&& (2 ^ w - 1 - a.l))
def oOf (w : Nat) (a : Rg) : Nat := a.o ||| (fixN w a.l a.h &&& a.l)
def tgt (w : Nat) (a : Rg) : Option Rg :=
  if a.h < a.l ∨ a.z &&& a.o ≠ 0 then none else
  if zOf w a &&& oOf w a ≠ 0 then none else
  if min a.h (2 ^ w - 1 - zOf w a) < max a.l (oOf w a) then none else
  if max a.l (oOf w a) = min a.h (2 ^ w - 1 - zOf w a) then
    (if max a.l (oOf w a) &&& zOf w a ≠ 0 ∨ max a.l (oOf w a) &&& oOf w a ≠ oOf w a then none else some ⟨max a.l (oOf w a), max a.l (oOf w a), 2 ^ w - 1 - max a.l (oOf w a), max a.l (oOf w a)⟩)
  else some ⟨max a.l (oOf w a), min a.h (2 ^ w - 1 - zOf w a), zOf w a, oOf w a⟩
theorem bits_bd (n : Nat) : n < 2 ^ bitN n := by
  unfold bitN Builtin.Int.intBits
  by_cases c : n = 0
  · subst c; decide
  · have : ¬ ((n : Int) == 0) = true := by simp [c]
    rw [if_neg this, Int.natAbs_natCast]
    exact Nat.lt_log2_self
theorem bits_le {n w : Nat} (h : n < 2 ^ w) : bitN n ≤ w := by
  unfold bitN Builtin.Int.intBits
  by_cases c : n = 0
  · subst c; exact Nat.zero_le _
  · have : ¬ ((n : Int) == 0) = true := by simp [c]
    rw [if_neg this, Int.natAbs_natCast]
    exact (Nat.log2_lt c).mpr h
theorem comp_bit {w x k : Nat} (h : x < 2 ^ w) : (2 ^ w - 1 - x).testBit k = (decide (k < w) && !x.testBit k) := by
  rw [show 2 ^ w - 1 - x = 2 ^ w - (x + 1) by omega, Nat.testBit_two_pow_sub_succ h]
theorem fix_bit {w l h k : Nat} (hl : l < 2 ^ w) (hh : h < 2 ^ w) : (fixN w l h).testBit k = (decide (k < w) && decide (bitN (l ^^^ h) ≤ k)) := by
  have hb := bits_le (Nat.xor_lt_two_pow hl hh)
  have hp := Nat.pow_le_pow_right (n := 2) (by decide) hb
  have h1 := Nat.two_pow_pos (bitN (l ^^^ h))
  unfold fixN
  rw [comp_bit (by omega), Nat.testBit_two_pow_sub_one]
  by_cases c : bitN (l ^^^ h) ≤ k
  · rw [decide_eq_true c, decide_eq_false (show ¬ k < bitN (l ^^^ h) by omega)]; rfl
  · rw [decide_eq_false c, decide_eq_true (show k < bitN (l ^^^ h) by omega)]; simp
theorem same_high {l h v : Nat} (h1 : l ≤ v) (h2 : v ≤ h) {k : Nat} (hk : bitN (l ^^^ h) ≤ k) : v.testBit k = l.testBit k := by
  have hx := bits_bd (l ^^^ h)
  generalize bitN (l ^^^ h) = n at hx hk
  have e : l >>> n = h >>> n := by
    have : (l ^^^ h) >>> n = 0 := by rw [Nat.shiftRight_eq_div_pow]; exact Nat.div_eq_of_lt hx
    rw [Nat.shiftRight_xor_distrib] at this
    refine Nat.eq_of_testBit_eq fun i => ?_
    have := congrArg (fun n => n.testBit i) this
    simp only [Nat.testBit_xor, Nat.zero_testBit] at this
    revert this
    cases (l >>> n).testBit i <;> cases (h >>> n).testBit i <;> simp
  have e2 : v >>> n = l >>> n := by
    rw [Nat.shiftRight_eq_div_pow] at e ⊢
    rw [Nat.shiftRight_eq_div_pow] at e ⊢
    have a := Nat.div_le_div_right (c := 2 ^ n) h1
    have b := Nat.div_le_div_right (c := 2 ^ n) h2
    omega
  obtain ⟨j, rfl⟩ : ∃ j, k = n + j := ⟨k - n, by omega⟩
  rw [← Nat.testBit_shiftRight, ← Nat.testBit_shiftRight, e2]
theorem dis_iff {x y : Nat} : x &&& y = 0 ↔ ∀ k, x.testBit k = true → y.testBit k = false := by
  constructor
  · intro h k hk
    have := congrArg (fun n => n.testBit k) h
    simp only [Nat.testBit_and, Nat.zero_testBit, hk, Bool.true_and] at this
    exact this
  · intro h
    refine Nat.eq_of_testBit_eq fun k => ?_
    rw [Nat.testBit_and, Nat.zero_testBit]
    cases e : x.testBit k with
    | false => rfl
    | true => rw [h k e]; rfl
theorem sup_iff {x y : Nat} : x &&& y = y ↔ ∀ k, y.testBit k = true → x.testBit k = true := by
  constructor
  · intro h k hk
    have := congrArg (fun n => n.testBit k) h
    simp only [Nat.testBit_and, hk, Bool.and_true] at this
    exact this
  · intro h
    refine Nat.eq_of_testBit_eq fun k => ?_
    rw [Nat.testBit_and]
    cases e : y.testBit k with
    | false => simp
    | true => rw [h k e]; rfl
theorem sup_le {x y : Nat} (h : x &&& y = y) : y ≤ x := by
  rw [← h]
  exact Nat.and_le_left
theorem le_comp {w v z : Nat} (hv : v < 2 ^ w) (hz : z < 2 ^ w) (h : v &&& z = 0) : v ≤ 2 ^ w - 1 - z := by
  refine sup_le (sup_iff.mpr fun k hk => ?_)
  rw [comp_bit hz, dis_iff.mp h k hk]
  have : k < w := by
    refine Nat.lt_of_not_le fun c => ?_
    rw [Nat.testBit_lt_two_pow (Nat.lt_of_lt_of_le hv (Nat.pow_le_pow_right (by decide) c))] at hk
    cases hk
  rw [decide_eq_true this]
  rfl
theorem z_bit {w : Nat} {a : Rg} (ha : InW w a) (k : Nat) : (zOf w a).testBit k = (a.z.testBit k || (decide (k < w) && decide (bitN (a.l ^^^ a.h) ≤ k) && !a.l.testBit k)) := by
  unfold zOf
  rw [Nat.testBit_or, Nat.testBit_and, fix_bit ha.1 ha.2.1, comp_bit ha.1]
  cases a.z.testBit k <;> cases decide (k < w) <;> cases decide (bitN (a.l ^^^ a.h) ≤ k) <;> cases a.l.testBit k <;> rfl
theorem o_bit {w : Nat} {a : Rg} (ha : InW w a) (k : Nat) : (oOf w a).testBit k = (a.o.testBit k || (decide (k < w) && decide (bitN (a.l ^^^ a.h) ≤ k) && a.l.testBit k)) := by
  unfold oOf
  rw [Nat.testBit_or, Nat.testBit_and, fix_bit ha.1 ha.2.1]
theorem z_lt {w : Nat} {a : Rg} (ha : InW w a) : zOf w a < 2 ^ w := by
  have := ha.1
  refine Nat.or_lt_two_pow ha.2.2.1 (Nat.lt_of_le_of_lt Nat.and_le_right (by omega))
theorem o_lt {w : Nat} {a : Rg} (ha : InW w a) : oOf w a < 2 ^ w := Nat.or_lt_two_pow ha.2.2.2 (Nat.lt_of_le_of_lt Nat.and_le_right ha.1)
theorem z_sup (w : Nat) (a : Rg) : zOf w a &&& a.z = a.z := sup_iff.mpr fun k hk => by
  unfold zOf
  rw [Nat.testBit_or, hk, Bool.true_or]
theorem o_sup (w : Nat) (a : Rg) : oOf w a &&& a.o = a.o := sup_iff.mpr fun k hk => by
  unfold oOf
  rw [Nat.testBit_or, hk, Bool.true_or]
theorem mem_z {w v : Nat} {a : Rg} (ha : InW w a) (h : Mem v a) : v &&& zOf w a = 0 := dis_iff.mpr fun k hk => by
  rw [z_bit ha, dis_iff.mp h.2.2.1 k hk, Bool.false_or]
  by_cases c : bitN (a.l ^^^ a.h) ≤ k
  · rw [← same_high h.1 h.2.1 c, hk]
    simp
  · rw [decide_eq_false c]
    simp
theorem mem_o {w v : Nat} {a : Rg} (ha : InW w a) (h : Mem v a) : v &&& oOf w a = oOf w a := sup_iff.mpr fun k hk => by
  rw [o_bit ha] at hk
  cases e : a.o.testBit k with
  | true => exact sup_iff.mp h.2.2.2 k e
  | false =>
    rw [e, Bool.false_or, Bool.and_eq_true, Bool.and_eq_true] at hk
    rw [same_high h.1 h.2.1 (of_decide_eq_true hk.1.2)]
    exact hk.2
/-- b claims no less than a, and keeps a's members -/
structure Cl (w : Nat) (a b : Rg) : Prop where
  l : a.l ≤ b.l
  h : b.h ≤ a.h
  z : b.z &&& a.z = a.z
  o : b.o &&& a.o = a.o
  m : ∀ v, v < 2 ^ w → Mem v a → Mem v b
  i : InW w b
theorem Cl.refl {w : Nat} {a : Rg} (h : InW w a) : Cl w a a := ⟨Nat.le_refl _, Nat.le_refl _, Nat.and_self _, Nat.and_self _, fun _ _ h => h, h⟩
theorem sup_trans {x y z : Nat} (h : x &&& y = y) (k : y &&& z = z) : x &&& z = z := sup_iff.mpr fun i hi => sup_iff.mp h i (sup_iff.mp k i hi)
theorem Cl.trans {w : Nat} {a b c : Rg} (h : Cl w a b) (k : Cl w b c) : Cl w a c := ⟨Nat.le_trans h.l k.l, Nat.le_trans k.h h.h, sup_trans k.z h.z, sup_trans k.o h.o, fun v hv hm => k.m v hv (h.m v hv hm), k.i⟩
/-- the bits that both bounds share are known -/
def Kn (w l h : Nat) (b : Rg) : Prop := ∀ k, k < w → bitN (l ^^^ h) ≤ k → (b.z ||| b.o).testBit k = true
structure Good (w : Nat) (b : Rg) : Prop where
  le : b.l ≤ b.h
  dis : b.z &&& b.o = 0
  one : b.l = b.h → b.z = 2 ^ w - 1 - b.l ∧ b.o = b.l
theorem tgt_none {w : Nat} {a : Rg} (ha : InW w a) (h : tgt w a = none) : ∀ v, v < 2 ^ w → ¬ Mem v a := by
  intro v hv hm
  have hz := mem_z ha hm
  have ho := mem_o ha hm
  have hzo : zOf w a &&& oOf w a = 0 := dis_iff.mpr fun k hk => by
    cases e : (oOf w a).testBit k with
    | false => rfl
    | true => rw [dis_iff.mp hz k (sup_iff.mp ho k e)] at hk; cases hk
  have h0 : ¬ (a.h < a.l ∨ a.z &&& a.o ≠ 0) := by
    rintro (c | c)
    · have := hm.1; have := hm.2.1; omega
    · refine c (dis_iff.mpr fun k hk => ?_)
      cases e : a.o.testBit k with
      | false => rfl
      | true => rw [dis_iff.mp hm.2.2.1 k (sup_iff.mp hm.2.2.2 k e)] at hk; cases hk
  have v1 := sup_le ho
  have v2 := le_comp hv (z_lt ha) hz
  have v3 := hm.1
  have v4 := hm.2.1
  unfold tgt at h
  rw [if_neg h0, if_neg (fun c => c hzo), if_neg (by omega)] at h
  split at h
  · rename_i e
    have ev : max a.l (oOf w a) = v := by omega
    rw [ev, if_neg (by
      rintro (c | c)
      · exact c hz
      · exact c ho)] at h
    cases h
  · cases h
theorem tgt_some {w : Nat} {a b : Rg} (ha : InW w a) (h : tgt w a = some b) : Cl w a b ∧ Good w b ∧ Kn w a.l a.h b := by
  unfold tgt at h
  split at h
  · cases h
  rename_i h0
  split at h
  · cases h
  rename_i hzo
  have hzo : zOf w a &&& oOf w a = 0 := Decidable.not_not.mp hzo
  split at h
  · cases h
  rename_i hle
  have zl := z_lt ha
  have ol := o_lt ha
  have al := ha.1
  have ah := ha.2.1
  have kn : ∀ k, k < w → bitN (a.l ^^^ a.h) ≤ k → (zOf w a ||| oOf w a).testBit k = true := fun k hk hb => by
    rw [Nat.testBit_or, z_bit ha, o_bit ha, decide_eq_true hk, decide_eq_true hb]
    cases a.l.testBit k <;> simp
  split at h
  · rename_i e
    split at h
    · cases h
    rename_i hc
    cases h
    generalize hl : max a.l (oOf w a) = l at e hc hle
    have hlw : l < 2 ^ w := by omega
    have c1 : l &&& zOf w a = 0 := Decidable.not_not.mp fun c => hc (.inl c)
    have c2 : l &&& oOf w a = oOf w a := Decidable.not_not.mp fun c => hc (.inr c)
    refine ⟨⟨by show a.l ≤ l; omega, by show l ≤ a.h; omega, ?_, ?_, fun v hv hm => ?_, hlw, hlw, by show 2 ^ w - 1 - l < 2 ^ w; omega, hlw⟩, ⟨Nat.le_refl _, ?_, fun _ => ⟨rfl, rfl⟩⟩, fun k hk hb => ?_⟩
    · refine sup_iff.mpr fun k hk => ?_
      show (2 ^ w - 1 - l).testBit k = true
      rw [comp_bit hlw]
      have hkz := sup_iff.mp (z_sup w a) k hk
      have : k < w := by
        refine Nat.lt_of_not_le fun c => ?_
        rw [Nat.testBit_lt_two_pow (Nat.lt_of_lt_of_le zl (Nat.pow_le_pow_right (by decide) c))] at hkz
        cases hkz
      rw [decide_eq_true this]
      cases q : l.testBit k with
      | false => rfl
      | true => rw [dis_iff.mp c1 k q] at hkz; cases hkz
    · exact sup_trans c2 (o_sup w a)
    · have v1 := sup_le (mem_o ha hm)
      have v2 := le_comp hv zl (mem_z ha hm)
      have v3 := hm.1
      have v4 := hm.2.1
      obtain rfl : v = l := by omega
      exact ⟨Nat.le_refl _, Nat.le_refl _, and_comp hv, Nat.and_self _⟩
    · show (2 ^ w - 1 - l) &&& l = 0
      rw [Nat.and_comm]
      exact and_comp hlw
    · show ((2 ^ w - 1 - l) ||| l).testBit k = true
      rw [Nat.testBit_or, comp_bit hlw, decide_eq_true hk]
      cases l.testBit k <;> rfl
  · rename_i e
    cases h
    refine ⟨⟨by show a.l ≤ max a.l (oOf w a); omega, by show min a.h _ ≤ a.h; omega, z_sup w a, o_sup w a, fun v hv hm => ?_, by show max a.l (oOf w a) < _; omega, by show min a.h _ < _; omega, zl, ol⟩, ⟨by show max a.l (oOf w a) ≤ min a.h _; omega, hzo, fun c => absurd c e⟩, kn⟩
    have v1 := sup_le (mem_o ha hm)
    have v2 := le_comp hv zl (mem_z ha hm)
    have v3 := hm.1
    have v4 := hm.2.1
    exact ⟨by show max a.l (oOf w a) ≤ v; omega, by show v ≤ min a.h _; omega, mem_z ha hm, mem_o ha hm⟩
def meas (w : Nat) (b : Rg) : Nat := (b.h - b.l) + (2 ^ w - 1 - b.z) + (2 ^ w - 1 - b.o)
theorem meas_lt {w : Nat} {a b : Rg} (h : Cl w a b) (hb : b.l ≤ b.h) (ne : b ≠ a) : meas w b < meas w a := by
  have z1 := sup_le h.z
  have o1 := sup_le h.o
  obtain ⟨i1, i2, i3, i4⟩ := h.i
  have h1 := h.l
  have h2 := h.h
  refine Nat.lt_of_not_le fun c => ne ?_
  unfold meas at c
  have e1 : a.l = b.l := by omega
  have e2 : a.h = b.h := by omega
  have e3 : a.z = b.z := by omega
  have e4 : a.o = b.o := by omega
  cases a
  cases b
  simp only at e1 e2 e3 e4
  rw [e1, e2, e3, e4]


theorem pw_nat (w : Nat) : (2 : Int) ^ w - 1 = ((2 ^ w - 1 : Nat) : Int) := by
  have := Nat.two_pow_pos w
  rw [← PySem.W.kbt_cast]
  omega
def KW (k : Str) (w : Nat) : Prop := (k, .int w) ∈ L__WIDTHS ∧ 1 ≤ w ∧ w ≤ 64
def vp_top_of : VSp := fun rs Φ => ∃ (k : Str) (w : Nat), rs = [.d (.str k)] ∧ KW k w ∧ Φ (.d (.int ((2 ^ w - 1 : Nat) : Int)))
theorem len_top_of : ∀ rs Φ, vp_top_of rs Φ → rs.length = 1 := fun rs Φ ⟨_, _, e, _⟩ => by rw [e]; rfl
theorem G_top_of (T : Txt K mg w) : FnOk P w K mg base CX0 2 T.f_top_of T.fd_top_of ["kind"] (toSp K 1 vp_top_of) := by
  refine fn_ok T.F_top_of sc_top_of fun cdv A outer s H E hr => ⟨_, (pss_one (ps_ret (pe_op op_sub (pe_op op_shl pe_int (pe_call (G_width T) hr (by rfl) T.g_width T.F_width.kp T.b_width .nil pass0 (pa_cons (pv 0) pa_nil))) pe_int))), _, fun ex He Hf => (sms_ret (sm_op (f1 := false) (f2 := false) (opd_I0 (g' := fun i j => .int (i - j)) fun _ _ => rfl) (sm_op (f1 := false) (f2 := false) (opd_I (g' := fun i j => .int (i * 2 ^ j.toNat)) fun _ _ => rfl) (sm_int _) (sm_call len_width (smq_cons (sm_var 0) smq_nil))) (sm_int _))), ?_⟩
  rintro rs Φ ⟨k, w, rfl, hk, h⟩
  simp [startD]
  refine ⟨k, _, rfl, hk.1, ?_⟩
  simp
  rw [pw_nat]
  exact ⟨cp1 (by omega) (by have := hk.2.2; omega), h⟩
def vp_single : VSp := fun rs Φ => ∃ (k : Str) (w v : Nat), rs = [.d (.str k), .d (.int v)] ∧ KW k w ∧ v < 2 ^ w ∧ Φ (.d (rg ⟨v, v, 2 ^ w - 1 - v, v⟩))
theorem len_single : ∀ rs Φ, vp_single rs Φ → rs.length = 2 := fun rs Φ ⟨_, _, _, e, _⟩ => by rw [e]; rfl
theorem G_single (T : Txt K mg w) : FnOk P w K mg base CX0 3 T.f_single T.fd_single ["kind", "value"] (toSp K 2 vp_single) := by
  refine fn_ok T.F_single sc_single fun cdv A outer s H E hr => ⟨_, (pss_one (ps_ret (pe_tup (pa_cons (pv 1) (pa_cons (pv 1) (pa_cons (pe_op op_sub (pe_call (G_top_of T) hr (by rfl) T.g_top_of T.F_top_of.kp T.b_top_of .nil pass0 (pa_cons (pv 0) pa_nil)) (pv 1)) (pa_cons (pv 1) pa_nil))))))), _, fun ex He Hf => (sms_ret (sm_tup (sma_cons (sm_var 1) (sma_cons (sm_var 1) (sma_cons (sm_op (f1 := false) (f2 := false) (opd_I0 (g' := fun i j => .int (i - j)) fun _ _ => rfl) (sm_call len_top_of (smq_cons (sm_var 0) smq_nil)) (sm_var 1)) (sma_cons (sm_var 1) sma_nil)))))), ?_⟩
  rintro rs Φ ⟨k, w, v, rfl, hk, hv, h⟩
  simp [startD, le_size, lt_size, cmul_l, cpow_l, cdiv_l]
  refine ⟨k, w, rfl, hk, _, rfl, ?_⟩
  rw [show ((2 ^ w - 1 : Nat) : Int) - (v : Int) = ((2 ^ w - 1 - v : Nat) : Int) by omega]
  exact h
theorem add_or {x y : Nat} (h : x &&& y = 0) : x + y = x ||| y := by
  have hw : x + y < 2 ^ (x + y) := Nat.lt_two_pow_self
  have hx : x < 2 ^ (x + y) := by omega
  have hy : y < 2 ^ (x + y) := by omega
  have e := BitVec.add_eq_or_of_and_eq_zero (BitVec.ofNat (x + y) x) (BitVec.ofNat (x + y) y) (by
    apply BitVec.eq_of_toNat_eq
    rw [BitVec.toNat_and, BitVec.toNat_ofNat, BitVec.toNat_ofNat, Nat.mod_eq_of_lt hx, Nat.mod_eq_of_lt hy, h]
    rfl)
  have e2 := congrArg BitVec.toNat e
  rw [BitVec.toNat_add, BitVec.toNat_or, BitVec.toNat_ofNat, BitVec.toNat_ofNat, Nat.mod_eq_of_lt hx, Nat.mod_eq_of_lt hy, Nat.mod_eq_of_lt hw] at e2
  exact e2
theorem xor_and (x y : Nat) : (x ^^^ y) + (x &&& y) = x ||| y := by
  rw [add_or (dis_iff.mpr fun k hk => by
    rw [Nat.testBit_xor] at hk
    rw [Nat.testBit_and]
    revert hk
    cases x.testBit k <;> cases y.testBit k <;> simp)]
  refine Nat.eq_of_testBit_eq fun k => ?_
  rw [Nat.testBit_or, Nat.testBit_xor, Nat.testBit_and, Nat.testBit_or]
  cases x.testBit k <;> cases y.testBit k <;> rfl
theorem xorN (x y : Nat) : Builtin.bitXor (x : Int) (y : Int) = ((x ^^^ y : Nat) : Int) := by
  unfold Builtin.bitXor
  rw [bO, bA]
  have := xor_and x y
  omega
theorem neN (n : Nat) : ((n : Int) != 0) = decide (n ≠ 0) := by
  rw [Bool.eq_iff_iff]
  simp

structure Ri where
  l : Int
  h : Int
  z : Nat
  o : Nat
def ri (x : Ri) : PyData := .tuple [.int x.l, .int x.h, .int x.z, .int x.o]
def Rg.ri (a : Rg) : Ri := ⟨a.l, a.h, a.z, a.o⟩
theorem ri_rg (a : Rg) : Toy.ri a.ri = rg a := rfl
def vp__tightened : VSp := fun rs Φ => (∃ (k : Str) (w : Nat) (x : Ri), rs = [.d (.str k), .d (ri x)] ∧ KW k w ∧ x.h < x.l ∧ Φ (.d .none)) ∨ ∃ (k : Str) (w : Nat) (a : Rg), rs = [.d (.str k), .d (rg a)] ∧ KW k w ∧ InW w a ∧ Φ (.d (match tgt w a with | none => .none | some b => rg b))
theorem len__tightened : ∀ rs Φ, vp__tightened rs Φ → rs.length = 2 := fun rs Φ h => by
  rcases h with ⟨_, _, _, e, _⟩ | ⟨_, _, _, e, _⟩ <;> rw [e] <;> rfl
theorem G__tightened (T : Txt K mg w) : FnOk P w K mg base CX0 4 T.f__tightened T.fd__tightened ["kind", "bounds"] (toSp K 2 vp__tightened) := by
  refine fn_ok T.F__tightened sc__tightened fun cdv A outer s H E hr => ⟨_, (pss_cons (ps_asg (pv 1) (pg_tup (n := 4) rfl (pgs_cons (pg_name (i := 6) sc__tightened.nd rfl (Or.inl rfl)) (pgs_cons (pg_name (i := 7) sc__tightened.nd rfl (Or.inl rfl)) (pgs_cons (pg_name (i := 4) sc__tightened.nd rfl (Or.inl rfl)) (pgs_cons (pg_name (i := 5) sc__tightened.nd rfl (Or.inl rfl)) pgs_nil))))))
 (pss_cons (ps_set (i := 2) sc__tightened.nd rfl (Or.inl rfl) (pe_call (G_top_of T) (hr.mono (by decide)) (by rfl) T.g_top_of T.F_top_of.kp T.b_top_of .nil pass0 (pa_cons (pv 0) pa_nil)))
 (pss_cons (ps_if (PW.pt (pw_or (pt_cmpR op_gt (pv 6) (pv 7) (nomark _)) (pw_or1 (pt_truth (pe_op op_and (pv 4) (pv 5)) (by intro _; rfl))))) (pss_one (ps_ret pe_non)) pss_nil)
 (pss_cons (ps_set (i := 3) sc__tightened.nd rfl (Or.inl rfl) (pe_op op_sub (pv 2) (pe_op op_sub (pe_op op_shl pe_int (pe_bits (pe_op op_xor (pv 6) (pv 7)))) pe_int)))
 (pss_cons (ps_aug (i := 4) sc__tightened.nd rfl (Or.inl rfl) (pe_op op_and (pv 3) (pe_op op_sub (pv 2) (pv 6))) ip_orI)
 (pss_cons (ps_aug (i := 5) sc__tightened.nd rfl (Or.inl rfl) (pe_op op_and (pv 3) (pv 6)) ip_orI)
 (pss_cons (ps_if (pt_truth (pe_op op_and (pv 4) (pv 5)) (by intro _; rfl)) (pss_one (ps_ret pe_non)) pss_nil)
 (pss_cons (ps_set (i := 6) sc__tightened.nd rfl (Or.inl rfl) (pe_callB (call_max2 rfl) (by rfl) T.max (by decide +kernel) (pa_cons (pv 6) (pa_cons (pv 5) pa_nil))))
 (pss_cons (ps_set (i := 7) sc__tightened.nd rfl (Or.inl rfl) (pe_callB (call_min2 rfl) (by rfl) T.min (by decide +kernel) (pa_cons (pv 7) (pa_cons (pe_op op_sub (pv 2) (pv 4)) pa_nil))))
 (pss_cons (ps_if (pt_cmpR op_gt (pv 6) (pv 7) (nomark _)) (pss_one (ps_ret pe_non)) pss_nil)
 (pss_cons (ps_if (pt_cmpR op_eq (pv 6) (pv 7) (nomark _)) (pss_cons (ps_if (PW.pt (pw_or (pt_truth (pe_op op_and (pv 6) (pv 4)) (by intro _; rfl)) (pw_or1 (pt_cmpR op_ne (pe_op op_and (pv 6) (pv 5)) (pv 5) (nomark _))))) (pss_one (ps_ret pe_non)) pss_nil)
 (pss_one (ps_ret (pe_call (G_single T) hr (by rfl) T.g_single T.F_single.kp T.b_single .nil pass0 (pa_cons (pv 0) (pa_cons (pv 6) pa_nil)))))) pss_nil)
 (pss_one (ps_ret (pe_tup (pa_cons (pv 6) (pa_cons (pv 7) (pa_cons (pv 4) (pa_cons (pv 5) pa_nil)))))))))))))))))), _, fun ex He Hf => (sms_seq (sms_asg (sm_var 1) (smg_tup (smg_cons (smg_name 6) (smg_cons (smg_name 7) (smg_cons (smg_name 4) (smg_cons (smg_name 5) smg_nil))))))
 (sms_seq (sms_asg (sm_call len_top_of (smq_cons (sm_var 0) smq_nil)) (smg_name 2))
 (sms_seq (sms_if (smt_or (smt_t (f1 := false) (sm_op (f1 := false) (f2 := false) (opd_I0 (g' := fun i j => .bool (decide (j < i))) fun _ _ => rfl) (sm_var 6) (sm_var 7))) (smt_tru (f1 := false) (sm_op (f1 := false) (f2 := false) (opd_I0 (g' := fun i j => .int (Builtin.bitAnd i j)) fun _ _ => rfl) (sm_var 4) (sm_var 5))))
 (sms_ret sm_non)
 sms_next)
 (sms_seq (sms_asg (sm_op (f1 := false) (f2 := false) (opd_I0 (g' := fun i j => .int (i - j)) fun _ _ => rfl) (sm_var 2) (sm_op (f1 := false) (f2 := false) (opd_I0 (g' := fun i j => .int (i - j)) fun _ _ => rfl) (sm_op (f1 := false) (f2 := false) (opd_I (g' := fun i j => .int (i * 2 ^ j.toNat)) fun _ _ => rfl) (sm_int _) (sm_bits (f1 := false) (sm_op (f1 := false) (f2 := false) (opd_I0 (g' := fun i j => .int (Builtin.bitXor i j)) fun _ _ => rfl) (sm_var 6) (sm_var 7)))) (sm_int _))) (smg_name 3))
 (sms_seq (sms_aug (f1 := false) 4 (sm_op (f1 := false) (f2 := false) (opd_I0 (g' := fun i j => .int (Builtin.bitAnd i j)) fun _ _ => rfl) (sm_var 3) (sm_op (f1 := false) (f2 := false) (opd_I0 (g' := fun i j => .int (i - j)) fun _ _ => rfl) (sm_var 2) (sm_var 6))))
 (sms_seq (sms_aug (f1 := false) 5 (sm_op (f1 := false) (f2 := false) (opd_I0 (g' := fun i j => .int (Builtin.bitAnd i j)) fun _ _ => rfl) (sm_var 3) (sm_var 6)))
 (sms_seq (sms_if (smt_tru (f1 := false) (sm_op (f1 := false) (f2 := false) (opd_I0 (g' := fun i j => .int (Builtin.bitAnd i j)) fun _ _ => rfl) (sm_var 4) (sm_var 5)))
 (sms_ret sm_non)
 sms_next)
 (sms_seq (sms_asg (sm_cb (f1 := false) cbd_max (sma_cons (sm_var 6) (sma_cons (sm_var 5) sma_nil))) (smg_name 6))
 (sms_seq (sms_asg (sm_cb (f1 := false) cbd_min (sma_cons (sm_var 7) (sma_cons (sm_op (f1 := false) (f2 := false) (opd_I0 (g' := fun i j => .int (i - j)) fun _ _ => rfl) (sm_var 2) (sm_var 4)) sma_nil))) (smg_name 7))
 (sms_seq (sms_if (smt_t (f1 := false) (sm_op (f1 := false) (f2 := false) (opd_I0 (g' := fun i j => .bool (decide (j < i))) fun _ _ => rfl) (sm_var 6) (sm_var 7)))
 (sms_ret sm_non)
 sms_next)
 (sms_seq (sms_if (smt_t (f1 := false) (sm_op (f1 := false) (f2 := false) opd_eq (sm_var 6) (sm_var 7)))
 (sms_seq (sms_if (smt_or (smt_tru (f1 := false) (sm_op (f1 := false) (f2 := false) (opd_I0 (g' := fun i j => .int (Builtin.bitAnd i j)) fun _ _ => rfl) (sm_var 6) (sm_var 4))) (smt_t (f1 := false) (sm_op (f1 := false) (f2 := false) opd_ne (sm_op (f1 := false) (f2 := false) (opd_I0 (g' := fun i j => .int (Builtin.bitAnd i j)) fun _ _ => rfl) (sm_var 6) (sm_var 5)) (sm_var 5))))
 (sms_ret sm_non)
 sms_next)
 (sms_ret (sm_call len_single (smq_cons (sm_var 0) (smq_cons (sm_var 6) smq_nil)))))
 sms_next)
 (sms_ret (sm_tup (sma_cons (sm_var 6) (sma_cons (sm_var 7) (sma_cons (sm_var 4) (sma_cons (sm_var 5) sma_nil))))))))))))))))), ?_⟩
  rintro rs Φ (⟨k, w, x, rfl, hk, hlt, h⟩ | ⟨k, w, a, rfl, hk, ha, h⟩)
  · refine seq_op fun N hN => ?_
    simp [startD, ri]
    refine hN _ ?_
    clear hN N
    refine seq_op fun N hN => ?_
    simp
    refine ⟨k, w, rfl, hk, hN _ ?_⟩
    clear hN N
    simp only [data_d]
    refine seq_op fun N hN => ?_
    simp [hlt]
    exact h
  refine seq_op fun N hN => ?_
  simp [startD, rg]
  refine hN _ ?_
  clear hN N
  refine seq_op fun N hN => ?_
  simp
  refine ⟨k, w, rfl, hk, hN _ ?_⟩
  clear hN N
  simp only [data_d]
  refine seq_op fun N hN => ?_
  refine dIfS_two (fun b => b = decide (a.h < a.l ∨ a.z &&& a.o ≠ 0)) (fun Ψ hΨ => ?_) (fun hb => ?_) (fun hb => ?_)
  · simp only [dOr, dB, dTru, dOp, dVar, gI0]
    simp [bA]
    by_cases c1 : a.h < a.l
    · simp [c1] at hΨ ⊢
      exact hΨ
    · simp only [if_neg c1]
      refine hΨ _ ?_
      by_cases c2 : a.z &&& a.o = 0
      · simp [c1, c2]
      · simp [c1, c2]
  · have hb : a.h < a.l ∨ a.z &&& a.o ≠ 0 := by simpa using hb
    unfold tgt at h
    rw [if_pos hb] at h
    simpa using h
  have hb : ¬ (a.h < a.l ∨ a.z &&& a.o ≠ 0) := by simpa using hb
  simp only [dNext]
  refine hN _ ?_
  clear hN N
  have h1 := ha.1
  have hw := hk.2.2
  have hbw := bits_le (Nat.xor_lt_two_pow ha.1 ha.2.1)
  have hp1 := Nat.pow_le_pow_right (n := 2) (by decide) hbw
  have hp2 := Nat.two_pow_pos (bitN (a.l ^^^ a.h))
  have hp3 := Nat.two_pow_pos w
  have efix : ((2 ^ w - 1 : Nat) : Int) - ((2 : Int) ^ (bitN (a.l ^^^ a.h)) - 1) = ((fixN w a.l a.h : Nat) : Int) := by
    rw [pw_nat]
    unfold fixN
    omega
  have etl : ((2 ^ w - 1 : Nat) : Int) - (a.l : Int) = ((2 ^ w - 1 - a.l : Nat) : Int) := by omega
  refine seq_op fun N hN => ?_
  simp [xorN]
  rw [show Builtin.Int.intBits ((a.l ^^^ a.h : Nat) : Int) = bitN (a.l ^^^ a.h) from rfl]
  refine ⟨cp1 (by omega) (by omega), ?_⟩
  rw [efix]
  refine hN _ ?_
  clear hN N
  refine seq_op fun N hN => ?_
  simp [etl, bA, bO]
  refine hN _ ?_
  clear hN N
  refine seq_op fun N hN => ?_
  simp [bA, bO]
  refine hN _ ?_
  clear hN N
  rw [show a.z ||| (fixN w a.l a.h &&& (2 ^ w - 1 - a.l)) = zOf w a from rfl, show a.o ||| (fixN w a.l a.h &&& a.l) = oOf w a from rfl]
  have zl := z_lt ha
  have ol := o_lt ha
  unfold tgt at h
  rw [if_neg hb] at h
  refine seq_op fun N hN => ?_
  refine dIfS_two (fun b => b = decide (zOf w a &&& oOf w a ≠ 0)) (fun Ψ hΨ => ?_) (fun hb => ?_) (fun hb => ?_)
  · simp [bA]
    refine hΨ _ ?_
    by_cases c2 : zOf w a &&& oOf w a = 0
    · simp [c2]
    · simp [c2]
  · have hb : zOf w a &&& oOf w a ≠ 0 := by simpa using hb
    rw [if_pos hb] at h
    simpa using h
  have hb2 : ¬ zOf w a &&& oOf w a ≠ 0 := by simpa using hb
  rw [if_neg hb2] at h
  simp only [dNext]
  refine hN _ ?_
  clear hN N
  have emax : (if a.l < oOf w a then ((oOf w a : Nat) : Int) else (a.l : Int)) = ((max a.l (oOf w a) : Nat) : Int) := by split <;> omega
  have emin : (if ((2 ^ w - 1 : Nat) : Int) - ((zOf w a : Nat) : Int) < (a.h : Int) then ((2 ^ w - 1 : Nat) : Int) - ((zOf w a : Nat) : Int) else (a.h : Int)) = ((min a.h (2 ^ w - 1 - zOf w a) : Nat) : Int) := by split <;> omega
  refine seq_op fun N hN => ?_
  simp
  rw [emax]
  refine hN _ ?_
  clear hN N
  refine seq_op fun N hN => ?_
  simp [emin]
  refine hN _ ?_
  clear hN N
  have lw : max a.l (oOf w a) < 2 ^ w := by omega
  have hwv : min a.h (2 ^ w - 1 - zOf w a) < 2 ^ w := by omega
  generalize max a.l (oOf w a) = l at lw h
  generalize min a.h (2 ^ w - 1 - zOf w a) = u at hwv h
  refine seq_op fun N hN => ?_
  refine dIfS_two (fun b => b = decide (u < l)) (fun Ψ hΨ => ?_) (fun hb => ?_) (fun hb => ?_)
  · simp
    exact hΨ _ rfl
  · have hb : u < l := by simpa using hb
    rw [if_pos hb] at h
    simpa using h
  have hb3 : ¬ u < l := by simpa using hb
  rw [if_neg hb3] at h
  simp only [dNext]
  refine hN _ ?_
  clear hN N
  refine seq_op fun N hN => ?_
  refine dIfS_two (fun b => b = decide (l = u)) (fun Ψ hΨ => ?_) (fun hb => ?_) (fun hb => ?_)
  · simp
    refine hΨ _ ?_
    rw [Bool.eq_iff_iff]
    simp
    omega
  · have hb : l = u := by simpa using hb
    rw [if_pos hb] at h
    refine seq_op fun M hM => ?_
    refine dIfS_two (fun b => b = decide (l &&& zOf w a ≠ 0 ∨ l &&& oOf w a ≠ oOf w a)) (fun Ψ hΨ => ?_) (fun hb => ?_) (fun hb => ?_)
    · simp only [dOr, dB, dTru, dOp, dVar, gI0]
      simp [bA]
      by_cases c1 : l &&& zOf w a = 0
      · simp only [if_pos c1]
        by_cases c2 : l &&& oOf w a = oOf w a
        · exact .inl ⟨by rw [c2], hΨ _ (by simp [c1, c2])⟩
        · exact .inr ⟨fun e => c2 (Int.ofNat_inj.mp e), hΨ _ (by simp [c1, c2])⟩
      · simp only [if_neg c1]
        exact hΨ _ (by simp [c1])
    · have hb : l &&& zOf w a ≠ 0 ∨ l &&& oOf w a ≠ oOf w a := by simpa using hb
      rw [if_pos hb] at h
      simpa using h
    have hb4 : ¬ (l &&& zOf w a ≠ 0 ∨ l &&& oOf w a ≠ oOf w a) := by simpa using hb
    rw [if_neg hb4] at h
    simp only [dNext]
    refine hM _ ?_
    simp
    exact ⟨k, w, l, rfl, hk, lw, h⟩
  have hb4 : ¬ l = u := by simpa using hb
  rw [if_neg hb4] at h
  simp only [dNext]
  refine hN _ ?_
  simp [le_size, lt_size, cmul_l, cpow_l, cdiv_l]
  exact h


/-! normal: made tight until nothing changes -/
def NormOk (w : Nat) (a : Rg) : Option Rg → Prop
  | none => ∀ v, v < 2 ^ w → ¬ Mem v a
  | some b => Cl w a b ∧ Good w b ∧ Kn w a.l a.h b
instance rgDec : DecidableEq Rg := fun a b => decidable_of_iff (a.l = b.l ∧ a.h = b.h ∧ a.z = b.z ∧ a.o = b.o) (by
  cases a
  cases b
  simp)
def rgO : Option Rg → PyData
  | none => .none
  | some b => rg b
def nextM (w : Nat) (c : Rg) : Option Rg → Nat
  | none => 0
  | some b => if b = c then 0 else meas w b + 1
theorem rg_okd (a : Rg) : Okd 1 (rg a) := .tuple (fun y hy => by
  simp at hy
  rcases hy with rfl | rfl | rfl | rfl <;> exact .int _) (by simp)
theorem rg_sh (a : Rg) : SeqAt.shaped (rg a) = true := (rg_okd a).shaped (by decide)
theorem rg_eqv (a b : Rg) : PyData.eqv (rg a) (rg b) = decide (a = b) := by
  obtain ⟨a1, a2, a3, a4⟩ := a
  obtain ⟨b1, b2, b3, b4⟩ := b
  rw [Bool.eq_iff_iff]
  simp [rg, PyData.eqv, PyData.eqvAll]
  omega
theorem rg_none (a : Rg) : PyData.eqv (rg a) .none = false := by simp [rg, PyData.eqv]
theorem Kn.mono {w l h : Nat} {a b : Rg} (k : Kn w l h a) (c : Cl w a b) : Kn w l h b := fun i hi hb => by
  have := k i hi hb
  rw [Nat.testBit_or, Bool.or_eq_true] at this ⊢
  rcases this with this | this
  · exact .inl (sup_iff.mp c.z i this)
  · exact .inr (sup_iff.mp c.o i this)

/-- what making tight again and again comes to -/
inductive Nm (w : Nat) : Rg → Option Rg → Prop
  | none {a : Rg} (h : tgt w a = none) : Nm w a none
  | fix {a : Rg} (h : tgt w a = some a) : Nm w a (some a)
  | step {a b : Rg} {r : Option Rg} (h : tgt w a = some b) (n : b ≠ a) (k : Nm w b r) : Nm w a r
theorem Nm.uniq {w : Nat} {a : Rg} {r q : Option Rg} (h : Nm w a r) : Nm w a q → r = q := by
  induction h with
  | none h =>
    intro k
    cases k with
    | none _ => rfl
    | fix h2 => rw [h] at h2; cases h2
    | step h2 _ _ => rw [h] at h2; cases h2
  | fix h =>
    intro k
    cases k with
    | none h2 => rw [h] at h2; cases h2
    | fix _ => rfl
    | step h2 n _ => rw [h] at h2; cases h2; exact absurd rfl n
  | step h n _ ih =>
    intro k
    cases k with
    | none h2 => rw [h] at h2; cases h2
    | fix h2 => rw [h] at h2; cases h2; exact absurd rfl n
    | step h2 _ k => rw [h] at h2; cases h2; exact ih k
theorem Nm.total {w : Nat} : ∀ (m : Nat) (a : Rg), InW w a → meas w a < m → ∃ r, Nm w a r
  | 0, _, _, h => absurd h (Nat.not_lt_zero _)
  | m + 1, a, ha, hm => by
    cases e : tgt w a with
    | none => exact ⟨_, .none e⟩
    | some b =>
      by_cases c : b = a
      · subst c; exact ⟨_, .fix e⟩
      · obtain ⟨t1, t2, _⟩ := tgt_some ha e
        obtain ⟨r, hr⟩ := Nm.total m b t1.i (by have := meas_lt t1 t2.le c; omega)
        exact ⟨r, .step e c hr⟩
theorem Nm.ok {w : Nat} {a : Rg} {r : Option Rg} (h : Nm w a r) : InW w a → NormOk w a r := by
  induction h with
  | none h => exact fun ha => tgt_none ha h
  | fix h =>
    intro ha
    obtain ⟨t1, t2, t3⟩ := tgt_some ha h
    exact ⟨t1, t2, t3⟩
  | @step a b r h n _ ih =>
    intro ha
    obtain ⟨t1, t2, t3⟩ := tgt_some ha h
    have := ih t1.i
    cases r with
    | none => exact fun v hv hm => this v hv (t1.m v hv hm)
    | some c => exact ⟨t1.trans this.1, this.2.1, t3.mono this.1⟩
/-- of a range that may be out of bounds -/
def NXok (w : Nat) (x : Ri) : Prop := x.h < x.l ∨ ∃ a, InW w a ∧ x = a.ri
def NX (w : Nat) (x : Ri) (r : Option Rg) : Prop := (x.h < x.l ∧ r = none) ∨ ∃ a, InW w a ∧ x = a.ri ∧ Nm w a r
theorem ri_inj {a b : Rg} (h : a.ri = b.ri) : a = b := by
  cases a
  cases b
  simp [Rg.ri] at h
  obtain ⟨h1, h2, h3, h4⟩ := h
  have := Int.ofNat_inj.mp h1
  have := Int.ofNat_inj.mp h2
  simp_all
theorem tgt_bad {w : Nat} {a : Rg} (h : a.ri.h < a.ri.l) : tgt w a = none := by
  unfold tgt
  have : a.h < a.l := by
    have h : (a.h : Int) < (a.l : Int) := h
    omega
  rw [if_pos (.inl this)]
theorem NX.uniq {w : Nat} {x : Ri} {r q : Option Rg} (h : NX w x r) (k : NX w x q) : r = q := by
  rcases h with ⟨h1, rfl⟩ | ⟨a, ha, rfl, h⟩ <;> rcases k with ⟨k1, rfl⟩ | ⟨b, hb, e, k⟩
  · rfl
  · rw [e] at h1
    exact (Nm.none (tgt_bad h1)).uniq k
  · exact h.uniq (Nm.none (tgt_bad k1))
  · rw [ri_inj e] at h
    exact h.uniq k
theorem NX.total {w : Nat} {x : Ri} (h : NXok w x) : ∃ r, NX w x r := by
  rcases h with h | ⟨a, ha, rfl⟩
  · exact ⟨none, .inl ⟨h, rfl⟩⟩
  · obtain ⟨r, hr⟩ := Nm.total (meas w a + 1) a ha (by omega)
    exact ⟨r, .inr ⟨a, ha, rfl, hr⟩⟩
def Nxt (w : Nat) (c : Rg) (r q : Option Rg) : Prop := match r with
  | none => q = none
  | some b => if b = c then q = some b else Nm w b q
theorem nxt_nm {w : Nat} {c : Rg} {r q : Option Rg} (h : tgt w c = r) (k : Nxt w c r q) : Nm w c q := by
  cases r with
  | none =>
    have k : q = none := k
    subst k
    exact .none h
  | some b =>
    by_cases e : b = c
    · have k : if b = c then q = some b else Nm w b q := k
      rw [if_pos e] at k
      subst k e
      exact .fix h
    · have k : if b = c then q = some b else Nm w b q := k
      rw [if_neg e] at k
      exact .step h e k
def vp_normal : VSp := fun rs Φ => ∃ (k : Str) (w : Nat) (x : Ri), rs = [.d (.str k), .d (ri x)] ∧ KW k w ∧ NXok w x ∧ ∀ r : Option Rg, NX w x r → Φ (.d (rgO r))
theorem len_normal : ∀ rs Φ, vp_normal rs Φ → rs.length = 2 := fun rs Φ ⟨_, _, _, e, _⟩ => by rw [e]; rfl
theorem ri_sh (x : Ri) : SeqAt.shaped (ri x) = true := (Okd.tuple (n := 0) (xs := [.int x.l, .int x.h, .int x.z, .int x.o]) (fun y hy => by
  simp at hy
  rcases hy with rfl | rfl | rfl | rfl <;> exact .int _) (by simp)).shaped (by decide)
theorem G_normal (T : Txt K mg w) : FnOk P w K mg base CX0 5 T.f_normal T.fd_normal ["kind", "bounds"] (toSp K 2 vp_normal) := by
  refine fn_ok T.F_normal sc_normal fun cdv A outer s H E hr => ⟨_, (pss_cons (ps_set (i := 2) sc_normal.nd rfl (Or.inl rfl) pe_non)
 (pss_cons (ps_while PassesOwn.never (PW.pt (pw_and (pt_cmpR op_notN (pv 1) pe_non (nomark _)) (pw_and1 (pt_cmpR (kx_neD (K := K) rfl hr.units) (pv 1) (pv 2) (nomark _))))) (pss_cons (ps_set (i := 2) sc_normal.nd rfl (Or.inl rfl) (pv 1))
 (pss_one (ps_set (i := 1) sc_normal.nd rfl (Or.inl rfl) (pe_call (G__tightened T) hr (by rfl) T.g__tightened T.F__tightened.kp T.b__tightened .nil pass0 (pa_cons (pv 0) (pa_cons (pv 1) pa_nil)))))))
 (pss_one (ps_ret (pv 1))))), _, fun ex He Hf => (sms_seq (sms_asg sm_non (smg_name 2))
 (sms_seq (sms_while (smt_and (smt_t (f1 := false) (sm_op (f1 := false) (f2 := false) opd_notN (sm_var 1) sm_non)) (smt_t (f1 := false) (sm_op (f1 := false) (f2 := false) opd_neD (sm_var 1) (sm_var 2))))
 (sms_seq (sms_asg (sm_var 1) (smg_name 2))
 (sms_asg (sm_call len__tightened (smq_cons (sm_var 0) (smq_cons (sm_var 1) smq_nil))) (smg_name 1))))
 (sms_ret (sm_var 1)))), ?_⟩
  rintro rs Φ ⟨k, w, x, rfl, hk, hx, h⟩
  refine seq_op fun N hN => ?_
  simp [startD]
  refine hN _ ?_
  clear hN N
  refine seq_op fun N hN => ?_
  rcases hx with hx | ⟨a, ha, rfl⟩
  · -- out of order: none at once
    obtain ⟨I, hI⟩ : ∃ I : Nat → Dl → Prop, ∀ m δ, I m δ ↔ (m = 1 ∧ δ = [some (.d (.str k)), some (.d (ri x)), some (.d .none)]) ∨ (m = 0 ∧ δ = [some (.d (.str k)), some (.d .none), some (.d (ri x))]) := ⟨_, fun _ _ => Iff.rfl⟩
    refine dWhile_by I ⟨_, (hI _ _).mpr (.inl ⟨rfl, rfl⟩)⟩ fun m δ hJ => ?_
    rcases (hI _ _).mp hJ with ⟨rfl, rfl⟩ | ⟨rfl, rfl⟩
    · refine ⟨fun b => b = true, fun Ψ hΨ => ?_, fun _ => ?_, fun z => by cases z⟩
      · have := ri_sh x
        simp only [ri] at this
        simp [ri, this, PyData.eqv]
        exact ⟨rfl, hΨ _ rfl⟩
      · refine seq_op fun M hM => ?_
        simp
        refine hM _ ?_
        clear hM M
        simp
        refine .inl ⟨k, w, x, rfl, hk, hx, (hI _ _).mpr (.inr ⟨rfl, rfl⟩)⟩
    · refine ⟨fun b => b = false, fun Ψ hΨ => ?_, (fun z => by cases z), fun _ => hN _ ?_⟩
      · simp
        exact hΨ _ rfl
      · simp
        exact h none (.inl ⟨hx, rfl⟩)
  rw [ri_rg]
  have h : ∀ r, Nm w a r → Φ (.d (rgO r)) := fun r hr => h r (.inr ⟨a, ha, rfl, hr⟩)
  obtain ⟨I, hI⟩ : ∃ I : Nat → Dl → Prop, ∀ m δ, I m δ ↔ (m = meas w a + 1 ∧ δ = [some (.d (.str k)), some (.d (rg a)), some (.d .none)]) ∨ ∃ (c : Rg) (r : Option Rg), InW w c ∧ tgt w c = r ∧ (∀ q, Nxt w c r q → Nm w a q) ∧ m = nextM w c r ∧ m ≤ meas w a ∧ δ = [some (.d (.str k)), some (.d (rgO r)), some (.d (rg c))] := ⟨_, fun _ _ => Iff.rfl⟩
  refine dWhile_by I ⟨_, (hI _ _).mpr (.inl ⟨rfl, rfl⟩)⟩ fun m δ hJ => ?_
  -- one turn from c
  have turn : ∀ (c : Rg) (y2 : PyData), InW w c → meas w c ≤ meas w a → (∀ q, Nm w c q → Nm w a q) →
      (dSeq (dAsg (dVar 1) (dgName 2)) (dAsg (dCall vp__tightened (qCons (dVar 0) (qCons (dVar 1) qNil))) (dgName 1))) { nx := fun δ'' => ∃ m', m' < meas w c + 1 ∧ I m' δ'', rt := Φ, ct := fun δ'' => ∃ m', m' < meas w c + 1 ∧ I m' δ'', bk := N } [some (.d (.str k)), some (.d (rg c)), some (.d y2)] := by
    intro c y2 hc hm hq
    refine seq_op fun M hM => ?_
    simp
    refine hM _ ?_
    clear hM M
    simp
    refine .inr ⟨k, w, c, rfl, hk, hc, ?_⟩
    cases ht : tgt w c with
    | none =>
      exact ⟨0, by omega, (hI _ _).mpr (.inr ⟨c, none, hc, ht, fun q hn => hq q (nxt_nm ht hn), rfl, by omega, rfl⟩)⟩
    | some b =>
      obtain ⟨t1, t2, t3⟩ := tgt_some hc ht
      by_cases e : b = c
      · exact ⟨0, by omega, (hI _ _).mpr (.inr ⟨c, some b, hc, ht, fun q hn => hq q (nxt_nm ht hn), by rw [nextM, if_pos e], by omega, rfl⟩)⟩
      · have := meas_lt t1 t2.le e
        exact ⟨meas w b + 1, by omega, (hI _ _).mpr (.inr ⟨c, some b, hc, ht, fun q hn => hq q (nxt_nm ht hn), by rw [nextM, if_neg e], by omega, rfl⟩)⟩
  rcases (hI _ _).mp hJ with ⟨rfl, rfl⟩ | ⟨c, r, hc, ht, ok, rfl, hm, rfl⟩
  · refine ⟨fun b => b = true, fun Ψ hΨ => ?_, fun _ => turn a .none ha (Nat.le_refl _) (fun q hq => hq), fun z => by cases z⟩
    have := rg_sh a
    have e := rg_none a
    simp only [rg] at this e
    simp [rg, this, e]
    exact ⟨rfl, hΨ _ rfl⟩
  · cases r with
    | none =>
      refine ⟨fun b => b = false, fun Ψ hΨ => ?_, (fun z => by cases z), fun _ => hN _ ?_⟩
      · simp [rgO]
        exact hΨ _ rfl
      · simp
        exact h none (ok none rfl)
    | some b =>
      by_cases e : b = c
      · have ok' := ok (some b) (by show if b = c then some b = some b else _; rw [if_pos e])
        subst e
        refine ⟨fun b => b = false, fun Ψ hΨ => ?_, (fun z => by cases z), fun _ => hN _ ?_⟩
        · have := rg_sh b
          have e := rg_eqv b b
          rw [decide_eq_true rfl] at e
          simp only [rg] at this e
          simp [rgO, rg, this, e]
          exact hΨ _ rfl
        · simp
          exact h (some b) ok'
      · rw [nextM, if_neg e] at hm ⊢
        refine ⟨fun b => b = true, fun Ψ hΨ => ?_, fun _ => turn b (rg c) (tgt_some hc ht).1.i (by omega) (fun q hq => ok q (by show if b = c then q = some b else Nm w b q; rw [if_neg e]; exact hq)), (fun z => by cases z)⟩
        have s1 := rg_sh b
        have s2 := rg_sh c
        have e := rg_eqv b c
        rw [decide_eq_false ‹_›] at e
        simp only [rg] at s1 s2 e
        simp [rgO, rg, s1, s2, e]
        exact hΨ _ rfl

theorem NXok_of {w : Nat} {x : Ri} (h : 0 ≤ x.l) (h2 : x.h < ((2 ^ w : Nat) : Int)) (z : x.z < 2 ^ w) (o : x.o < 2 ^ w) : NXok w x := by
  by_cases c : x.h < x.l
  · exact .inl c
  · obtain ⟨l, u, z', o'⟩ := x
    obtain ⟨l, rfl⟩ := Int.eq_ofNat_of_zero_le h
    obtain ⟨u, rfl⟩ := Int.eq_ofNat_of_zero_le (show 0 ≤ u by
      have h : (0 : Int) ≤ (l : Int) := h
      have c : ¬ u < (l : Int) := c
      omega)
    refine .inr ⟨⟨l, u, z', o'⟩, ⟨?_, Int.ofNat_lt.mp h2, z, o⟩, rfl⟩
    have h2 : (u : Int) < _ := h2
    have c : ¬ (u : Int) < (l : Int) := c
    show l < _
    omega
theorem ok_ri {w : Nat} {a : Rg} (ha : InW w a) : NXok w a.ri := .inr ⟨a, ha, rfl⟩
def MemI (v : Nat) (x : Ri) : Prop := x.l ≤ (v : Int) ∧ (v : Int) ≤ x.h ∧ v &&& x.z = 0 ∧ v &&& x.o = x.o
theorem memI_ri {v : Nat} {a : Rg} : MemI v a.ri ↔ Mem v a := by
  unfold MemI Mem Rg.ri
  simp
theorem nx_mem {w v : Nat} {x : Ri} {r : Option Rg} (h : NX w x r) (hv : v < 2 ^ w) (hm : MemI v x) : ∃ u, r = some u ∧ Mem v u := by
  rcases h with ⟨h, rfl⟩ | ⟨a, ha, rfl, h⟩
  · have := hm.1
    have := hm.2.1
    omega
  · have ok := h.ok ha
    have hm := memI_ri.mp hm
    cases r with
    | none => exact absurd hm (ok v hv)
    | some u => exact ⟨u, rfl, ok.1.m v hv hm⟩
structure Kp (w : Nat) (x : Ri) (u : Rg) : Prop where
  l : x.l ≤ (u.l : Int)
  h : (u.h : Int) ≤ x.h
  z : u.z &&& x.z = x.z
  o : u.o &&& x.o = x.o
  i : InW w u
  le : u.l ≤ u.h
  dis : u.z &&& u.o = 0
theorem nx_kp {w : Nat} {x : Ri} {u : Rg} (h : NX w x (some u)) : Kp w x u := by
  rcases h with ⟨h, e⟩ | ⟨a, ha, rfl, h⟩
  · cases e
  · obtain ⟨c, g, _⟩ := h.ok ha
    exact ⟨Int.ofNat_le.mpr c.l, Int.ofNat_le.mpr c.h, c.z, c.o, c.i, g.le, g.dis⟩


def unk (w : Nat) (a : Rg) : Bool := decide ((a.z ||| a.o) &&& 2 ^ (w - 1) = 0)
def lessD (s : Bool) (w : Nat) (a b : Rg) : Option Bool :=
  if s = true ∧ (unk w a = true ∨ unk w b = true) then none
  else if s = true ∧ a.o &&& 2 ^ (w - 1) ≠ b.o &&& 2 ^ (w - 1) then some (decide (a.o &&& 2 ^ (w - 1) ≠ 0))
  else if a.h < b.l then some true else if b.h ≤ a.l then some false else none
def eqR (a b : Rg) : Option Bool :=
  if a.h < b.l ∨ b.h < a.l ∨ a.o &&& b.z ≠ 0 ∨ a.z &&& b.o ≠ 0 then some false else if a.l = a.h ∧ b.l = b.h then some true else none
def oD : Option Bool → PyData
  | none => .none
  | some b => .int (if b then 1 else 0)
def dec (p : Str) (w : Nat) (a b : Rg) : Option Bool :=
  if p = "eq" then eqR a b else if p = "ne" then (eqR a b).map not
  else if p = "ult" then lessD false w a b else if p = "ule" then (lessD false w b a).map not else if p = "ugt" then lessD false w b a else if p = "uge" then (lessD false w a b).map not
  else if p = "slt" then lessD true w a b else if p = "sle" then (lessD true w b a).map not else if p = "sgt" then lessD true w b a else (lessD true w a b).map not
def vp_half_of : VSp := fun rs Φ => ∃ (k : Str) (w : Nat), rs = [.d (.str k)] ∧ (k, .int w) ∈ L__WIDTHS ∧ 1 ≤ w ∧ w ≤ 64 ∧ Φ (.d (.int ((2 ^ (w - 1) : Nat) : Int)))
theorem len_half_of : ∀ rs Φ, vp_half_of rs Φ → rs.length = 1 := fun rs Φ ⟨_, _, e, _⟩ => by rw [e]; rfl
theorem G_half_of (T : Txt K mg w) : FnOk P w K mg base CX0 2 T.f_half_of T.fd_half_of ["kind"] (toSp K 1 vp_half_of) := by
  refine fn_ok T.F_half_of sc_half_of fun cdv A outer s H E hr => ⟨_, (pss_one (ps_ret (pe_op op_shl pe_int (pe_op op_sub (pe_call (G_width T) hr (by rfl) T.g_width T.F_width.kp T.b_width .nil pass0 (pa_cons (pv 0) pa_nil)) pe_int)))), _, fun ex He Hf => (sms_ret (sm_op (f1 := false) (f2 := false) (opd_I (g' := fun i j => .int (i * 2 ^ j.toNat)) fun _ _ => rfl) (sm_int _) (sm_op (f1 := false) (f2 := false) (opd_I0 (g' := fun i j => .int (i - j)) fun _ _ => rfl) (sm_call len_width (smq_cons (sm_var 0) smq_nil)) (sm_int _)))), ?_⟩
  rintro rs Φ ⟨k, w, rfl, hk, h1, h2, h⟩
  rw [PySem.W.kbt_cast] at h
  have e1 : ((w : Int) - 1).toNat = w - 1 := by omega
  simp
  refine ⟨k, _, rfl, hk, ?_⟩
  simp [e1]
  exact ⟨cp1 (by omega) (by omega), h⟩

def vp_is_single : VSp := fun rs Φ => ∃ a : Rg, rs = [.d (rg a)] ∧ Φ (.d (.bool (decide (a.l = a.h))))
theorem len_is_single : ∀ rs Φ, vp_is_single rs Φ → rs.length = 1 := fun rs Φ ⟨_, e, _⟩ => by rw [e]; rfl
theorem G_is_single (T : Txt K mg w) : FnOk P w K mg base CX0 1 T.f_is_single T.fd_is_single ["bounds"] (toSp K 1 vp_is_single) := by
  refine fn_ok T.F_is_single sc_is_single fun cdv A outer s H E hr => ⟨_, (pss_one (ps_ret (pe_and (pe_cmpR op_notN (pv 0) pe_non (nomark _)) (pe_one (pe_cmpR op_eq (pe_ix (kx_seq (K := K) rfl) (pv 0) pe_int (fun _ _ => rfl)) (pe_ix (kx_seq (K := K) rfl) (pv 0) pe_int (fun _ _ => rfl)) (nomark _)))))), _, fun ex He Hf => (sms_ret (sm_and (f1 := false) (sm_op (f1 := false) (f2 := false) opd_notN (sm_var 0) sm_non) (sm_op (f1 := false) (f2 := false) opd_eq (sm_ix (f2 := false) (sm_var 0) (sm_int _)) (sm_ix (f2 := false) (sm_var 0) (sm_int _))))), ?_⟩
  rintro rs Φ ⟨a, rfl, h⟩
  simp [rg]
  rw [show decide (a.l = a.h) = decide ((a.l : Int) = (a.h : Int)) from decide_eq_decide.mpr Int.ofNat_inj.symm] at h
  exact h

def vp__equal : VSp := fun rs Φ => ∃ a b : Rg, rs = [.d (rg a), .d (rg b)] ∧ Φ (.d (oD (eqR a b)))
theorem len__equal : ∀ rs Φ, vp__equal rs Φ → rs.length = 2 := fun rs Φ ⟨_, _, e, _⟩ => by rw [e]; rfl
theorem G__equal (T : Txt K mg w) : FnOk P w K mg base CX0 2 T.f__equal T.fd__equal ["a", "b"] (toSp K 2 vp__equal) := by
  refine fn_ok T.F__equal sc__equal fun cdv A outer s H E hr => ⟨_, (pss_cons (ps_if (PW.pt (pw_or (pt_cmpR op_lt (pe_ix (kx_seq (K := K) rfl) (pv 0) pe_int (fun _ _ => rfl)) (pe_ix (kx_seq (K := K) rfl) (pv 1) pe_int (fun _ _ => rfl)) (nomark _)) (pw_or (pt_cmpR op_lt (pe_ix (kx_seq (K := K) rfl) (pv 1) pe_int (fun _ _ => rfl)) (pe_ix (kx_seq (K := K) rfl) (pv 0) pe_int (fun _ _ => rfl)) (nomark _)) (pw_or (pt_truth (pe_op op_and (pe_ix (kx_seq (K := K) rfl) (pv 0) pe_int (fun _ _ => rfl)) (pe_ix (kx_seq (K := K) rfl) (pv 1) pe_int (fun _ _ => rfl))) (by intro _; rfl)) (pw_or1 (pt_truth (pe_op op_and (pe_ix (kx_seq (K := K) rfl) (pv 0) pe_int (fun _ _ => rfl)) (pe_ix (kx_seq (K := K) rfl) (pv 1) pe_int (fun _ _ => rfl))) (by intro _; rfl))))))) (pss_one (ps_ret pe_int)) pss_nil)
 (pss_cons (ps_if (PW.pt (pw_and (pt_val (pe_call (G_is_single T) hr (by rfl) T.g_is_single T.F_is_single.kp T.b_is_single .nil pass0 (pa_cons (pv 0) pa_nil))) (pw_and1 (pt_val (pe_call (G_is_single T) hr (by rfl) T.g_is_single T.F_is_single.kp T.b_is_single .nil pass0 (pa_cons (pv 1) pa_nil)))))) (pss_one (ps_ret pe_int)) pss_nil)
 (pss_one (ps_ret pe_non)))), _, fun ex He Hf => (sms_seq (sms_if (smt_or (smt_t (f1 := false) (sm_op (f1 := false) (f2 := false) (opd_I0 (g' := fun i j => .bool (decide (i < j))) fun _ _ => rfl) (sm_ix (f2 := false) (sm_var 0) (sm_int _)) (sm_ix (f2 := false) (sm_var 1) (sm_int _)))) (smt_or (smt_t (f1 := false) (sm_op (f1 := false) (f2 := false) (opd_I0 (g' := fun i j => .bool (decide (i < j))) fun _ _ => rfl) (sm_ix (f2 := false) (sm_var 1) (sm_int _)) (sm_ix (f2 := false) (sm_var 0) (sm_int _)))) (smt_or (smt_tru (f1 := false) (sm_op (f1 := false) (f2 := false) (opd_I0 (g' := fun i j => .int (Builtin.bitAnd i j)) fun _ _ => rfl) (sm_ix (f2 := false) (sm_var 0) (sm_int _)) (sm_ix (f2 := false) (sm_var 1) (sm_int _)))) (smt_tru (f1 := false) (sm_op (f1 := false) (f2 := false) (opd_I0 (g' := fun i j => .int (Builtin.bitAnd i j)) fun _ _ => rfl) (sm_ix (f2 := false) (sm_var 0) (sm_int _)) (sm_ix (f2 := false) (sm_var 1) (sm_int _)))))))
 (sms_ret (sm_int _))
 sms_next)
 (sms_seq (sms_if (smt_and (smt_b (f1 := false) (sm_call len_is_single (smq_cons (sm_var 0) smq_nil))) (smt_b (f1 := false) (sm_call len_is_single (smq_cons (sm_var 1) smq_nil))))
 (sms_ret (sm_int _))
 sms_next)
 (sms_ret sm_non))), ?_⟩
  rintro rs Φ ⟨a, b, rfl, h⟩
  simp [rg, bA]
  by_cases c1 : a.h < b.l
  · simpa [eqR, c1, oD] using h
  by_cases c2 : b.h < a.l
  · simpa [eqR, c1, c2, oD] using h
  by_cases c3 : a.o &&& b.z = 0
  · by_cases c4 : a.z &&& b.o = 0
    · have cn : ¬ (a.h < b.l ∨ b.h < a.l ∨ a.o &&& b.z ≠ 0 ∨ a.z &&& b.o ≠ 0) := fun e => by
        rcases e with e | e | e | e
        · exact c1 e
        · exact c2 e
        · exact e c3
        · exact e c4
      simp only [if_neg c1, if_neg c2, if_pos c3, if_pos c4]
      refine ⟨a, rfl, ?_⟩
      by_cases c5 : a.l = a.h
      · refine .inr ⟨by simp [c5], b, rfl, ?_⟩
        by_cases c6 : b.l = b.h
        · rw [eqR, if_neg cn, if_pos ⟨c5, c6⟩] at h
          exact .inr ⟨by simp [c6], h⟩
        · rw [eqR, if_neg cn, if_neg fun e => c6 e.2] at h
          exact .inl ⟨by simp [c6], h⟩
      · rw [eqR, if_neg cn, if_neg fun e => c5 e.1] at h
        exact .inl ⟨by simp [c5], h⟩
    · simpa [eqR, c1, c2, c3, c4, oD] using h
  · simpa [eqR, c1, c2, c3, oD] using h
def vp__less : VSp := fun rs Φ => ∃ (s : Bool) (k : Str) (w : Nat) (a b : Rg), rs = [.d (.str (if s then "slt" else "ult")), .d (.str k), .d (rg a), .d (rg b)] ∧ (k, .int w) ∈ L__WIDTHS ∧ 1 ≤ w ∧ w ≤ 64 ∧ Φ (.d (oD (lessD s w a b)))
theorem len__less : ∀ rs Φ, vp__less rs Φ → rs.length = 4 := fun rs Φ ⟨_, _, _, _, _, e, _⟩ => by rw [e]; rfl
theorem G__less (T : Txt K mg w) : FnOk P w K mg base CX0 3 T.f__less T.fd__less ["predicate", "kind", "a", "b"] (toSp K 4 vp__less) := by
  refine fn_ok T.F__less sc__less fun cdv A outer s H E hr => ⟨_, (pss_cons (ps_if (pt_cmpR op_eq (pv 0) pe_str (nomark _)) (pss_cons (ps_set (i := 4) sc__less.nd rfl (Or.inl rfl) (pe_call (G_half_of T) hr (by rfl) T.g_half_of T.F_half_of.kp T.b_half_of .nil pass0 (pa_cons (pv 1) pa_nil)))
 (pss_cons (ps_if (PW.pt (pw_or (pt_not (pt_truth (pe_op op_and (pe_op op_or (pe_ix (kx_seq (K := K) rfl) (pv 2) pe_int (fun _ _ => rfl)) (pe_ix (kx_seq (K := K) rfl) (pv 2) pe_int (fun _ _ => rfl))) (pv 4)) (by intro _; rfl))) (pw_or1 (pt_not (pt_truth (pe_op op_and (pe_op op_or (pe_ix (kx_seq (K := K) rfl) (pv 3) pe_int (fun _ _ => rfl)) (pe_ix (kx_seq (K := K) rfl) (pv 3) pe_int (fun _ _ => rfl))) (pv 4)) (by intro _; rfl)))))) (pss_one (ps_ret pe_non)) pss_nil)
 (pss_one (ps_if (pt_cmpR op_ne (pe_op op_and (pe_ix (kx_seq (K := K) rfl) (pv 2) pe_int (fun _ _ => rfl)) (pv 4)) (pe_op op_and (pe_ix (kx_seq (K := K) rfl) (pv 3) pe_int (fun _ _ => rfl)) (pv 4)) (nomark _)) (pss_one (ps_ret (pe_ifExp (pt_truth (pe_op op_and (pe_ix (kx_seq (K := K) rfl) (pv 2) pe_int (fun _ _ => rfl)) (pv 4)) (by intro _; rfl)) pe_int pe_int))) pss_nil)))) pss_nil)
 (pss_cons (ps_if (pt_cmpR op_lt (pe_ix (kx_seq (K := K) rfl) (pv 2) pe_int (fun _ _ => rfl)) (pe_ix (kx_seq (K := K) rfl) (pv 3) pe_int (fun _ _ => rfl)) (nomark _)) (pss_one (ps_ret pe_int)) pss_nil)
 (pss_cons (ps_if (pt_cmpR op_ge (pe_ix (kx_seq (K := K) rfl) (pv 2) pe_int (fun _ _ => rfl)) (pe_ix (kx_seq (K := K) rfl) (pv 3) pe_int (fun _ _ => rfl)) (nomark _)) (pss_one (ps_ret pe_int)) pss_nil)
 (pss_one (ps_ret pe_non))))), _, fun ex He Hf => (sms_seq (sms_if (smt_t (f1 := false) (sm_op (f1 := false) (f2 := false) opd_eq (sm_var 0) (sm_str _)))
 (sms_seq (sms_asg (sm_call len_half_of (smq_cons (sm_var 1) smq_nil)) (smg_name 4))
 (sms_seq (sms_if (smt_or (smt_not (smt_tru (f1 := false) (sm_op (f1 := false) (f2 := false) (opd_I0 (g' := fun i j => .int (Builtin.bitAnd i j)) fun _ _ => rfl) (sm_op (f1 := false) (f2 := false) (opd_I0 (g' := fun i j => .int (Builtin.bitOr i j)) fun _ _ => rfl) (sm_ix (f2 := false) (sm_var 2) (sm_int _)) (sm_ix (f2 := false) (sm_var 2) (sm_int _))) (sm_var 4)))) (smt_not (smt_tru (f1 := false) (sm_op (f1 := false) (f2 := false) (opd_I0 (g' := fun i j => .int (Builtin.bitAnd i j)) fun _ _ => rfl) (sm_op (f1 := false) (f2 := false) (opd_I0 (g' := fun i j => .int (Builtin.bitOr i j)) fun _ _ => rfl) (sm_ix (f2 := false) (sm_var 3) (sm_int _)) (sm_ix (f2 := false) (sm_var 3) (sm_int _))) (sm_var 4)))))
 (sms_ret sm_non)
 sms_next)
 (sms_if (smt_t (f1 := false) (sm_op (f1 := false) (f2 := false) opd_ne (sm_op (f1 := false) (f2 := false) (opd_I0 (g' := fun i j => .int (Builtin.bitAnd i j)) fun _ _ => rfl) (sm_ix (f2 := false) (sm_var 2) (sm_int _)) (sm_var 4)) (sm_op (f1 := false) (f2 := false) (opd_I0 (g' := fun i j => .int (Builtin.bitAnd i j)) fun _ _ => rfl) (sm_ix (f2 := false) (sm_var 3) (sm_int _)) (sm_var 4))))
 (sms_ret (sm_if (smt_tru (f1 := false) (sm_op (f1 := false) (f2 := false) (opd_I0 (g' := fun i j => .int (Builtin.bitAnd i j)) fun _ _ => rfl) (sm_ix (f2 := false) (sm_var 2) (sm_int _)) (sm_var 4))) (sm_int _) (sm_int _)))
 sms_next)))
 sms_next)
 (sms_seq (sms_if (smt_t (f1 := false) (sm_op (f1 := false) (f2 := false) (opd_I0 (g' := fun i j => .bool (decide (i < j))) fun _ _ => rfl) (sm_ix (f2 := false) (sm_var 2) (sm_int _)) (sm_ix (f2 := false) (sm_var 3) (sm_int _))))
 (sms_ret (sm_int _))
 sms_next)
 (sms_seq (sms_if (smt_t (f1 := false) (sm_op (f1 := false) (f2 := false) (opd_I0 (g' := fun i j => .bool (decide (j ≤ i))) fun _ _ => rfl) (sm_ix (f2 := false) (sm_var 2) (sm_int _)) (sm_ix (f2 := false) (sm_var 3) (sm_int _))))
 (sms_ret (sm_int _))
 sms_next)
 (sms_ret sm_non)))), ?_⟩
  rintro rs Φ ⟨s, k, w, a, b, rfl, hk, h1, h2, h⟩
  have tail : (if a.h < b.l then Φ (.d (.int 1)) else if b.h ≤ a.l then Φ (.d (.int 0)) else Φ (.d .none)) ↔ Φ (.d (oD (if a.h < b.l then some true else if b.h ≤ a.l then some false else none))) := by
    by_cases c1 : a.h < b.l
    · simp [c1, oD]
    by_cases c2 : b.h ≤ a.l
    · simp [c1, c2, oD]
    · simp [c1, c2, oD]
  cases s
  · simp [rg]
    rw [tail]
    simpa [lessD] using h
  · simp [rg]
    refine ⟨k, w, rfl, hk, h1, h2, ?_⟩
    rw [lessD, unk, unk] at h
    generalize 2 ^ (w - 1) = hf at h ⊢
    simp [bA, bO]
    by_cases c1 : (a.z ||| a.o) &&& hf = 0
    · simpa [c1, oD] using h
    by_cases c2 : (b.z ||| b.o) &&& hf = 0
    · simpa [c1, c2, oD] using h
    simp only [if_neg c1, if_neg c2]
    by_cases c3 : a.o &&& hf = b.o &&& hf
    · refine .inl ⟨by rw [c3], ?_⟩
      rw [tail]
      simpa [c1, c2, c3] using h
    · refine .inr ⟨fun e => c3 (Int.ofNat_inj.mp e), ?_⟩
      have n1 : ¬ (true = true ∧ (decide ((a.z ||| a.o) &&& hf = 0) = true ∨ decide ((b.z ||| b.o) &&& hf = 0) = true)) := by simp [c1, c2]
      have n2 : true = true ∧ a.o &&& hf ≠ b.o &&& hf := ⟨rfl, c3⟩
      rw [if_neg n1, if_pos n2] at h
      by_cases c4 : a.o &&& hf = 0
      · simpa [c4, oD] using h
      · simpa [c4, oD] using h
def rank (p : Str) : Nat := if p = "eq" ∨ p = "ult" ∨ p = "slt" then 0 else if p = "ugt" ∨ p = "sgt" then 1 else 2
def vp_decide (n : Nat) : VSp := fun rs Φ => ∃ (p k : Str) (w : Nat) (a b : Rg), rs = [.d (.str p), .d (.str k), .d (rg a), .d (rg b)] ∧ p ∈ preds ∧ rank p < n ∧ (k, .int w) ∈ L__WIDTHS ∧ 1 ≤ w ∧ w ≤ 64 ∧ Φ (.d (oD (dec p w a b)))
theorem len_decide {n : Nat} : ∀ rs Φ, vp_decide n rs Φ → rs.length = 4 := fun rs Φ ⟨_, _, _, _, _, e, _⟩ => by rw [e]; rfl
theorem dec_ne (w : Nat) (a b : Rg) : dec "ne" w a b = (dec "eq" w a b).map not := by simp [dec]
theorem dec_ule (w : Nat) (a b : Rg) : dec "ule" w a b = (dec "ugt" w a b).map not := by simp [dec]
theorem dec_uge (w : Nat) (a b : Rg) : dec "uge" w a b = (dec "ult" w a b).map not := by simp [dec]
theorem dec_sle (w : Nat) (a b : Rg) : dec "sle" w a b = (dec "sgt" w a b).map not := by simp [dec]
theorem dec_sge (w : Nat) (a b : Rg) : dec "sge" w a b = (dec "slt" w a b).map not := by simp [dec]
theorem dec_ugt (w : Nat) (a b : Rg) : dec "ugt" w a b = dec "ult" w b a := by simp [dec]
theorem dec_sgt (w : Nat) (a b : Rg) : dec "sgt" w a b = dec "slt" w b a := by simp [dec]
theorem dec_at {n : Nat} (T : Txt K mg w) : FnOk P w K mg base CX0 (n + 6) T.f_decide T.fd_decide ["predicate", "kind", "a", "b"] (toSp K 4 (vp_decide n)) := by
  induction n with
  | zero => exact ⟨fun vs H Q E h => h.1, fun A outer s H args us vs Q E _ _ _ _ h => by
      obtain ⟨_, _, _, _, _, _, _, ⟨_, _, _, _, _, _, _, h, _⟩, _⟩ := h
      exact absurd h (Nat.not_lt_zero _)⟩
  | succ n ih =>
    refine fn_ok T.F_decide sc_decide fun cdv A outer s H E hr => ⟨_, (pss_cons (ps_if (pt_cmpR op_eq (pv 0) pe_str (nomark _)) (pss_one (ps_ret (pe_call (G__equal T) (hr.mono (by omega)) (by rfl) T.g__equal T.F__equal.kp T.b__equal .nil pass0 (pa_cons (pv 2) (pa_cons (pv 3) pa_nil))))) pss_nil)
 (pss_cons (ps_if (pt_cmpR (kx_in (K := K) rfl) (pv 0) (pe_tup (pa_cons pe_str (pa_cons pe_str pa_nil))) (by rfl)) (pss_one (ps_ret (pe_call (G__less T) (hr.mono (by omega)) (by rfl) T.g__less T.F__less.kp T.b__less .nil pass0 (pa_cons (pv 0) (pa_cons (pv 1) (pa_cons (pv 2) (pa_cons (pv 3) pa_nil))))))) pss_nil)
 (pss_cons (ps_if (pt_cmpR (kx_in (K := K) rfl) (pv 0) (pe_tup (pa_cons pe_str (pa_cons pe_str pa_nil))) (by rfl)) (pss_one (ps_ret (pe_call ih hr (by rfl) T.g_decide T.F_decide.kp T.b_decide .nil pass0 (pa_cons (pe_call (G_swapped T) (hr.mono (by omega)) (by rfl) T.g_swapped T.F_swapped.kp T.b_swapped .nil pass0 (pa_cons (pv 0) pa_nil)) (pa_cons (pv 1) (pa_cons (pv 3) (pa_cons (pv 2) pa_nil))))))) pss_nil)
 (pss_cons (ps_set (i := 4) sc_decide.nd rfl (Or.inl rfl) (pe_call ih hr (by rfl) T.g_decide T.F_decide.kp T.b_decide .nil pass0 (pa_cons (pe_call (G_opposite T) (hr.mono (by omega)) (by rfl) T.g_opposite T.F_opposite.kp T.b_opposite .nil pass0 (pa_cons (pv 0) pa_nil)) (pa_cons (pv 1) (pa_cons (pv 2) (pa_cons (pv 3) pa_nil))))))
 (pss_one (ps_ret (pe_ifExp (pt_cmpR op_isN (pv 4) pe_non (nomark _)) pe_non (pe_op op_sub pe_int (pv 4))))))))), _, fun ex He Hf => (sms_seq (sms_if (smt_t (f1 := false) (sm_op (f1 := false) (f2 := false) opd_eq (sm_var 0) (sm_str _)))
 (sms_ret (sm_call len__equal (smq_cons (sm_var 2) (smq_cons (sm_var 3) smq_nil))))
 sms_next)
 (sms_seq (sms_if (smt_t (f1 := false) (sm_op (f1 := false) (f2 := false) (opd_in false) (sm_var 0) (sm_tup (sma_cons (sm_str _) (sma_cons (sm_str _) sma_nil)))))
 (sms_ret (sm_call len__less (smq_cons (sm_var 0) (smq_cons (sm_var 1) (smq_cons (sm_var 2) (smq_cons (sm_var 3) smq_nil))))))
 sms_next)
 (sms_seq (sms_if (smt_t (f1 := false) (sm_op (f1 := false) (f2 := false) (opd_in false) (sm_var 0) (sm_tup (sma_cons (sm_str _) (sma_cons (sm_str _) sma_nil)))))
 (sms_ret (sm_call len_decide (smq_cons (sm_call len_swapped (smq_cons (sm_var 0) smq_nil)) (smq_cons (sm_var 1) (smq_cons (sm_var 3) (smq_cons (sm_var 2) smq_nil))))))
 sms_next)
 (sms_seq (sms_asg (sm_call len_decide (smq_cons (sm_call len_opposite (smq_cons (sm_var 0) smq_nil)) (smq_cons (sm_var 1) (smq_cons (sm_var 2) (smq_cons (sm_var 3) smq_nil))))) (smg_name 4))
 (sms_ret (sm_if (smt_t (f1 := false) (sm_op (f1 := false) (f2 := false) opd_isN (sm_var 4) sm_non)) sm_non (sm_op (f1 := false) (f2 := false) (opd_I0 (g' := fun i j => .int (i - j)) fun _ _ => rfl) (sm_int _) (sm_var 4)))))))), ?_⟩
    rintro rs Φ ⟨p, k, w, a, b, rfl, hp, hn, hk, h1, h2, h⟩
    have l2 : (2 : Nat) ≤ sizeLine := by decide
    rcases preds_cases hp with rfl | rfl | rfl | rfl | rfl | rfl | rfl | rfl | rfl | rfl
    all_goals simp [inD, l2]
    · exact ⟨a, b, rfl, by simpa [dec] using h⟩
    · rw [dec_ne] at h
      refine ⟨_, rfl, hp, "eq", k, w, a, b, by simp [oppS], by simp [preds], by simp [rank] at hn ⊢; omega, hk, h1, h2, ?_⟩
      generalize dec "eq" w a b = x at h ⊢
      cases x with
      | none => simpa [oD] using h
      | some c => cases c <;> simpa [oD] using h
    · exact ⟨false, k, w, a, b, rfl, hk, h1, h2, by simpa [dec] using h⟩
    · rw [dec_ule] at h
      refine ⟨_, rfl, hp, "ugt", k, w, a, b, by simp [oppS], by simp [preds], by simp [rank] at hn ⊢; omega, hk, h1, h2, ?_⟩
      generalize dec "ugt" w a b = x at h ⊢
      cases x with
      | none => simpa [oD] using h
      | some c => cases c <;> simpa [oD] using h
    · rw [dec_ugt] at h
      exact ⟨_, rfl, hp, "ult", k, w, b, a, by simp [swpS], by simp [preds], by simp [rank] at hn ⊢; omega, hk, h1, h2, h⟩
    · rw [dec_uge] at h
      refine ⟨_, rfl, hp, "ult", k, w, a, b, by simp [oppS], by simp [preds], by simp [rank] at hn ⊢; omega, hk, h1, h2, ?_⟩
      generalize dec "ult" w a b = x at h ⊢
      cases x with
      | none => simpa [oD] using h
      | some c => cases c <;> simpa [oD] using h
    · exact ⟨true, k, w, a, b, rfl, hk, h1, h2, by simpa [dec] using h⟩
    · rw [dec_sle] at h
      refine ⟨_, rfl, hp, "sgt", k, w, a, b, by simp [oppS], by simp [preds], by simp [rank] at hn ⊢; omega, hk, h1, h2, ?_⟩
      generalize dec "sgt" w a b = x at h ⊢
      cases x with
      | none => simpa [oD] using h
      | some c => cases c <;> simpa [oD] using h
    · rw [dec_sgt] at h
      exact ⟨_, rfl, hp, "slt", k, w, b, a, by simp [swpS], by simp [preds], by simp [rank] at hn ⊢; omega, hk, h1, h2, h⟩
    · rw [dec_sge] at h
      refine ⟨_, rfl, hp, "slt", k, w, a, b, by simp [oppS], by simp [preds], by simp [rank] at hn ⊢; omega, hk, h1, h2, ?_⟩
      generalize dec "slt" w a b = x at h ⊢
      cases x with
      | none => simpa [oD] using h
      | some c => cases c <;> simpa [oD] using h
theorem G_decide (T : Txt K mg w) : FnOk P w K mg base CX0 9 T.f_decide T.fd_decide ["predicate", "kind", "a", "b"] (toSp K 4 (vp_decide 3)) := dec_at T
theorem rank_lt (p : Str) : rank p < 3 := by
  unfold rank
  split
  · decide
  · split <;> decide


def vp_full : VSp := fun rs Φ => ∃ (k : Str) (w : Nat), rs = [.d (.str k)] ∧ KW k w ∧ Φ (.d (rg ⟨0, 2 ^ w - 1, 0, 0⟩))
theorem len_full : ∀ rs Φ, vp_full rs Φ → rs.length = 1 := fun rs Φ ⟨_, _, e, _⟩ => by rw [e]; rfl
theorem G_full (T : Txt K mg w) : FnOk P w K mg base CX0 3 T.f_full T.fd_full ["kind"] (toSp K 1 vp_full) := by
  refine fn_ok T.F_full sc_full fun cdv A outer s H E hr => ⟨_, (pss_one (ps_ret (pe_tup (pa_cons pe_int (pa_cons (pe_call (G_top_of T) hr (by rfl) T.g_top_of T.F_top_of.kp T.b_top_of .nil pass0 (pa_cons (pv 0) pa_nil)) (pa_cons pe_int (pa_cons pe_int pa_nil))))))), _, fun ex He Hf => (sms_ret (sm_tup (sma_cons (sm_int _) (sma_cons (sm_call len_top_of (smq_cons (sm_var 0) smq_nil)) (sma_cons (sm_int _) (sma_cons (sm_int _) sma_nil)))))), ?_⟩
  rintro rs Φ ⟨k, w, rfl, hk, h⟩
  simp [startD, le_size, lt_size, cmul_l, cpow_l, cdiv_l]
  exact ⟨k, w, rfl, hk, h⟩
def uni (a b : Rg) : Rg := ⟨min a.l b.l, max a.h b.h, a.z &&& b.z, a.o &&& b.o⟩
def vp_union : VSp := fun rs Φ => ∃ a b : Rg, rs = [.d (rg a), .d (rg b)] ∧ Φ (.d (rg (uni a b)))
theorem len_union : ∀ rs Φ, vp_union rs Φ → rs.length = 2 := fun rs Φ ⟨_, _, e, _⟩ => by rw [e]; rfl
theorem G_union (T : Txt K mg w) : FnOk P w K mg base CX0 1 T.f_union T.fd_union ["a", "b"] (toSp K 2 vp_union) := by
  refine fn_ok T.F_union sc_union fun cdv A outer s H E hr => ⟨_, (pss_one (ps_ret (pe_tup (pa_cons (pe_callB (call_min2 rfl) (by rfl) T.min (by decide +kernel) (pa_cons (pe_ix (kx_seq (K := K) rfl) (pv 0) pe_int (fun _ _ => rfl)) (pa_cons (pe_ix (kx_seq (K := K) rfl) (pv 1) pe_int (fun _ _ => rfl)) pa_nil))) (pa_cons (pe_callB (call_max2 rfl) (by rfl) T.max (by decide +kernel) (pa_cons (pe_ix (kx_seq (K := K) rfl) (pv 0) pe_int (fun _ _ => rfl)) (pa_cons (pe_ix (kx_seq (K := K) rfl) (pv 1) pe_int (fun _ _ => rfl)) pa_nil))) (pa_cons (pe_op op_and (pe_ix (kx_seq (K := K) rfl) (pv 0) pe_int (fun _ _ => rfl)) (pe_ix (kx_seq (K := K) rfl) (pv 1) pe_int (fun _ _ => rfl))) (pa_cons (pe_op op_and (pe_ix (kx_seq (K := K) rfl) (pv 0) pe_int (fun _ _ => rfl)) (pe_ix (kx_seq (K := K) rfl) (pv 1) pe_int (fun _ _ => rfl))) pa_nil))))))), _, fun ex He Hf => (sms_ret (sm_tup (sma_cons (sm_cb (f1 := false) cbd_min (sma_cons (sm_ix (f2 := false) (sm_var 0) (sm_int _)) (sma_cons (sm_ix (f2 := false) (sm_var 1) (sm_int _)) sma_nil))) (sma_cons (sm_cb (f1 := false) cbd_max (sma_cons (sm_ix (f2 := false) (sm_var 0) (sm_int _)) (sma_cons (sm_ix (f2 := false) (sm_var 1) (sm_int _)) sma_nil))) (sma_cons (sm_op (f1 := false) (f2 := false) (opd_I0 (g' := fun i j => .int (Builtin.bitAnd i j)) fun _ _ => rfl) (sm_ix (f2 := false) (sm_var 0) (sm_int _)) (sm_ix (f2 := false) (sm_var 1) (sm_int _))) (sma_cons (sm_op (f1 := false) (f2 := false) (opd_I0 (g' := fun i j => .int (Builtin.bitAnd i j)) fun _ _ => rfl) (sm_ix (f2 := false) (sm_var 0) (sm_int _)) (sm_ix (f2 := false) (sm_var 1) (sm_int _))) sma_nil)))))), ?_⟩
  rintro rs Φ ⟨a, b, rfl, h⟩
  have e1 : (if b.l < a.l then (b.l : Int) else (a.l : Int)) = ((min a.l b.l : Nat) : Int) := by split <;> omega
  have e2 : (if a.h < b.h then (b.h : Int) else (a.h : Int)) = ((max a.h b.h : Nat) : Int) := by split <;> omega
  simp [startD, rg, le_size, lt_size, cmul_l, cpow_l, cdiv_l, bA, e1, e2]
  exact h
def Wth (a b : Rg) : Prop := b.l ≤ a.l ∧ a.h ≤ b.h ∧ a.z &&& b.z = b.z ∧ a.o &&& b.o = b.o
instance wthDec (a b : Rg) : Decidable (Wth a b) := by unfold Wth; infer_instance


def riO : Option Ri → PyData
  | none => .none
  | some x => ri x
def andR (a b : Rg) : Ri := ⟨0, (min a.h b.h : Nat), a.z ||| b.z, a.o &&& b.o⟩
def orR (w : Nat) (a b : Rg) : Ri := ⟨(max a.l b.l : Nat), (2 ^ w - 1 : Nat), a.z &&& b.z, a.o ||| b.o⟩
def xorR (w : Nat) (a b : Rg) : Ri := ⟨0, (2 ^ w - 1 : Nat), (a.z &&& b.z) ||| (a.o &&& b.o), (a.z &&& b.o) ||| (a.o &&& b.z)⟩
def divR (op : Str) (a b : Rg) : Option Ri := if b.h = 0 then none else some (
  if op = "udiv" then (if b.l = b.h then ⟨(a.l / b.l : Nat), (a.h / b.l : Nat), 0, 0⟩ else ⟨0, a.h, 0, 0⟩)
  else if b.l = b.h then (if a.h < b.l then ⟨a.l, a.h, 0, 0⟩ else ⟨0, (b.l : Int) - 1, 0, 0⟩) else ⟨0, (min a.h (b.h - 1) : Nat), 0, 0⟩)
def vp__and : VSp := fun rs Φ => ∃ (op k : PyData) (a b : Rg), rs = [.d op, .d k, .d (rg a), .d (rg b)] ∧ Φ (.d (ri (andR a b)))
theorem len__and : ∀ rs Φ, vp__and rs Φ → rs.length = 4 := fun rs Φ ⟨_, _, _, _, e, _⟩ => by rw [e]; rfl
theorem G__and (T : Txt K mg w) : FnOk P w K mg base CX0 1 T.f__and T.fd__and ["op", "kind", "a", "b"] (toSp K 4 vp__and) := by
  refine fn_ok T.F__and sc__and fun cdv A outer s H E hr => ⟨_, (pss_one (ps_ret (pe_tup (pa_cons pe_int (pa_cons (pe_callB (call_min2 rfl) (by rfl) T.min (by decide +kernel) (pa_cons (pe_ix (kx_seq (K := K) rfl) (pv 2) pe_int (fun _ _ => rfl)) (pa_cons (pe_ix (kx_seq (K := K) rfl) (pv 3) pe_int (fun _ _ => rfl)) pa_nil))) (pa_cons (pe_op op_or (pe_ix (kx_seq (K := K) rfl) (pv 2) pe_int (fun _ _ => rfl)) (pe_ix (kx_seq (K := K) rfl) (pv 3) pe_int (fun _ _ => rfl))) (pa_cons (pe_op op_and (pe_ix (kx_seq (K := K) rfl) (pv 2) pe_int (fun _ _ => rfl)) (pe_ix (kx_seq (K := K) rfl) (pv 3) pe_int (fun _ _ => rfl))) pa_nil))))))), _, fun ex He Hf => (sms_ret (sm_tup (sma_cons (sm_int _) (sma_cons (sm_cb (f1 := false) cbd_min (sma_cons (sm_ix (f2 := false) (sm_var 2) (sm_int _)) (sma_cons (sm_ix (f2 := false) (sm_var 3) (sm_int _)) sma_nil))) (sma_cons (sm_op (f1 := false) (f2 := false) (opd_I0 (g' := fun i j => .int (Builtin.bitOr i j)) fun _ _ => rfl) (sm_ix (f2 := false) (sm_var 2) (sm_int _)) (sm_ix (f2 := false) (sm_var 3) (sm_int _))) (sma_cons (sm_op (f1 := false) (f2 := false) (opd_I0 (g' := fun i j => .int (Builtin.bitAnd i j)) fun _ _ => rfl) (sm_ix (f2 := false) (sm_var 2) (sm_int _)) (sm_ix (f2 := false) (sm_var 3) (sm_int _))) sma_nil)))))), ?_⟩
  rintro rs Φ ⟨op, k, a, b, rfl, h⟩
  have an : (if b.h < a.h then (b.h : Int) else (a.h : Int)) = ((min a.h b.h : Nat) : Int) := by split <;> omega
  simp only [andR, ri] at h
  simp [startD, rg, bA, bO, an, le_size, lt_size, cmul_l, cpow_l, cdiv_l]
  exact h
def vp__or : VSp := fun rs Φ => ∃ (op : PyData) (k : Str) (w : Nat) (a b : Rg), rs = [.d op, .d (.str k), .d (rg a), .d (rg b)] ∧ KW k w ∧ Φ (.d (ri (orR w a b)))
theorem len__or : ∀ rs Φ, vp__or rs Φ → rs.length = 4 := fun rs Φ ⟨_, _, _, _, _, e, _⟩ => by rw [e]; rfl
theorem G__or (T : Txt K mg w) : FnOk P w K mg base CX0 3 T.f__or T.fd__or ["op", "kind", "a", "b"] (toSp K 4 vp__or) := by
  refine fn_ok T.F__or sc__or fun cdv A outer s H E hr => ⟨_, (pss_one (ps_ret (pe_tup (pa_cons (pe_callB (call_max2 rfl) (by rfl) T.max (by decide +kernel) (pa_cons (pe_ix (kx_seq (K := K) rfl) (pv 2) pe_int (fun _ _ => rfl)) (pa_cons (pe_ix (kx_seq (K := K) rfl) (pv 3) pe_int (fun _ _ => rfl)) pa_nil))) (pa_cons (pe_call (G_top_of T) hr (by rfl) T.g_top_of T.F_top_of.kp T.b_top_of .nil pass0 (pa_cons (pv 1) pa_nil)) (pa_cons (pe_op op_and (pe_ix (kx_seq (K := K) rfl) (pv 2) pe_int (fun _ _ => rfl)) (pe_ix (kx_seq (K := K) rfl) (pv 3) pe_int (fun _ _ => rfl))) (pa_cons (pe_op op_or (pe_ix (kx_seq (K := K) rfl) (pv 2) pe_int (fun _ _ => rfl)) (pe_ix (kx_seq (K := K) rfl) (pv 3) pe_int (fun _ _ => rfl))) pa_nil))))))), _, fun ex He Hf => (sms_ret (sm_tup (sma_cons (sm_cb (f1 := false) cbd_max (sma_cons (sm_ix (f2 := false) (sm_var 2) (sm_int _)) (sma_cons (sm_ix (f2 := false) (sm_var 3) (sm_int _)) sma_nil))) (sma_cons (sm_call len_top_of (smq_cons (sm_var 1) smq_nil)) (sma_cons (sm_op (f1 := false) (f2 := false) (opd_I0 (g' := fun i j => .int (Builtin.bitAnd i j)) fun _ _ => rfl) (sm_ix (f2 := false) (sm_var 2) (sm_int _)) (sm_ix (f2 := false) (sm_var 3) (sm_int _))) (sma_cons (sm_op (f1 := false) (f2 := false) (opd_I0 (g' := fun i j => .int (Builtin.bitOr i j)) fun _ _ => rfl) (sm_ix (f2 := false) (sm_var 2) (sm_int _)) (sm_ix (f2 := false) (sm_var 3) (sm_int _))) sma_nil)))))), ?_⟩
  rintro rs Φ ⟨op, k, w, a, b, rfl, hk, h⟩
  have am : (if a.l < b.l then (b.l : Int) else (a.l : Int)) = ((max a.l b.l : Nat) : Int) := by split <;> omega
  simp only [orR, ri] at h
  simp [startD, rg]
  refine ⟨k, w, rfl, hk, ?_⟩
  simp [bA, bO, am, le_size, lt_size, cmul_l, cpow_l, cdiv_l]
  exact h
def vp__xor : VSp := fun rs Φ => ∃ (op : PyData) (k : Str) (w : Nat) (a b : Rg), rs = [.d op, .d (.str k), .d (rg a), .d (rg b)] ∧ KW k w ∧ Φ (.d (ri (xorR w a b)))
theorem len__xor : ∀ rs Φ, vp__xor rs Φ → rs.length = 4 := fun rs Φ ⟨_, _, _, _, _, e, _⟩ => by rw [e]; rfl
theorem G__xor (T : Txt K mg w) : FnOk P w K mg base CX0 3 T.f__xor T.fd__xor ["op", "kind", "a", "b"] (toSp K 4 vp__xor) := by
  refine fn_ok T.F__xor sc__xor fun cdv A outer s H E hr => ⟨_, (pss_cons (ps_set (i := 4) sc__xor.nd rfl (Or.inl rfl) (pe_op op_or (pe_op op_and (pe_ix (kx_seq (K := K) rfl) (pv 2) pe_int (fun _ _ => rfl)) (pe_ix (kx_seq (K := K) rfl) (pv 3) pe_int (fun _ _ => rfl))) (pe_op op_and (pe_ix (kx_seq (K := K) rfl) (pv 2) pe_int (fun _ _ => rfl)) (pe_ix (kx_seq (K := K) rfl) (pv 3) pe_int (fun _ _ => rfl)))))
 (pss_cons (ps_set (i := 5) sc__xor.nd rfl (Or.inl rfl) (pe_op op_or (pe_op op_and (pe_ix (kx_seq (K := K) rfl) (pv 2) pe_int (fun _ _ => rfl)) (pe_ix (kx_seq (K := K) rfl) (pv 3) pe_int (fun _ _ => rfl))) (pe_op op_and (pe_ix (kx_seq (K := K) rfl) (pv 2) pe_int (fun _ _ => rfl)) (pe_ix (kx_seq (K := K) rfl) (pv 3) pe_int (fun _ _ => rfl)))))
 (pss_one (ps_ret (pe_tup (pa_cons pe_int (pa_cons (pe_call (G_top_of T) hr (by rfl) T.g_top_of T.F_top_of.kp T.b_top_of .nil pass0 (pa_cons (pv 1) pa_nil)) (pa_cons (pv 4) (pa_cons (pv 5) pa_nil))))))))), _, fun ex He Hf => (sms_seq (sms_asg (sm_op (f1 := false) (f2 := false) (opd_I0 (g' := fun i j => .int (Builtin.bitOr i j)) fun _ _ => rfl) (sm_op (f1 := false) (f2 := false) (opd_I0 (g' := fun i j => .int (Builtin.bitAnd i j)) fun _ _ => rfl) (sm_ix (f2 := false) (sm_var 2) (sm_int _)) (sm_ix (f2 := false) (sm_var 3) (sm_int _))) (sm_op (f1 := false) (f2 := false) (opd_I0 (g' := fun i j => .int (Builtin.bitAnd i j)) fun _ _ => rfl) (sm_ix (f2 := false) (sm_var 2) (sm_int _)) (sm_ix (f2 := false) (sm_var 3) (sm_int _)))) (smg_name 4))
 (sms_seq (sms_asg (sm_op (f1 := false) (f2 := false) (opd_I0 (g' := fun i j => .int (Builtin.bitOr i j)) fun _ _ => rfl) (sm_op (f1 := false) (f2 := false) (opd_I0 (g' := fun i j => .int (Builtin.bitAnd i j)) fun _ _ => rfl) (sm_ix (f2 := false) (sm_var 2) (sm_int _)) (sm_ix (f2 := false) (sm_var 3) (sm_int _))) (sm_op (f1 := false) (f2 := false) (opd_I0 (g' := fun i j => .int (Builtin.bitAnd i j)) fun _ _ => rfl) (sm_ix (f2 := false) (sm_var 2) (sm_int _)) (sm_ix (f2 := false) (sm_var 3) (sm_int _)))) (smg_name 5))
 (sms_ret (sm_tup (sma_cons (sm_int _) (sma_cons (sm_call len_top_of (smq_cons (sm_var 1) smq_nil)) (sma_cons (sm_var 4) (sma_cons (sm_var 5) sma_nil)))))))), ?_⟩
  rintro rs Φ ⟨op, k, w, a, b, rfl, hk, h⟩
  simp only [xorR, ri] at h
  refine seq_op fun N hN => ?_
  simp [startD, rg, bA, bO]
  refine hN _ ?_
  clear hN N
  refine seq_op fun N hN => ?_
  simp [bA, bO]
  refine hN _ ?_
  clear hN N
  simp
  refine ⟨k, w, rfl, hk, ?_⟩
  simp [le_size, lt_size, cmul_l, cpow_l, cdiv_l]
  exact h
def vp__divide : VSp := fun rs Φ => ∃ (op : Str) (k : PyData) (w : Nat) (a b : Rg), rs = [.d (.str op), .d k, .d (rg a), .d (rg b)] ∧ InW w b ∧ b.l ≤ b.h ∧ w ≤ 64 ∧ Φ (.d (riO (divR op a b)))
theorem len__divide : ∀ rs Φ, vp__divide rs Φ → rs.length = 4 := fun rs Φ ⟨_, _, _, _, _, e, _⟩ => by rw [e]; rfl
theorem G__divide (T : Txt K mg w) : FnOk P w K mg base CX0 2 T.f__divide T.fd__divide ["op", "kind", "a", "b"] (toSp K 4 vp__divide) := by
  refine fn_ok T.F__divide sc__divide fun cdv A outer s H E hr => ⟨_, (pss_cons (ps_if (pt_cmpR op_eq (pe_ix (kx_seq (K := K) rfl) (pv 3) pe_int (fun _ _ => rfl)) pe_int (nomark _)) (pss_one (ps_ret pe_non)) pss_nil)
 (pss_cons (ps_if (pt_cmpR op_eq (pv 0) pe_str (nomark _)) (pss_cons (ps_if (pt_val (pe_call (G_is_single T) hr (by rfl) T.g_is_single T.F_is_single.kp T.b_is_single .nil pass0 (pa_cons (pv 3) pa_nil))) (pss_one (ps_ret (pe_tup (pa_cons (pe_op op_fdivW (pe_ix (kx_seq (K := K) rfl) (pv 2) pe_int (fun _ _ => rfl)) (pe_ix (kx_seq (K := K) rfl) (pv 3) pe_int (fun _ _ => rfl))) (pa_cons (pe_op op_fdivW (pe_ix (kx_seq (K := K) rfl) (pv 2) pe_int (fun _ _ => rfl)) (pe_ix (kx_seq (K := K) rfl) (pv 3) pe_int (fun _ _ => rfl))) (pa_cons pe_int (pa_cons pe_int pa_nil))))))) pss_nil)
 (pss_one (ps_ret (pe_tup (pa_cons pe_int (pa_cons (pe_ix (kx_seq (K := K) rfl) (pv 2) pe_int (fun _ _ => rfl)) (pa_cons pe_int (pa_cons pe_int pa_nil)))))))) pss_nil)
 (pss_cons (ps_if (pt_not (pt_val (pe_call (G_is_single T) hr (by rfl) T.g_is_single T.F_is_single.kp T.b_is_single .nil pass0 (pa_cons (pv 3) pa_nil)))) (pss_one (ps_ret (pe_tup (pa_cons pe_int (pa_cons (pe_callB (call_min2 rfl) (by rfl) T.min (by decide +kernel) (pa_cons (pe_ix (kx_seq (K := K) rfl) (pv 2) pe_int (fun _ _ => rfl)) (pa_cons (pe_op op_sub (pe_ix (kx_seq (K := K) rfl) (pv 3) pe_int (fun _ _ => rfl)) pe_int) pa_nil))) (pa_cons pe_int (pa_cons pe_int pa_nil))))))) pss_nil)
 (pss_cons (ps_if (pt_cmpR op_lt (pe_ix (kx_seq (K := K) rfl) (pv 2) pe_int (fun _ _ => rfl)) (pe_ix (kx_seq (K := K) rfl) (pv 3) pe_int (fun _ _ => rfl)) (nomark _)) (pss_one (ps_ret (pe_tup (pa_cons (pe_ix (kx_seq (K := K) rfl) (pv 2) pe_int (fun _ _ => rfl)) (pa_cons (pe_ix (kx_seq (K := K) rfl) (pv 2) pe_int (fun _ _ => rfl)) (pa_cons pe_int (pa_cons pe_int pa_nil))))))) pss_nil)
 (pss_one (ps_ret (pe_tup (pa_cons pe_int (pa_cons (pe_op op_sub (pe_ix (kx_seq (K := K) rfl) (pv 3) pe_int (fun _ _ => rfl)) pe_int) (pa_cons pe_int (pa_cons pe_int pa_nil))))))))))), _, fun ex He Hf => (sms_seq (sms_if (smt_t (f1 := false) (sm_op (f1 := false) (f2 := false) opd_eq (sm_ix (f2 := false) (sm_var 3) (sm_int _)) (sm_int _)))
 (sms_ret sm_non)
 sms_next)
 (sms_seq (sms_if (smt_t (f1 := false) (sm_op (f1 := false) (f2 := false) opd_eq (sm_var 0) (sm_str _)))
 (sms_seq (sms_if (smt_b (f1 := false) (sm_call len_is_single (smq_cons (sm_var 3) smq_nil)))
 (sms_ret (sm_tup (sma_cons (sm_op (f1 := false) (f2 := false) (opd_I (g' := fun i j => .int (i / j)) fun _ _ => rfl) (sm_ix (f2 := false) (sm_var 2) (sm_int _)) (sm_ix (f2 := false) (sm_var 3) (sm_int _))) (sma_cons (sm_op (f1 := false) (f2 := false) (opd_I (g' := fun i j => .int (i / j)) fun _ _ => rfl) (sm_ix (f2 := false) (sm_var 2) (sm_int _)) (sm_ix (f2 := false) (sm_var 3) (sm_int _))) (sma_cons (sm_int _) (sma_cons (sm_int _) sma_nil))))))
 sms_next)
 (sms_ret (sm_tup (sma_cons (sm_int _) (sma_cons (sm_ix (f2 := false) (sm_var 2) (sm_int _)) (sma_cons (sm_int _) (sma_cons (sm_int _) sma_nil)))))))
 sms_next)
 (sms_seq (sms_if (smt_not (smt_b (f1 := false) (sm_call len_is_single (smq_cons (sm_var 3) smq_nil))))
 (sms_ret (sm_tup (sma_cons (sm_int _) (sma_cons (sm_cb (f1 := false) cbd_min (sma_cons (sm_ix (f2 := false) (sm_var 2) (sm_int _)) (sma_cons (sm_op (f1 := false) (f2 := false) (opd_I0 (g' := fun i j => .int (i - j)) fun _ _ => rfl) (sm_ix (f2 := false) (sm_var 3) (sm_int _)) (sm_int _)) sma_nil))) (sma_cons (sm_int _) (sma_cons (sm_int _) sma_nil))))))
 sms_next)
 (sms_seq (sms_if (smt_t (f1 := false) (sm_op (f1 := false) (f2 := false) (opd_I0 (g' := fun i j => .bool (decide (i < j))) fun _ _ => rfl) (sm_ix (f2 := false) (sm_var 2) (sm_int _)) (sm_ix (f2 := false) (sm_var 3) (sm_int _))))
 (sms_ret (sm_tup (sma_cons (sm_ix (f2 := false) (sm_var 2) (sm_int _)) (sma_cons (sm_ix (f2 := false) (sm_var 2) (sm_int _)) (sma_cons (sm_int _) (sma_cons (sm_int _) sma_nil))))))
 sms_next)
 (sms_ret (sm_tup (sma_cons (sm_int _) (sma_cons (sm_op (f1 := false) (f2 := false) (opd_I0 (g' := fun i j => .int (i - j)) fun _ _ => rfl) (sm_ix (f2 := false) (sm_var 3) (sm_int _)) (sm_int _)) (sma_cons (sm_int _) (sma_cons (sm_int _) sma_nil)))))))))), ?_⟩
  rintro rs Φ ⟨op, k, w, a, b, rfl, hb, hbl, hw, h⟩
  have inj : ∀ x y : Nat, ((x : Int) = (y : Int)) = (x = y) := fun x y => propext Int.ofNat_inj
  have l4 : (4 : Nat) ≤ sizeLine := by decide
  have p64 : 2 ^ w ≤ 2 ^ 64 := Nat.pow_le_pow_right (by decide) hw
  have b1 := hb.1
  refine seq_op fun N hN => ?_
  by_cases c0 : b.h = 0
  · simp only [divR, if_pos c0, riO] at h
    simp [startD, rg, c0]
    exact h
  simp only [divR, if_neg c0, riO] at h
  refine dIfS_two (fun c => c = false) (fun Ψ hΨ => ?_) (fun hc => by cases hc) (fun _ => ?_)
  · have hΨ := hΨ _ rfl
    simp [startD, rg, c0]
    exact hΨ
  simp only [dNext]
  refine hN _ ?_
  clear hN N
  refine seq_op fun N hN => ?_
  by_cases c1 : op = "udiv"
  · rw [if_pos c1] at h
    simp [startD, c1]
    refine ⟨b, rfl, ?_⟩
    by_cases c2 : b.l = b.h
    · simp only [if_pos c2, ri] at h
      have e : ∀ x : Nat, (x : Int) / (b.l : Int) = ((x / b.l : Nat) : Int) := fun x => rfl
      have cd : CDivW (a.l : Int) (b.l : Int) := cdw (by omega) (by omega)
      have cd2 : CDivW (a.h : Int) (b.l : Int) := cdw (by omega) (by omega)
      simp [c2, rg]
      rw [← c2]
      exact ⟨cd, cd2, l4, h⟩
    · simp only [if_neg c2, ri] at h
      simp [c2, rg]
      exact ⟨l4, h⟩
  · rw [if_neg c1] at h
    refine dIfS_two (fun c => c = false) (fun Ψ hΨ => ?_) (fun hc => by cases hc) (fun _ => ?_)
    · have hΨ := hΨ _ rfl
      simp [startD, c1]
      exact hΨ
    simp only [dNext]
    refine hN _ ?_
    clear hN N
    refine seq_op fun N hN => ?_
    by_cases c2 : b.l = b.h
    · rw [if_pos c2] at h
      refine dIfS_two (fun c => c = false) (fun Ψ hΨ => ?_) (fun hc => by cases hc) (fun _ => ?_)
      · have hΨ := hΨ _ rfl
        simp [startD]
        refine ⟨b, rfl, ?_⟩
        simp [c2]
        exact hΨ
      simp only [dNext]
      refine hN _ ?_
      clear hN N
      refine seq_op fun N hN => ?_
      by_cases c3 : a.h < b.l
      · simp only [if_pos c3, ri] at h
        simp [startD, rg, c3]
        exact ⟨l4, h⟩
      · simp only [if_neg c3, ri] at h
        refine dIfS_two (fun c => c = false) (fun Ψ hΨ => ?_) (fun hc => by cases hc) (fun _ => ?_)
        · have hΨ := hΨ _ rfl
          simp [startD, rg, c3]
          exact hΨ
        simp only [dNext]
        refine hN _ ?_
        simp [startD, rg]
        exact ⟨l4, h⟩
    · simp only [if_neg c2, ri] at h
      simp [startD]
      refine ⟨b, rfl, ?_⟩
      have an : (if (b.h : Int) - 1 < (a.h : Int) then (b.h : Int) - 1 else (a.h : Int)) = ((min a.h (b.h - 1) : Nat) : Int) := by split <;> omega
      simp [c2, rg, an]
      exact ⟨l4, h⟩
def vp__divide_signed : VSp := fun rs Φ => ∃ (op : PyData) (k : Str) (w : Nat) (a b : PyData), rs = [.d op, .d (.str k), .d a, .d b] ∧ KW k w ∧ Φ (.d (rg ⟨0, 2 ^ w - 1, 0, 0⟩))
theorem len__divide_signed : ∀ rs Φ, vp__divide_signed rs Φ → rs.length = 4 := fun rs Φ ⟨_, _, _, _, _, e, _⟩ => by rw [e]; rfl
theorem G__divide_signed (T : Txt K mg w) : FnOk P w K mg base CX0 4 T.f__divide_signed T.fd__divide_signed ["op", "kind", "a", "b"] (toSp K 4 vp__divide_signed) := by
  refine fn_ok T.F__divide_signed sc__divide_signed fun cdv A outer s H E hr => ⟨_, (pss_one (ps_ret (pe_call (G_full T) hr (by rfl) T.g_full T.F_full.kp T.b_full .nil pass0 (pa_cons (pv 1) pa_nil)))), _, fun ex He Hf => (sms_ret (sm_call len_full (smq_cons (sm_var 1) smq_nil))), ?_⟩
  rintro rs Φ ⟨op, k, w, a, b, rfl, hk, h⟩
  simp [startD]
  exact ⟨k, w, rfl, hk, h⟩
def shlR (w c : Nat) (a : Rg) : Ri := if 2 ^ w - 1 < a.h * 2 ^ c then ⟨0, (2 ^ w - 1 : Nat), (a.z * 2 ^ c) &&& (2 ^ w - 1) ||| (2 ^ c - 1), (a.o * 2 ^ c) &&& (2 ^ w - 1)⟩ else ⟨(a.l * 2 ^ c : Nat), (a.h * 2 ^ c : Nat), (a.z * 2 ^ c) &&& (2 ^ w - 1) ||| (2 ^ c - 1), (a.o * 2 ^ c) &&& (2 ^ w - 1)⟩
def shrR (w c : Nat) (a : Rg) : Ri := ⟨(a.l / 2 ^ c : Nat), (a.h / 2 ^ c : Nat), (a.z / 2 ^ c) ||| (2 ^ w - 1 - (2 ^ w - 1) / 2 ^ c), a.o / 2 ^ c⟩
def shiftR (op : Str) (w : Nat) (a b : Rg) : Ri :=
  if ¬ b.l = b.h ∨ op = "ashr" ∧ a.z &&& 2 ^ (w - 1) = 0 then ⟨0, (2 ^ w - 1 : Nat), 0, 0⟩
  else if w ≤ b.l then ⟨0, 0, 2 ^ w - 1, 0⟩ else if op = "shl" then shlR w b.l a else shrR w b.l a
def vp__shift : VSp := fun rs Φ => ∃ (op k : Str) (w : Nat) (a b : Rg), rs = [.d (.str op), .d (.str k), .d (rg a), .d (rg b)] ∧ KW k w ∧ InW w a ∧ Φ (.d (ri (shiftR op w a b)))
theorem len__shift : ∀ rs Φ, vp__shift rs Φ → rs.length = 4 := fun rs Φ ⟨_, _, _, _, _, e, _⟩ => by rw [e]; rfl
theorem pwI (c : Nat) : (2 : Int) ^ c = ((2 ^ c : Nat) : Int) := (PySem.W.kbt_cast c).symm
theorem G__shift (T : Txt K mg w) : FnOk P w K mg base CX0 4 T.f__shift T.fd__shift ["op", "kind", "a", "b"] (toSp K 4 vp__shift) := by
  refine fn_ok T.F__shift sc__shift fun cdv A outer s H E hr => ⟨_, (pss_cons (ps_asg (pv 2) (pg_tup (n := 4) rfl (pgs_cons (pg_name (i := 9) sc__shift.nd rfl (Or.inl rfl)) (pgs_cons (pg_name (i := 10) sc__shift.nd rfl (Or.inl rfl)) (pgs_cons (pg_name (i := 7) sc__shift.nd rfl (Or.inl rfl)) (pgs_cons (pg_name (i := 8) sc__shift.nd rfl (Or.inl rfl)) pgs_nil))))))
 (pss_cons (ps_set (i := 4) sc__shift.nd rfl (Or.inl rfl) (pe_call (G_top_of T) (hr.mono (by decide)) (by rfl) T.g_top_of T.F_top_of.kp T.b_top_of .nil pass0 (pa_cons (pv 1) pa_nil)))
 (pss_cons (ps_set (i := 5) sc__shift.nd rfl (Or.inl rfl) (pe_ix (kx_seq (K := K) rfl) (pv 3) pe_int (fun _ _ => rfl)))
 (pss_cons (ps_if (PW.pt (pw_or (pt_not (pt_val (pe_call (G_is_single T) (hr.mono (by decide)) (by rfl) T.g_is_single T.F_is_single.kp T.b_is_single .nil pass0 (pa_cons (pv 3) pa_nil)))) (pw_or1 (PW.pt (pw_and (pt_cmpR op_eq (pv 0) pe_str (nomark _)) (pw_and1 (pt_not (pt_truth (pe_op op_and (pv 7) (pe_call (G_half_of T) (hr.mono (by decide)) (by rfl) T.g_half_of T.F_half_of.kp T.b_half_of .nil pass0 (pa_cons (pv 1) pa_nil))) (by intro _; rfl))))))))) (pss_one (ps_ret (pe_call (G_full T) hr (by rfl) T.g_full T.F_full.kp T.b_full .nil pass0 (pa_cons (pv 1) pa_nil)))) pss_nil)
 (pss_cons (ps_if (pt_cmpR op_ge (pv 5) (pe_call (G_width T) (hr.mono (by decide)) (by rfl) T.g_width T.F_width.kp T.b_width .nil pass0 (pa_cons (pv 1) pa_nil)) (nomark _)) (pss_one (ps_ret (pe_call (G_single T) hr (by rfl) T.g_single T.F_single.kp T.b_single .nil pass0 (pa_cons (pv 1) (pa_cons pe_int pa_nil))))) pss_nil)
 (pss_cons (ps_if (pt_cmpR op_ne (pv 0) pe_str (nomark _)) (pss_cons (ps_set (i := 11) sc__shift.nd rfl (Or.inl rfl) (pe_op op_sub (pv 4) (pe_op op_shr (pv 4) (pv 5))))
 (pss_one (ps_ret (pe_tup (pa_cons (pe_op op_shr (pv 9) (pv 5)) (pa_cons (pe_op op_shr (pv 10) (pv 5)) (pa_cons (pe_op op_or (pe_op op_shr (pv 7) (pv 5)) (pv 11)) (pa_cons (pe_op op_shr (pv 8) (pv 5)) pa_nil)))))))) pss_nil)
 (pss_cons (ps_set (i := 6) sc__shift.nd rfl (Or.inl rfl) (pe_op op_sub (pe_op op_shl pe_int (pv 5)) pe_int))
 (pss_cons (ps_set (i := 7) sc__shift.nd rfl (Or.inl rfl) (pe_op op_or (pe_op op_and (pe_op op_shl (pv 7) (pv 5)) (pv 4)) (pv 6)))
 (pss_cons (ps_set (i := 8) sc__shift.nd rfl (Or.inl rfl) (pe_op op_and (pe_op op_shl (pv 8) (pv 5)) (pv 4)))
 (pss_cons (ps_if (pt_cmpR op_gt (pe_op op_shl (pv 10) (pv 5)) (pv 4) (nomark _)) (pss_one (ps_ret (pe_tup (pa_cons pe_int (pa_cons (pv 4) (pa_cons (pv 7) (pa_cons (pv 8) pa_nil))))))) pss_nil)
 (pss_one (ps_ret (pe_tup (pa_cons (pe_op op_shl (pv 9) (pv 5)) (pa_cons (pe_op op_shl (pv 10) (pv 5)) (pa_cons (pv 7) (pa_cons (pv 8) pa_nil))))))))))))))))), _, fun ex He Hf => (sms_seq (sms_asg (sm_var 2) (smg_tup (smg_cons (smg_name 9) (smg_cons (smg_name 10) (smg_cons (smg_name 7) (smg_cons (smg_name 8) smg_nil))))))
 (sms_seq (sms_asg (sm_call len_top_of (smq_cons (sm_var 1) smq_nil)) (smg_name 4))
 (sms_seq (sms_asg (sm_ix (f2 := false) (sm_var 3) (sm_int _)) (smg_name 5))
 (sms_seq (sms_if (smt_or (smt_not (smt_b (f1 := false) (sm_call len_is_single (smq_cons (sm_var 3) smq_nil)))) (smt_and (smt_t (f1 := false) (sm_op (f1 := false) (f2 := false) opd_eq (sm_var 0) (sm_str _))) (smt_not (smt_tru (f1 := false) (sm_op (f1 := false) (f2 := false) (opd_I0 (g' := fun i j => .int (Builtin.bitAnd i j)) fun _ _ => rfl) (sm_var 7) (sm_call len_half_of (smq_cons (sm_var 1) smq_nil)))))))
 (sms_ret (sm_call len_full (smq_cons (sm_var 1) smq_nil)))
 sms_next)
 (sms_seq (sms_if (smt_t (f1 := false) (sm_op (f1 := false) (f2 := false) (opd_I0 (g' := fun i j => .bool (decide (j ≤ i))) fun _ _ => rfl) (sm_var 5) (sm_call len_width (smq_cons (sm_var 1) smq_nil))))
 (sms_ret (sm_call len_single (smq_cons (sm_var 1) (smq_cons (sm_int _) smq_nil))))
 sms_next)
 (sms_seq (sms_if (smt_t (f1 := false) (sm_op (f1 := false) (f2 := false) opd_ne (sm_var 0) (sm_str _)))
 (sms_seq (sms_asg (sm_op (f1 := false) (f2 := false) (opd_I0 (g' := fun i j => .int (i - j)) fun _ _ => rfl) (sm_var 4) (sm_op (f1 := false) (f2 := false) (opd_I (g' := fun i j => .int (i / 2 ^ j.toNat)) fun _ _ => rfl) (sm_var 4) (sm_var 5))) (smg_name 11))
 (sms_ret (sm_tup (sma_cons (sm_op (f1 := false) (f2 := false) (opd_I (g' := fun i j => .int (i / 2 ^ j.toNat)) fun _ _ => rfl) (sm_var 9) (sm_var 5)) (sma_cons (sm_op (f1 := false) (f2 := false) (opd_I (g' := fun i j => .int (i / 2 ^ j.toNat)) fun _ _ => rfl) (sm_var 10) (sm_var 5)) (sma_cons (sm_op (f1 := false) (f2 := false) (opd_I0 (g' := fun i j => .int (Builtin.bitOr i j)) fun _ _ => rfl) (sm_op (f1 := false) (f2 := false) (opd_I (g' := fun i j => .int (i / 2 ^ j.toNat)) fun _ _ => rfl) (sm_var 7) (sm_var 5)) (sm_var 11)) (sma_cons (sm_op (f1 := false) (f2 := false) (opd_I (g' := fun i j => .int (i / 2 ^ j.toNat)) fun _ _ => rfl) (sm_var 8) (sm_var 5)) sma_nil)))))))
 sms_next)
 (sms_seq (sms_asg (sm_op (f1 := false) (f2 := false) (opd_I0 (g' := fun i j => .int (i - j)) fun _ _ => rfl) (sm_op (f1 := false) (f2 := false) (opd_I (g' := fun i j => .int (i * 2 ^ j.toNat)) fun _ _ => rfl) (sm_int _) (sm_var 5)) (sm_int _)) (smg_name 6))
 (sms_seq (sms_asg (sm_op (f1 := false) (f2 := false) (opd_I0 (g' := fun i j => .int (Builtin.bitOr i j)) fun _ _ => rfl) (sm_op (f1 := false) (f2 := false) (opd_I0 (g' := fun i j => .int (Builtin.bitAnd i j)) fun _ _ => rfl) (sm_op (f1 := false) (f2 := false) (opd_I (g' := fun i j => .int (i * 2 ^ j.toNat)) fun _ _ => rfl) (sm_var 7) (sm_var 5)) (sm_var 4)) (sm_var 6)) (smg_name 7))
 (sms_seq (sms_asg (sm_op (f1 := false) (f2 := false) (opd_I0 (g' := fun i j => .int (Builtin.bitAnd i j)) fun _ _ => rfl) (sm_op (f1 := false) (f2 := false) (opd_I (g' := fun i j => .int (i * 2 ^ j.toNat)) fun _ _ => rfl) (sm_var 8) (sm_var 5)) (sm_var 4)) (smg_name 8))
 (sms_seq (sms_if (smt_t (f1 := false) (sm_op (f1 := false) (f2 := false) (opd_I0 (g' := fun i j => .bool (decide (j < i))) fun _ _ => rfl) (sm_op (f1 := false) (f2 := false) (opd_I (g' := fun i j => .int (i * 2 ^ j.toNat)) fun _ _ => rfl) (sm_var 10) (sm_var 5)) (sm_var 4)))
 (sms_ret (sm_tup (sma_cons (sm_int _) (sma_cons (sm_var 4) (sma_cons (sm_var 7) (sma_cons (sm_var 8) sma_nil))))))
 sms_next)
 (sms_ret (sm_tup (sma_cons (sm_op (f1 := false) (f2 := false) (opd_I (g' := fun i j => .int (i * 2 ^ j.toNat)) fun _ _ => rfl) (sm_var 9) (sm_var 5)) (sma_cons (sm_op (f1 := false) (f2 := false) (opd_I (g' := fun i j => .int (i * 2 ^ j.toNat)) fun _ _ => rfl) (sm_var 10) (sm_var 5)) (sma_cons (sm_var 7) (sma_cons (sm_var 8) sma_nil)))))))))))))))), ?_⟩
  rintro rs Φ ⟨op, k, w, a, b, rfl, hk, ha, h⟩
  have l4 : (4 : Nat) ≤ sizeLine := by decide
  refine seq_op fun N hN => ?_
  simp [startD, rg]
  refine hN _ ?_
  clear hN N
  refine seq_op fun N hN => ?_
  simp
  refine ⟨k, w, rfl, hk, hN _ ?_⟩
  clear hN N
  simp only [data_d]
  refine seq_op fun N hN => ?_
  simp
  refine hN _ ?_
  clear hN N
  refine seq_op fun N hN => ?_
  unfold shiftR at h
  refine dIfS_two (fun c => c = decide (¬ b.l = b.h ∨ op = "ashr" ∧ a.z &&& 2 ^ (w - 1) = 0)) (fun Ψ hΨ => ?_) (fun hc => ?_) (fun hc => ?_)
  · have hΨ' := hΨ _ rfl
    clear hΨ hN h
    simp
    refine ⟨b, rfl, ?_⟩
    by_cases c1 : b.l = b.h
    · simp [c1]
      by_cases c2 : op = "ashr"
      · simp [c2]
        refine ⟨k, w, rfl, hk.1, hk.2.1, hk.2.2, ?_⟩
        generalize 2 ^ (w - 1) = hf at hΨ' ⊢
        simp [bA]
        by_cases c3 : a.z &&& hf = 0
        · simpa [c1, c2, c3] using hΨ'
        · have e : (((a.z &&& hf : Nat) : Int) != 0) = true := by simp [c3]
          rw [e]
          simpa [c1, c2, c3] using hΨ'
      · simpa [c1, c2] using hΨ'
    · simpa [c1] using hΨ'
  · have hc := of_decide_eq_true hc.symm
    rw [if_pos hc] at h
    simp
    exact ⟨k, w, rfl, hk, h⟩
  have hc := of_decide_eq_false hc.symm
  rw [if_neg hc] at h
  simp only [dNext]
  refine hN _ ?_
  clear hN N
  have hw := hk.2.2
  have hp := Nat.two_pow_pos w
  refine seq_op fun N hN => ?_
  by_cases c0 : w ≤ b.l
  · rw [if_pos c0] at h
    simp
    refine ⟨k, _, rfl, hk.1, ?_⟩
    simp [c0]
    refine ⟨k, w, 0, rfl, hk, hp, ?_⟩
    exact h
  rw [if_neg c0] at h
  refine dIfS_two (fun c => c = false) (fun Ψ hΨ => ?_) (fun hc => by cases hc) (fun _ => ?_)
  · have hΨ := hΨ _ rfl
    simp
    refine ⟨k, _, rfl, hk.1, ?_⟩
    simp [c0]
    exact hΨ
  simp only [dNext]
  refine hN _ ?_
  clear hN N
  refine seq_op fun N hN => ?_
  refine dIfS_two (fun c => c = decide (¬ op = "shl")) (fun Ψ hΨ => ?_) (fun hc => ?_) (fun hc => ?_)
  · have hΨ := hΨ _ rfl
    simp
    by_cases c : op = "shl" <;> simpa [c] using hΨ
  · have hc : ¬ op = "shl" := by simpa using hc
    simp only [if_neg hc, shrR, ri] at h
    have e : ∀ x : Nat, (x : Int) / ((2 ^ b.l : Nat) : Int) = ((x / 2 ^ b.l : Nat) : Int) := fun x => rfl
    have et : ((2 ^ w - 1 : Nat) : Int) - (((2 ^ w - 1) / 2 ^ b.l : Nat) : Int) = ((2 ^ w - 1 - (2 ^ w - 1) / 2 ^ b.l : Nat) : Int) := by
      have := Nat.div_le_self (2 ^ w - 1) (2 ^ b.l)
      omega
    refine seq_op fun M hM => ?_
    simp
    refine hM _ ?_
    clear hM M
    rw [pwI, e, et]
    generalize 2 ^ w - 1 - (2 ^ w - 1) / 2 ^ b.l = hi at h ⊢
    simp
    rw [pwI, e, e, e, e, bO]
    exact ⟨l4, h⟩
  have hc : op = "shl" := by simpa using hc
  simp only [if_pos hc] at h
  simp only [dNext]
  refine hN _ ?_
  clear hN N
  have es : ∀ x : Nat, (x : Int) * ((2 ^ b.l : Nat) : Int) = ((x * 2 ^ b.l : Nat) : Int) := fun x => (Int.natCast_mul _ _).symm
  have hpb := Nat.two_pow_pos b.l
  have em : ((2 ^ b.l : Nat) : Int) - 1 = ((2 ^ b.l - 1 : Nat) : Int) := by omega
  refine seq_op fun N hN => ?_
  simp
  refine ⟨cp1 (by omega) (by omega), hN _ ?_⟩
  clear hN N
  rw [pwI, em]
  have cz : ∀ x : Nat, x < 2 ^ w → CPow (x : Int) (b.l : Int) := fun x hx => ⟨by omega, by omega, by
    have := Nat.pow_le_pow_right (n := 2) (by decide) hw
    rw [Int.natAbs_natCast]
    omega⟩
  refine seq_op fun N hN => ?_
  simp
  refine ⟨cz _ ha.2.2.1, hN _ ?_⟩
  clear hN N
  rw [pwI, es, bA, bO]
  unfold shlR at h
  generalize ((a.z * 2 ^ b.l) &&& (2 ^ w - 1) ||| (2 ^ b.l - 1)) = Z at h ⊢
  refine seq_op fun N hN => ?_
  simp
  refine ⟨cz _ ha.2.2.2, hN _ ?_⟩
  clear hN N
  rw [pwI, es, bA]
  generalize ((a.o * 2 ^ b.l) &&& (2 ^ w - 1)) = O at h ⊢
  refine seq_op fun N hN => ?_
  by_cases c3 : 2 ^ w - 1 < a.h * 2 ^ b.l
  · simp only [if_pos c3, ri] at h
    refine dIfS_two (fun c => c = true) (fun Ψ hΨ => ?_) (fun _ => ?_) (fun hc => by cases hc)
    · have hΨ := hΨ _ rfl
      generalize 2 ^ w - 1 = top at c3 ⊢
      simp
      have c4 : (top : Int) < (a.h : Int) * 2 ^ b.l := by rw [pwI, es]; exact Int.ofNat_lt.mpr c3
      refine ⟨cz _ ha.2.1, cast (congrArg Ψ ?_) hΨ⟩
      exact (decide_eq_true c4).symm
    · simp
      exact ⟨l4, h⟩
  · simp only [if_neg c3, ri] at h
    refine dIfS_two (fun c => c = false) (fun Ψ hΨ => ?_) (fun hc => by cases hc) (fun _ => ?_)
    · have hΨ := hΨ _ rfl
      generalize 2 ^ w - 1 = top at c3 ⊢
      simp
      have c4 : ¬ (top : Int) < (a.h : Int) * 2 ^ b.l := by rw [pwI, es]; exact fun q => c3 (Int.ofNat_lt.mp q)
      refine ⟨cz _ ha.2.1, cast (congrArg Ψ ?_) hΨ⟩
      exact (decide_eq_false c4).symm
    simp only [dNext]
    refine hN _ ?_
    simp
    rw [pwI, es, es]
    exact ⟨cz _ ha.1, cz _ ha.2.1, l4, h⟩


def vp__select : VSp := fun rs Φ => ∃ (a b c : Rg), rs = [.d (.list [rg a, rg b, rg c])] ∧ Φ (.d (rg (if a.l = a.h then (if a.l = 1 then b else c) else uni b c)))
theorem len__select : ∀ rs Φ, vp__select rs Φ → rs.length = 1 := fun rs Φ ⟨_, _, _, e, _⟩ => by rw [e]; rfl
theorem G__select (T : Txt K mg w) : FnOk P w K mg base CX0 2 T.f__select T.fd__select ["ranges"] (toSp K 1 vp__select) := by
  refine fn_ok T.F__select sc__select fun cdv A outer s H E hr => ⟨_, (pss_cons (ps_asg (pv 0) (pg_unl (n := 3) rfl (pgs_cons (pg_name (i := 1) sc__select.nd rfl (Or.inl rfl)) (pgs_cons (pg_name (i := 2) sc__select.nd rfl (Or.inl rfl)) (pgs_cons (pg_name (i := 3) sc__select.nd rfl (Or.inl rfl)) pgs_nil)))))
 (pss_cons (ps_if (pt_not (pt_val (pe_call (G_is_single T) hr (by rfl) T.g_is_single T.F_is_single.kp T.b_is_single .nil pass0 (pa_cons (pv 1) pa_nil)))) (pss_one (ps_ret (pe_call (G_union T) hr (by rfl) T.g_union T.F_union.kp T.b_union .nil pass0 (pa_cons (pv 2) (pa_cons (pv 3) pa_nil))))) pss_nil)
 (pss_one (ps_ret (pe_ifExp (pt_cmpR op_eq (pe_ix (kx_seq (K := K) rfl) (pv 1) pe_int (fun _ _ => rfl)) pe_int (nomark _)) (pv 2) (pv 3)))))), _, fun ex He Hf => (sms_seq (sms_asg (sm_var 0) (smg_unl (smg_cons (smg_name 1) (smg_cons (smg_name 2) (smg_cons (smg_name 3) smg_nil)))))
 (sms_seq (sms_if (smt_not (smt_b (f1 := false) (sm_call len_is_single (smq_cons (sm_var 1) smq_nil))))
 (sms_ret (sm_call len_union (smq_cons (sm_var 2) (smq_cons (sm_var 3) smq_nil))))
 sms_next)
 (sms_ret (sm_if (smt_t (f1 := false) (sm_op (f1 := false) (f2 := false) opd_eq (sm_ix (f2 := false) (sm_var 1) (sm_int _)) (sm_int _))) (sm_var 2) (sm_var 3))))), ?_⟩
  rintro rs Φ ⟨a, b, c, rfl, h⟩
  refine seq_op fun N hN => ?_
  simp [startD]
  refine hN _ ?_
  clear hN N
  refine seq_op fun N hN => ?_
  simp
  refine ⟨a, rfl, ?_⟩
  by_cases c1 : a.l = a.h
  · rw [if_pos c1] at h
    simp [c1]
    refine hN _ ?_
    by_cases c2 : a.l = 1
    · rw [if_pos c2] at h
      have c3 : (a.l : Int) = 1 := by omega
      simp [rg, c3]
      exact h
    · rw [if_neg c2] at h
      have c3 : ¬ (a.l : Int) = 1 := by omega
      simp [rg, c3]
      exact h
  · rw [if_neg c1] at h
    simp [c1]
    exact ⟨b, c, rfl, h⟩
def icmpR (p : Str) (w : Nat) (a b : Rg) : Rg :=
  if a.l = a.h ∧ b.l = b.h then (if cmpI p w a.l b.l = true then ⟨1, 1, 0, 1⟩ else ⟨0, 0, 1, 0⟩)
  else match dec p w a b with | none => ⟨0, 1, 0, 0⟩ | some c => if c = true then ⟨1, 1, 0, 1⟩ else ⟨0, 0, 1, 0⟩
def vp__icmp : VSp := fun rs Φ => ∃ (k p : Str) (w : Nat) (a b : Rg), rs = [.d (.str k), .d (.str p), .d (.list [rg a, rg b])] ∧ KW k w ∧ k ≠ "ptr" ∧ p ∈ preds ∧ Φ (.d (rg (icmpR p w a b)))
theorem len__icmp : ∀ rs Φ, vp__icmp rs Φ → rs.length = 3 := fun rs Φ ⟨_, _, _, _, _, e, _⟩ => by rw [e]; rfl
theorem kw1 : KW "i1" 1 := ⟨by simp [L__WIDTHS], by decide, by decide⟩
theorem G__icmp (T : Txt K mg w) : FnOk P w K mg base CX0 10 T.f__icmp T.fd__icmp ["kind", "predicate", "ranges"] (toSp K 3 vp__icmp) := by
  refine fn_ok T.F__icmp sc__icmp fun cdv A outer s H E hr => ⟨_, (pss_cons (ps_if (pt_cmpR op_eq (pv 0) pe_str (nomark _)) (pss_one (ps_ret (pe_call (G_full T) (hr.mono (by decide)) (by rfl) T.g_full T.F_full.kp T.b_full .nil pass0 (pa_cons pe_str pa_nil)))) pss_nil)
 (pss_cons (ps_asg (pv 2) (pg_unl (n := 2) rfl (pgs_cons (pg_name (i := 4) sc__icmp.nd rfl (Or.inl rfl)) (pgs_cons (pg_name (i := 5) sc__icmp.nd rfl (Or.inl rfl)) pgs_nil))))
 (pss_cons (ps_if (PW.pt (pw_and (pt_val (pe_call (G_is_single T) (hr.mono (by decide)) (by rfl) T.g_is_single T.F_is_single.kp T.b_is_single .nil pass0 (pa_cons (pv 4) pa_nil))) (pw_and1 (pt_val (pe_call (G_is_single T) (hr.mono (by decide)) (by rfl) T.g_is_single T.F_is_single.kp T.b_is_single .nil pass0 (pa_cons (pv 5) pa_nil)))))) (pss_one (ps_ret (pe_call (G_single T) (hr.mono (by decide)) (by rfl) T.g_single T.F_single.kp T.b_single .nil pass0 (pa_cons pe_str (pa_cons (pe_call (G_compare T) (hr.mono (by decide)) (by rfl) T.g_compare T.F_compare.kp T.b_compare .nil pass0 (pa_cons (pv 1) (pa_cons (pe_call (G_width T) (hr.mono (by decide)) (by rfl) T.g_width T.F_width.kp T.b_width .nil pass0 (pa_cons (pv 0) pa_nil)) (pa_cons (pe_ix (kx_seq (K := K) rfl) (pv 4) pe_int (fun _ _ => rfl)) (pa_cons (pe_ix (kx_seq (K := K) rfl) (pv 5) pe_int (fun _ _ => rfl)) pa_nil))))) pa_nil))))) pss_nil)
 (pss_cons (ps_set (i := 3) sc__icmp.nd rfl (Or.inl rfl) (pe_call (G_decide T) hr (by rfl) T.g_decide T.F_decide.kp T.b_decide .nil pass0 (pa_cons (pv 1) (pa_cons (pv 0) (pa_cons (pv 4) (pa_cons (pv 5) pa_nil))))))
 (pss_one (ps_ret (pe_ifExp (pt_cmpR op_isN (pv 3) pe_non (nomark _)) (pe_call (G_full T) (hr.mono (by decide)) (by rfl) T.g_full T.F_full.kp T.b_full .nil pass0 (pa_cons pe_str pa_nil)) (pe_call (G_single T) (hr.mono (by decide)) (by rfl) T.g_single T.F_single.kp T.b_single .nil pass0 (pa_cons pe_str (pa_cons (pv 3) pa_nil)))))))))), _, fun ex He Hf => (sms_seq (sms_if (smt_t (f1 := false) (sm_op (f1 := false) (f2 := false) opd_eq (sm_var 0) (sm_str _)))
 (sms_ret (sm_call len_full (smq_cons (sm_str _) smq_nil)))
 sms_next)
 (sms_seq (sms_asg (sm_var 2) (smg_unl (smg_cons (smg_name 4) (smg_cons (smg_name 5) smg_nil))))
 (sms_seq (sms_if (smt_and (smt_b (f1 := false) (sm_call len_is_single (smq_cons (sm_var 4) smq_nil))) (smt_b (f1 := false) (sm_call len_is_single (smq_cons (sm_var 5) smq_nil))))
 (sms_ret (sm_call len_single (smq_cons (sm_str _) (smq_cons (sm_call len_compare (smq_cons (sm_var 1) (smq_cons (sm_call len_width (smq_cons (sm_var 0) smq_nil)) (smq_cons (sm_ix (f2 := false) (sm_var 4) (sm_int _)) (smq_cons (sm_ix (f2 := false) (sm_var 5) (sm_int _)) smq_nil))))) smq_nil))))
 sms_next)
 (sms_seq (sms_asg (sm_call len_decide (smq_cons (sm_var 1) (smq_cons (sm_var 0) (smq_cons (sm_var 4) (smq_cons (sm_var 5) smq_nil))))) (smg_name 3))
 (sms_ret (sm_if (smt_t (f1 := false) (sm_op (f1 := false) (f2 := false) opd_isN (sm_var 3) sm_non)) (sm_call len_full (smq_cons (sm_str _) smq_nil)) (sm_call len_single (smq_cons (sm_str _) (smq_cons (sm_var 3) smq_nil))))))))), ?_⟩
  rintro rs Φ ⟨k, p, w, a, b, rfl, hk, hp, hpp, h⟩
  refine seq_op fun N hN => ?_
  refine dIfS_two (fun c => c = false) (fun Ψ hΨ => ?_) (fun hc => by cases hc) (fun _ => ?_)
  · have hΨ := hΨ _ rfl
    simpa [startD, hp] using hΨ
  simp only [dNext]
  refine hN _ ?_
  clear hN N
  refine seq_op fun N hN => ?_
  simp [startD]
  refine hN _ ?_
  clear hN N
  refine seq_op fun N hN => ?_
  unfold icmpR at h
  refine dIfS_two (fun c => c = decide (a.l = a.h ∧ b.l = b.h)) (fun Ψ hΨ => ?_) (fun hc => ?_) (fun hc => ?_)
  · have hΨ' := hΨ _ rfl
    simp
    refine ⟨a, rfl, ?_⟩
    by_cases c1 : a.l = a.h
    · simp [c1]
      refine ⟨b, rfl, ?_⟩
      by_cases c2 : b.l = b.h <;> simpa [c1, c2] using hΨ'
    · simpa [c1] using hΨ'
  · have hc := of_decide_eq_true hc.symm
    rw [if_pos hc] at h
    simp [rg]
    refine ⟨k, _, rfl, hk.1, ?_⟩
    refine ⟨p, w, _, _, rfl, hpp, hk.2.1, hk.2.2, ?_⟩
    cases e : cmpI p w (a.l : Int) (b.l : Int)
    · rw [e] at h
      exact ⟨"i1", 1, 0, rfl, kw1, by decide, h⟩
    · rw [e] at h
      exact ⟨"i1", 1, 1, rfl, kw1, by decide, h⟩
  have hc := of_decide_eq_false hc.symm
  rw [if_neg hc] at h
  simp only [dNext]
  refine hN _ ?_
  clear hN N
  refine seq_op fun N hN => ?_
  simp
  refine ⟨p, k, w, a, b, rfl, hpp, rank_lt p, hk.1, hk.2.1, hk.2.2, hN _ ?_⟩
  clear hN N
  cases e : dec p w a b with
  | none =>
    rw [e] at h
    simp [oD]
    exact ⟨"i1", 1, rfl, kw1, h⟩
  | some c =>
    rw [e] at h
    cases c
    · simp [oD]
      exact ⟨"i1", 1, 0, rfl, kw1, by decide, h⟩
    · simp [oD]
      exact ⟨"i1", 1, 1, rfl, kw1, by decide, h⟩
def castR (op : Str) (v w : Nat) (a : Rg) : Ri :=
  if op = "trunc" then (if 2 ^ w - 1 < a.h then ⟨0, (2 ^ w - 1 : Nat), a.z &&& (2 ^ w - 1), a.o &&& (2 ^ w - 1)⟩ else ⟨a.l, a.h, a.z &&& (2 ^ w - 1), a.o &&& (2 ^ w - 1)⟩)
  else if op = "sext" ∧ a.z &&& 2 ^ (v - 1) = 0 then ⟨0, (2 ^ w - 1 : Nat), 0, 0⟩ else ⟨a.l, a.h, a.z ||| (2 ^ w - 1 - (2 ^ v - 1)), a.o⟩


def castI (op : Str) (v w : Nat) (x : Int) : Int := if op = "trunc" then x % 2 ^ w else if op = "zext" then x else sgn v x % 2 ^ w
theorem castR_ok {op : Str} {v w : Nat} {a : Rg} (ha : InW v a) (hvw : op ≠ "trunc" → v ≤ w) : NXok w (castR op v w a) := by
  obtain ⟨a1, a2, a3, a4⟩ := ha
  have hp := Nat.two_pow_pos w
  unfold castR
  by_cases c : op = "trunc"
  · rw [if_pos c]
    split
    · exact NXok_of (by show (0 : Int) ≤ 0; omega) (by show ((2 ^ w - 1 : Nat) : Int) < _; omega) (Nat.lt_of_le_of_lt Nat.and_le_right (by omega)) (Nat.lt_of_le_of_lt Nat.and_le_right (by omega))
    · exact NXok_of (by show (0 : Int) ≤ (a.l : Int); omega) (by show (a.h : Int) < _; omega) (Nat.lt_of_le_of_lt Nat.and_le_right (by omega)) (Nat.lt_of_le_of_lt Nat.and_le_right (by omega))
  · rw [if_neg c]
    have := Nat.pow_le_pow_right (n := 2) (by decide) (hvw c)
    split
    · exact NXok_of (by show (0 : Int) ≤ 0; omega) (by show ((2 ^ w - 1 : Nat) : Int) < _; omega) hp hp
    · exact NXok_of (by show (0 : Int) ≤ (a.l : Int); omega) (by show (a.h : Int) < _; omega) (Nat.or_lt_two_pow (by omega) (by omega)) (by show a.o < _; omega)
def vp__cast : VSp := fun rs Φ => ∃ (op k old : Str) (v w : Nat) (a : Rg), rs = [.d (.str op), .d (.str k), .d (.str old), .d (rg a)] ∧ KW k w ∧ KW old v ∧ InW v a ∧ (op = "trunc" ∨ op = "zext" ∨ op = "sext") ∧ (op ≠ "trunc" → v ≤ w) ∧
  (a.l = a.h → ∀ n : Nat, (n : Int) = castI op v w a.l → n < 2 ^ w → Φ (.d (rg ⟨n, n, 2 ^ w - 1 - n, n⟩))) ∧ (¬ a.l = a.h → ¬ (op = "sext" ∧ a.z &&& 2 ^ (v - 1) = 0) → ∀ r, NX w (castR op v w a) r → Φ (.d (rgO r))) ∧ (¬ a.l = a.h → op = "sext" ∧ a.z &&& 2 ^ (v - 1) = 0 → Φ (.d (rg ⟨0, 2 ^ w - 1, 0, 0⟩)))
theorem len__cast : ∀ rs Φ, vp__cast rs Φ → rs.length = 4 := fun rs Φ ⟨_, _, _, _, _, _, e, _⟩ => by rw [e]; rfl
theorem G__cast (T : Txt K mg w) : FnOk P w K mg base CX0 6 T.f__cast T.fd__cast ["op", "kind", "old", "bounds"] (toSp K 4 vp__cast) := by
  refine fn_ok T.F__cast sc__cast fun cdv A outer s H E hr => ⟨_, (pss_cons (ps_if (pt_val (pe_call (G_is_single T) (hr.mono (by decide)) (by rfl) T.g_is_single T.F_is_single.kp T.b_is_single .nil pass0 (pa_cons (pv 3) pa_nil))) (pss_one (ps_ret (pe_call (G_single T) (hr.mono (by decide)) (by rfl) T.g_single T.F_single.kp T.b_single .nil pass0 (pa_cons (pv 1) (pa_cons (pe_call (G_cast T) (hr.mono (by decide)) (by rfl) T.g_cast T.F_cast.kp T.b_cast .nil pass0 (pa_cons (pv 0) (pa_cons (pe_call (G_width T) (hr.mono (by decide)) (by rfl) T.g_width T.F_width.kp T.b_width .nil pass0 (pa_cons (pv 2) pa_nil)) (pa_cons (pe_call (G_width T) (hr.mono (by decide)) (by rfl) T.g_width T.F_width.kp T.b_width .nil pass0 (pa_cons (pv 1) pa_nil)) (pa_cons (pe_ix (kx_seq (K := K) rfl) (pv 3) pe_int (fun _ _ => rfl)) pa_nil))))) pa_nil))))) pss_nil)
 (pss_cons (ps_asg (pv 3) (pg_tup (n := 4) rfl (pgs_cons (pg_name (i := 5) sc__cast.nd rfl (Or.inl rfl)) (pgs_cons (pg_name (i := 6) sc__cast.nd rfl (Or.inl rfl)) (pgs_cons (pg_name (i := 7) sc__cast.nd rfl (Or.inl rfl)) (pgs_cons (pg_name (i := 8) sc__cast.nd rfl (Or.inl rfl)) pgs_nil))))))
 (pss_cons (ps_set (i := 4) sc__cast.nd rfl (Or.inl rfl) (pe_call (G_top_of T) (hr.mono (by decide)) (by rfl) T.g_top_of T.F_top_of.kp T.b_top_of .nil pass0 (pa_cons (pv 1) pa_nil)))
 (pss_cons (ps_if (pt_cmpR op_eq (pv 0) pe_str (nomark _)) (pss_cons (ps_if (pt_cmpR op_gt (pv 6) (pv 4) (nomark _)) (pss_one (ps_par (by rfl) sc__cast.nd rfl rfl (by decide) rfl rfl (pa_cons pe_int (pa_cons (pv 4) pa_nil)) (by rfl))) pss_nil)
 (pss_one (ps_ret (pe_call (G_normal T) hr (by rfl) T.g_normal T.F_normal.kp T.b_normal .nil pass0 (pa_cons (pv 1) (pa_cons (pe_tup (pa_cons (pv 5) (pa_cons (pv 6) (pa_cons (pe_op op_and (pv 7) (pv 4)) (pa_cons (pe_op op_and (pv 8) (pv 4)) pa_nil))))) pa_nil)))))) pss_nil)
 (pss_cons (ps_if (PW.pt (pw_and (pt_cmpR op_eq (pv 0) pe_str (nomark _)) (pw_and1 (pt_not (pt_truth (pe_op op_and (pv 7) (pe_call (G_half_of T) (hr.mono (by decide)) (by rfl) T.g_half_of T.F_half_of.kp T.b_half_of .nil pass0 (pa_cons (pv 2) pa_nil))) (by intro _; rfl)))))) (pss_one (ps_ret (pe_call (G_full T) (hr.mono (by decide)) (by rfl) T.g_full T.F_full.kp T.b_full .nil pass0 (pa_cons (pv 1) pa_nil)))) pss_nil)
 (pss_one (ps_ret (pe_call (G_normal T) hr (by rfl) T.g_normal T.F_normal.kp T.b_normal .nil pass0 (pa_cons (pv 1) (pa_cons (pe_tup (pa_cons (pv 5) (pa_cons (pv 6) (pa_cons (pe_op op_or (pv 7) (pe_op op_sub (pv 4) (pe_call (G_top_of T) (hr.mono (by decide)) (by rfl) T.g_top_of T.F_top_of.kp T.b_top_of .nil pass0 (pa_cons (pv 2) pa_nil)))) (pa_cons (pv 8) pa_nil))))) pa_nil)))))))))), _, fun ex He Hf => (sms_seq (sms_if (smt_b (f1 := false) (sm_call len_is_single (smq_cons (sm_var 3) smq_nil)))
 (sms_ret (sm_call len_single (smq_cons (sm_var 1) (smq_cons (sm_call len_cast (smq_cons (sm_var 0) (smq_cons (sm_call len_width (smq_cons (sm_var 2) smq_nil)) (smq_cons (sm_call len_width (smq_cons (sm_var 1) smq_nil)) (smq_cons (sm_ix (f2 := false) (sm_var 3) (sm_int _)) smq_nil))))) smq_nil))))
 sms_next)
 (sms_seq (sms_asg (sm_var 3) (smg_tup (smg_cons (smg_name 5) (smg_cons (smg_name 6) (smg_cons (smg_name 7) (smg_cons (smg_name 8) smg_nil))))))
 (sms_seq (sms_asg (sm_call len_top_of (smq_cons (sm_var 1) smq_nil)) (smg_name 4))
 (sms_seq (sms_if (smt_t (f1 := false) (sm_op (f1 := false) (f2 := false) opd_eq (sm_var 0) (sm_str _)))
 (sms_seq (sms_if (smt_t (f1 := false) (sm_op (f1 := false) (f2 := false) (opd_I0 (g' := fun i j => .bool (decide (j < i))) fun _ _ => rfl) (sm_var 6) (sm_var 4)))
 (sms_par 5 6 (sm_int _) (sm_var 4))
 sms_next)
 (sms_ret (sm_call len_normal (smq_cons (sm_var 1) (smq_cons (sm_tup (sma_cons (sm_var 5) (sma_cons (sm_var 6) (sma_cons (sm_op (f1 := false) (f2 := false) (opd_I0 (g' := fun i j => .int (Builtin.bitAnd i j)) fun _ _ => rfl) (sm_var 7) (sm_var 4)) (sma_cons (sm_op (f1 := false) (f2 := false) (opd_I0 (g' := fun i j => .int (Builtin.bitAnd i j)) fun _ _ => rfl) (sm_var 8) (sm_var 4)) sma_nil))))) smq_nil)))))
 sms_next)
 (sms_seq (sms_if (smt_and (smt_t (f1 := false) (sm_op (f1 := false) (f2 := false) opd_eq (sm_var 0) (sm_str _))) (smt_not (smt_tru (f1 := false) (sm_op (f1 := false) (f2 := false) (opd_I0 (g' := fun i j => .int (Builtin.bitAnd i j)) fun _ _ => rfl) (sm_var 7) (sm_call len_half_of (smq_cons (sm_var 2) smq_nil))))))
 (sms_ret (sm_call len_full (smq_cons (sm_var 1) smq_nil)))
 sms_next)
 (sms_ret (sm_call len_normal (smq_cons (sm_var 1) (smq_cons (sm_tup (sma_cons (sm_var 5) (sma_cons (sm_var 6) (sma_cons (sm_op (f1 := false) (f2 := false) (opd_I0 (g' := fun i j => .int (Builtin.bitOr i j)) fun _ _ => rfl) (sm_var 7) (sm_op (f1 := false) (f2 := false) (opd_I0 (g' := fun i j => .int (i - j)) fun _ _ => rfl) (sm_var 4) (sm_call len_top_of (smq_cons (sm_var 2) smq_nil)))) (sma_cons (sm_var 8) sma_nil))))) smq_nil))))))))), ?_⟩
  rintro rs Φ ⟨op, k, old, v, w, a, rfl, hk, ho, ha, hop, hvw, g1, g2, g3⟩
  have hp := Nat.two_pow_pos w
  refine seq_op fun N hN => ?_
  by_cases c0 : a.l = a.h
  · have g1 := g1 c0
    have b1 := ha.1
    have hnat : ∃ n : Nat, (n : Int) = castI op v w a.l ∧ n < 2 ^ w := by
      have hpI : (0 : Int) < 2 ^ w := pow_pos2 w
      have m0 : ∀ y : Int, ∃ n : Nat, (n : Int) = y % 2 ^ w ∧ n < 2 ^ w := fun y => by
        obtain ⟨n, hn⟩ := Int.eq_ofNat_of_zero_le (Int.emod_nonneg y (show (2 : Int) ^ w ≠ 0 by omega))
        have hlt := Int.emod_lt_of_pos y hpI
        rw [hn, ← PySem.W.kbt_cast] at hlt
        exact ⟨n, hn.symm, Int.ofNat_lt.mp hlt⟩
      unfold castI
      split
      · exact m0 _
      · rename_i c
        split
        · have := Nat.pow_le_pow_right (n := 2) (by decide) (hvw c)
          exact ⟨a.l, rfl, by omega⟩
        · exact m0 _
    obtain ⟨n, n1, n2⟩ := hnat
    have g1 := g1 n n1 n2
    simp [startD]
    refine ⟨a, rfl, ?_⟩
    simp [c0]
    refine ⟨old, _, rfl, ho.1, k, _, rfl, hk.1, ?_⟩
    simp [rg]
    refine ⟨op, v, w, _, rfl, ho.2.1, ho.2.2, hk.2.2, ?_⟩
    have fin : vp_single [.d (.str k), .d (.int (n : Int))] fun r => Φ (.d r.data) := ⟨k, w, n, rfl, hk, n2, g1⟩
    rcases hop with rfl | rfl | rfl
    · have n1 : (n : Int) = (a.l : Int) % 2 ^ w := by simpa [castI] using n1
      rw [n1] at fin
      exact .inr (.inl ⟨rfl, fin⟩)
    · have n1 : (n : Int) = (a.l : Int) := by simpa [castI] using n1
      rw [n1] at fin
      exact .inr (.inr ⟨rfl, fin⟩)
    · have n1 : (n : Int) = sgn v (a.l : Int) % 2 ^ w := by simpa [castI] using n1
      rw [n1] at fin
      exact .inl ⟨rfl, fin⟩
  refine dIfS_two (fun c => c = false) (fun Ψ hΨ => ?_) (fun hc => by cases hc) (fun _ => ?_)
  · have hΨ := hΨ _ rfl
    simp [startD]
    refine ⟨a, rfl, ?_⟩
    simp [c0]
    exact hΨ
  simp only [dNext]
  refine hN _ ?_
  clear hN N
  refine seq_op fun N hN => ?_
  simp [startD, rg]
  refine hN _ ?_
  clear hN N
  refine seq_op fun N hN => ?_
  simp
  refine ⟨k, w, rfl, hk, hN _ ?_⟩
  clear hN N
  simp only [data_d]
  refine seq_op fun N hN => ?_
  have ok := castR_ok (op := op) ha hvw
  have g2 := g2 c0
  have g3 := g3 c0
  by_cases c1 : op = "trunc"
  · have g2 := g2 fun q => by rw [c1] at q; exact absurd q.1 (by decide)
    refine dIfS_two (fun c => c = true) (fun Ψ hΨ => ?_) (fun _ => ?_) (fun hc => by cases hc)
    · have hΨ := hΨ _ rfl
      simp [c1]
      exact hΨ
    refine seq_op fun M hM => ?_
    simp only [castR, if_pos c1] at ok g2
    refine dIfS_two (fun c => c = decide (2 ^ w - 1 < a.h)) (fun Ψ hΨ => ?_) (fun hc => ?_) (fun hc => ?_)
    · have hΨ := hΨ _ rfl
      generalize 2 ^ w - 1 = top at hΨ ⊢
      simp
      exact hΨ
    · have hc := of_decide_eq_true hc.symm
      rw [if_pos hc] at ok g2
      simp
      refine hM _ ?_
      generalize 2 ^ w - 1 = top at ok g2 ⊢
      simp [bA]
      exact ⟨by decide, k, w, _, rfl, hk, ok, g2⟩
    · have hc := of_decide_eq_false hc.symm
      rw [if_neg hc] at ok g2
      simp only [dNext]
      refine hM _ ?_
      generalize 2 ^ w - 1 = top at ok g2 ⊢
      simp [bA]
      exact ⟨by decide, k, w, _, rfl, hk, ok, g2⟩
  refine dIfS_two (fun c => c = false) (fun Ψ hΨ => ?_) (fun hc => by cases hc) (fun _ => ?_)
  · have hΨ := hΨ _ rfl
    simp [c1]
    exact hΨ
  simp only [dNext]
  refine hN _ ?_
  clear hN N
  refine seq_op fun N hN => ?_
  refine dIfS_two (fun c => c = decide (op = "sext" ∧ a.z &&& 2 ^ (v - 1) = 0)) (fun Ψ hΨ => ?_) (fun hc => ?_) (fun hc => ?_)
  · have hΨ' := hΨ _ rfl
    clear hΨ
    simp
    by_cases c2 : op = "sext"
    · simp [c2]
      refine ⟨old, v, rfl, ho.1, ho.2.1, ho.2.2, ?_⟩
      generalize 2 ^ (v - 1) = hf at hΨ' ⊢
      simp [bA]
      by_cases c3 : a.z &&& hf = 0
      · simpa [c2, c3] using hΨ'
      · have e : (((a.z &&& hf : Nat) : Int) != 0) = true := by simp [c3]
        rw [e]
        simpa [c2, c3] using hΨ'
    · simpa [c2] using hΨ'
  · have hc := of_decide_eq_true hc.symm
    simp
    exact ⟨k, w, rfl, hk, g3 hc⟩
  have hc := of_decide_eq_false hc.symm
  have g2 := g2 hc
  simp only [castR, if_neg c1, if_neg hc] at ok g2
  simp only [dNext]
  refine hN _ ?_
  have hle := Nat.pow_le_pow_right (n := 2) (by decide) (hvw c1)
  have et : ((2 ^ w - 1 : Nat) : Int) - ((2 ^ v - 1 : Nat) : Int) = ((2 ^ w - 1 - (2 ^ v - 1) : Nat) : Int) := by omega
  simp
  refine ⟨old, v, rfl, ho, ?_⟩
  simp
  rw [et, bO]
  exact ⟨by decide, k, w, _, rfl, hk, ok, g2⟩


/-! ### rows of transfer (k30): what they say of each result. Mathematics alone. -/
/-- k low bits are known -/
def Low (a : Rg) (k : Nat) : Prop := ∀ j, j < k → (a.z ||| a.o).testBit j = true
theorem low_eq {a : Rg} {x k : Nat} (h : Low a k) (hx : Mem x a) : x % 2 ^ k = a.o % 2 ^ k := Nat.eq_of_testBit_eq fun j => by
  rw [Nat.testBit_mod_two_pow, Nat.testBit_mod_two_pow]
  by_cases c : j < k
  · have := h j c
    rw [Nat.testBit_or, Bool.or_eq_true] at this
    cases e : a.o.testBit j with
    | true => rw [sup_iff.mp hx.2.2.2 j e]
    | false =>
      rw [e] at this
      have hz : a.z.testBit j = true := by simpa using this
      cases ex : x.testBit j with
      | false => rfl
      | true => rw [dis_iff.mp hx.2.2.1 j ex] at hz; cases hz
  · rw [decide_eq_false c, Bool.false_and, Bool.false_and]
theorem low_mem {v k t : Nat} (h : v % 2 ^ k = t) : v &&& (2 ^ k - 1 - t) = 0 ∧ v &&& t = t := by
  have ht : t < 2 ^ k := by rw [← h]; exact Nat.mod_lt _ (Nat.two_pow_pos k)
  have tb : ∀ j, t.testBit j = (decide (j < k) && v.testBit j) := fun j => by rw [← h, Nat.testBit_mod_two_pow]
  refine ⟨dis_iff.mpr fun j hj => ?_, sup_iff.mpr fun j hj => ?_⟩
  · rw [comp_bit ht, tb, hj]
    cases decide (j < k) <;> rfl
  · rw [tb, Bool.and_eq_true] at hj
    exact hj.2
theorem mod_low {n w k : Nat} (h : k ≤ w) : n % 2 ^ w % 2 ^ k = n % 2 ^ k := Nat.mod_mod_of_dvd n (Nat.pow_dvd_pow 2 h)
/-- zeros and ones of k low bits t -/
def lowR (l u : Int) (k t : Nat) : Ri := ⟨l, u, 2 ^ k - 1 - t, t⟩
theorem lowR_mem {v k t : Nat} {l u : Int} (h1 : l ≤ v) (h2 : (v : Int) ≤ u) (h : v % 2 ^ k = t) : MemI v (lowR l u k t) := ⟨h1, h2, (low_mem h).1, (low_mem h).2⟩
theorem add_row {w k x y : Nat} {a b : Rg} (hk : k ≤ w) (la : Low a k) (lb : Low b k) (ha : a.h < 2 ^ w) (hb : b.h < 2 ^ w) (hx : Mem x a) (hy : Mem y b) :
    MemI ((x + y) % 2 ^ w) (if 2 ^ w ≤ a.l + b.l then lowR ((a.l + b.l : Nat) - (2 ^ w : Nat)) ((a.h + b.h : Nat) - (2 ^ w : Nat)) k ((a.o + b.o) % 2 ^ k) else if a.h + b.h < 2 ^ w then lowR (a.l + b.l : Nat) (a.h + b.h : Nat) k ((a.o + b.o) % 2 ^ k) else lowR 0 (2 ^ w - 1 : Nat) k ((a.o + b.o) % 2 ^ k)) := by
  have e : (x + y) % 2 ^ w % 2 ^ k = (a.o + b.o) % 2 ^ k := by
    rw [mod_low hk, Nat.add_mod, low_eq la hx, low_eq lb hy, ← Nat.add_mod]
  obtain ⟨x1, x2, _⟩ := hx
  obtain ⟨y1, y2, _⟩ := hy
  split
  · have : (x + y) % 2 ^ w = x + y - 2 ^ w := by
      rw [Nat.mod_eq_sub_mod (by omega), Nat.mod_eq_of_lt (by omega)]
    exact lowR_mem (by rw [this]; omega) (by rw [this]; omega) e
  · split
    · have : (x + y) % 2 ^ w = x + y := Nat.mod_eq_of_lt (by omega)
      exact lowR_mem (by rw [this]; omega) (by rw [this]; omega) e
    · have := Nat.mod_lt (x + y) (Nat.two_pow_pos w)
      exact lowR_mem (by omega) (by omega) e
theorem mul_row {w k x y : Nat} {a b : Rg} (hk : k ≤ w) (la : Low a k) (lb : Low b k) (hx : Mem x a) (hy : Mem y b) :
    MemI (x * y % 2 ^ w) (if a.h * b.h < 2 ^ w then lowR (a.l * b.l : Nat) (a.h * b.h : Nat) k (a.o * b.o % 2 ^ k) else lowR 0 (2 ^ w - 1 : Nat) k (a.o * b.o % 2 ^ k)) := by
  have e : x * y % 2 ^ w % 2 ^ k = a.o * b.o % 2 ^ k := by
    rw [mod_low hk, Nat.mul_mod, low_eq la hx, low_eq lb hy, ← Nat.mul_mod]
  have l := Nat.mul_le_mul hx.1 hy.1
  have u := Nat.mul_le_mul hx.2.1 hy.2.1
  split
  · have : x * y % 2 ^ w = x * y := Nat.mod_eq_of_lt (by omega)
    exact lowR_mem (by rw [this]; exact Int.ofNat_le.mpr l) (by rw [this]; exact Int.ofNat_le.mpr u) e
  · have := Nat.mod_lt (x * y) (Nat.two_pow_pos w)
    exact lowR_mem (by omega) (by omega) e
/-- the difference, wrapped -/
def subN (w x y : Nat) : Nat := (x + (2 ^ w - y)) % 2 ^ w
theorem sub_low {w k x y p q : Nat} (hk : k ≤ w) (yw : y < 2 ^ w) (qw : q < 2 ^ w) (hx : x % 2 ^ k = p % 2 ^ k) (hy : y % 2 ^ k = q % 2 ^ k) : subN w x y % 2 ^ k = subN w p q % 2 ^ k := by
  obtain ⟨d, hd⟩ := Nat.pow_dvd_pow 2 hk
  unfold subN
  rw [mod_low hk, mod_low hk]
  have t : ∀ n m : Nat, m < 2 ^ w → (n + (2 ^ w - m) + m) % 2 ^ k = n % 2 ^ k := fun n m h => by
    rw [show n + (2 ^ w - m) + m = n + 2 ^ k * d by omega, Nat.add_mul_mod_self_left]
  have h1 := t x y yw
  have h2 := t p q qw
  rw [hx, ← h2, Nat.add_mod, hy, ← Nat.add_mod] at h1
  have hp := Nat.two_pow_pos k
  have := congrArg (fun n => (n + (2 ^ k - q % 2 ^ k)) % 2 ^ k) h1
  have c : ∀ n : Nat, ((n + q) % 2 ^ k + (2 ^ k - q % 2 ^ k)) % 2 ^ k = n % 2 ^ k := fun n => by
    have hq := Nat.mod_lt q hp
    rw [Nat.mod_add_mod, show n + q + (2 ^ k - q % 2 ^ k) = n + (q - q % 2 ^ k) + 2 ^ k by have := Nat.mod_le q (2 ^ k); omega, Nat.add_mod_right]
    have := Nat.mod_add_div q (2 ^ k)
    rw [show q - q % 2 ^ k = 2 ^ k * (q / 2 ^ k) by omega, Nat.add_mul_mod_self_left]
  rw [c, c] at this
  exact this
theorem subN_ge {w x y : Nat} (xw : x < 2 ^ w) (h : y ≤ x) : subN w x y = x - y := by
  unfold subN
  by_cases e : y = 0
  · subst e
    rw [Nat.sub_zero, Nat.add_mod_right, Nat.mod_eq_of_lt xw, Nat.sub_zero]
  · rw [show x + (2 ^ w - y) = (x - y) + 2 ^ w by omega, Nat.add_mod_right, Nat.mod_eq_of_lt (by omega)]
theorem subN_lt {w x y : Nat} (yw : y < 2 ^ w) (h : x < y) : subN w x y = x + 2 ^ w - y := by
  unfold subN
  rw [Nat.mod_eq_of_lt (by omega)]
  omega
theorem sub_row {w k x y : Nat} {a b : Rg} (hk : k ≤ w) (la : Low a k) (lb : Low b k) (ha : InW w a) (hb : InW w b) (hx : Mem x a) (hy : Mem y b) :
    MemI (subN w x y) (if a.h < b.l then lowR ((a.l : Int) - b.h + (2 ^ w : Nat)) ((a.h : Int) - b.l + (2 ^ w : Nat)) k (subN w a.o b.o % 2 ^ k) else if b.h ≤ a.l then lowR ((a.l : Int) - b.h) ((a.h : Int) - b.l) k (subN w a.o b.o % 2 ^ k) else lowR 0 (2 ^ w - 1 : Nat) k (subN w a.o b.o % 2 ^ k)) := by
  obtain ⟨a1, a2, a3, a4⟩ := ha
  obtain ⟨b1, b2, b3, b4⟩ := hb
  have yw : y < 2 ^ w := Nat.lt_of_le_of_lt hy.2.1 b2
  have xw : x < 2 ^ w := Nat.lt_of_le_of_lt hx.2.1 a2
  have e := sub_low hk yw b4 (low_eq la hx) (low_eq lb hy)
  obtain ⟨x1, x2, _⟩ := hx
  obtain ⟨y1, y2, _⟩ := hy
  split
  · have := subN_lt yw (show x < y by omega)
    exact lowR_mem (by rw [this]; omega) (by rw [this]; omega) e
  · split
    · have := subN_ge xw (show y ≤ x by omega)
      exact lowR_mem (by rw [this]; omega) (by rw [this]; omega) e
    · have : subN w x y < 2 ^ w := Nat.mod_lt _ (Nat.two_pow_pos w)
      exact lowR_mem (by omega) (by omega) e
theorem and_row {x y : Nat} {a b : Rg} (hx : Mem x a) (hy : Mem y b) : MemI (x &&& y) ⟨0, (min a.h b.h : Nat), a.z ||| b.z, a.o &&& b.o⟩ := by
  obtain ⟨x1, x2, x3, x4⟩ := hx
  obtain ⟨y1, y2, y3, y4⟩ := hy
  have h1 : x &&& y ≤ x := Nat.and_le_left
  have h2 : x &&& y ≤ y := Nat.and_le_right
  refine ⟨?_, ?_, dis_iff.mpr fun j hj => ?_, sup_iff.mpr fun j hj => ?_⟩
  · show (0 : Int) ≤ _; omega
  · show _ ≤ ((min a.h b.h : Nat) : Int); omega
  · rw [Nat.testBit_and, Bool.and_eq_true] at hj
    show (a.z ||| b.z).testBit j = false
    rw [Nat.testBit_or, dis_iff.mp x3 j hj.1, dis_iff.mp y3 j hj.2]
    rfl
  · have hj : (a.o &&& b.o).testBit j = true := hj
    rw [Nat.testBit_and, Bool.and_eq_true] at hj
    rw [Nat.testBit_and, sup_iff.mp x4 j hj.1, sup_iff.mp y4 j hj.2]
    rfl
theorem or_row {w x y : Nat} {a b : Rg} (xw : x < 2 ^ w) (yw : y < 2 ^ w) (hx : Mem x a) (hy : Mem y b) : MemI (x ||| y) ⟨(max a.l b.l : Nat), (2 ^ w - 1 : Nat), a.z &&& b.z, a.o ||| b.o⟩ := by
  obtain ⟨x1, x2, x3, x4⟩ := hx
  obtain ⟨y1, y2, y3, y4⟩ := hy
  have h1 : x ≤ x ||| y := Nat.left_le_or
  have h2 : y ≤ x ||| y := Nat.right_le_or
  have h3 := Nat.or_lt_two_pow xw yw
  refine ⟨?_, ?_, dis_iff.mpr fun j hj => ?_, sup_iff.mpr fun j hj => ?_⟩
  · show ((max a.l b.l : Nat) : Int) ≤ _; omega
  · show _ ≤ ((2 ^ w - 1 : Nat) : Int); omega
  · rw [Nat.testBit_or, Bool.or_eq_true] at hj
    show (a.z &&& b.z).testBit j = false
    rw [Nat.testBit_and]
    rcases hj with hj | hj
    · rw [dis_iff.mp x3 j hj]; rfl
    · rw [dis_iff.mp y3 j hj]; cases a.z.testBit j <;> rfl
  · have hj : (a.o ||| b.o).testBit j = true := hj
    rw [Nat.testBit_or, Bool.or_eq_true] at hj
    rw [Nat.testBit_or]
    rcases hj with hj | hj
    · rw [sup_iff.mp x4 j hj]; rfl
    · rw [sup_iff.mp y4 j hj]; cases x.testBit j <;> rfl
theorem xor_row {w x y : Nat} {a b : Rg} (xw : x < 2 ^ w) (yw : y < 2 ^ w) (hx : Mem x a) (hy : Mem y b) : MemI (x ^^^ y) ⟨0, (2 ^ w - 1 : Nat), (a.z &&& b.z) ||| (a.o &&& b.o), (a.z &&& b.o) ||| (a.o &&& b.z)⟩ := by
  obtain ⟨x1, x2, x3, x4⟩ := hx
  obtain ⟨y1, y2, y3, y4⟩ := hy
  have h3 := Nat.xor_lt_two_pow xw yw
  have xz : ∀ j, a.z.testBit j = true → x.testBit j = false := fun j hj => by
    cases e : x.testBit j with
    | false => rfl
    | true => rw [dis_iff.mp x3 j e] at hj; cases hj
  have yz : ∀ j, b.z.testBit j = true → y.testBit j = false := fun j hj => by
    cases e : y.testBit j with
    | false => rfl
    | true => rw [dis_iff.mp y3 j e] at hj; cases hj
  refine ⟨?_, ?_, dis_iff.mpr fun j hj => ?_, sup_iff.mpr fun j hj => ?_⟩
  · show (0 : Int) ≤ _; omega
  · show _ ≤ ((2 ^ w - 1 : Nat) : Int); omega
  · show ((a.z &&& b.z) ||| (a.o &&& b.o)).testBit j = false
    rw [Nat.testBit_xor] at hj
    rw [Nat.testBit_or, Nat.testBit_and, Nat.testBit_and]
    have p1 := xz j
    have p2 := yz j
    have p3 := sup_iff.mp x4 j
    have p4 := sup_iff.mp y4 j
    revert hj p1 p2 p3 p4
    cases x.testBit j <;> cases y.testBit j <;> cases a.z.testBit j <;> cases b.z.testBit j <;> cases a.o.testBit j <;> cases b.o.testBit j <;> simp
  · have hj : ((a.z &&& b.o) ||| (a.o &&& b.z)).testBit j = true := hj
    rw [Nat.testBit_or, Nat.testBit_and, Nat.testBit_and] at hj
    rw [Nat.testBit_xor]
    have p1 := xz j
    have p2 := yz j
    have p3 := sup_iff.mp x4 j
    have p4 := sup_iff.mp y4 j
    revert hj p1 p2 p3 p4
    cases x.testBit j <;> cases y.testBit j <;> cases a.z.testBit j <;> cases b.z.testBit j <;> cases a.o.testBit j <;> cases b.o.testBit j <;> simp
theorem full_row {w v : Nat} (h : v < 2 ^ w) : MemI v ⟨0, (2 ^ w - 1 : Nat), 0, 0⟩ := ⟨by show (0 : Int) ≤ _; omega, by show _ ≤ ((2 ^ w - 1 : Nat) : Int); omega, Nat.and_zero v, Nat.and_zero v⟩
theorem mod_bits {w n j : Nat} : (n % 2 ^ w).testBit j = (decide (j < w) && n.testBit j) := Nat.testBit_mod_two_pow n w j
theorem shl_row {w c x : Nat} {a : Rg} (hx : Mem x a) :
    MemI (x * 2 ^ c % 2 ^ w) (if 2 ^ w - 1 < a.h * 2 ^ c then ⟨0, (2 ^ w - 1 : Nat), (a.z * 2 ^ c) &&& (2 ^ w - 1) ||| (2 ^ c - 1), (a.o * 2 ^ c) &&& (2 ^ w - 1)⟩ else ⟨(a.l * 2 ^ c : Nat), (a.h * 2 ^ c : Nat), (a.z * 2 ^ c) &&& (2 ^ w - 1) ||| (2 ^ c - 1), (a.o * 2 ^ c) &&& (2 ^ w - 1)⟩) := by
  obtain ⟨x1, x2, x3, x4⟩ := hx
  have sb : ∀ n j : Nat, (n * 2 ^ c).testBit j = (decide (c ≤ j) && n.testBit (j - c)) := fun n j => by
    rw [Nat.mul_comm, Nat.testBit_two_pow_mul]
  have hz : x * 2 ^ c % 2 ^ w &&& ((a.z * 2 ^ c) &&& (2 ^ w - 1) ||| (2 ^ c - 1)) = 0 := dis_iff.mpr fun j hj => by
    rw [mod_bits, sb, Bool.and_eq_true, Bool.and_eq_true] at hj
    obtain ⟨_, j2, j3⟩ := hj
    rw [Nat.testBit_or, Nat.testBit_and, sb, dis_iff.mp x3 _ j3, Nat.testBit_two_pow_sub_one, Nat.testBit_two_pow_sub_one, decide_eq_false (show ¬ j < c by have := of_decide_eq_true j2; omega)]
    simp
  have ho : x * 2 ^ c % 2 ^ w &&& ((a.o * 2 ^ c) &&& (2 ^ w - 1)) = (a.o * 2 ^ c) &&& (2 ^ w - 1) := sup_iff.mpr fun j hj => by
    rw [Nat.testBit_and, sb, Nat.testBit_two_pow_sub_one, Bool.and_eq_true, Bool.and_eq_true] at hj
    obtain ⟨⟨j1, j2⟩, j3⟩ := hj
    rw [mod_bits, sb, j3, j1, sup_iff.mp x4 _ j2]
    rfl
  have l := Nat.mul_le_mul_right (2 ^ c) x1
  have u := Nat.mul_le_mul_right (2 ^ c) x2
  have hp := Nat.two_pow_pos w
  split
  · have := Nat.mod_lt (x * 2 ^ c) hp
    exact ⟨by show (0 : Int) ≤ _; omega, by show _ ≤ ((2 ^ w - 1 : Nat) : Int); omega, hz, ho⟩
  · have e : x * 2 ^ c % 2 ^ w = x * 2 ^ c := Nat.mod_eq_of_lt (by omega)
    rw [e] at hz ho ⊢
    exact ⟨Int.ofNat_le.mpr l, Int.ofNat_le.mpr u, hz, ho⟩
theorem shr_row {w c x : Nat} {a : Rg} (xw : x < 2 ^ w) (hx : Mem x a) :
    MemI (x / 2 ^ c) ⟨(a.l / 2 ^ c : Nat), (a.h / 2 ^ c : Nat), (a.z / 2 ^ c) ||| (2 ^ w - 1 - (2 ^ w - 1) / 2 ^ c), a.o / 2 ^ c⟩ := by
  obtain ⟨x1, x2, x3, x4⟩ := hx
  have sb : ∀ n j : Nat, (n / 2 ^ c).testBit j = n.testBit (c + j) := fun n j => by
    rw [← Nat.shiftRight_eq_div_pow, Nat.testBit_shiftRight]
  have hp := Nat.two_pow_pos w
  have dl : (2 ^ w - 1) / 2 ^ c < 2 ^ w := Nat.lt_of_le_of_lt (Nat.div_le_self _ _) (by omega)
  refine ⟨Int.ofNat_le.mpr (Nat.div_le_div_right x1), Int.ofNat_le.mpr (Nat.div_le_div_right x2), dis_iff.mpr fun j hj => ?_, sup_iff.mpr fun j hj => ?_⟩
  · rw [sb] at hj
    show ((a.z / 2 ^ c) ||| (2 ^ w - 1 - (2 ^ w - 1) / 2 ^ c)).testBit j = false
    have hjw : c + j < w := by
      refine Nat.lt_of_not_le fun q => ?_
      rw [Nat.testBit_lt_two_pow (Nat.lt_of_lt_of_le xw (Nat.pow_le_pow_right (by decide) q))] at hj
      cases hj
    rw [Nat.testBit_or, sb, dis_iff.mp x3 _ hj, comp_bit dl, sb, Nat.testBit_two_pow_sub_one, decide_eq_true hjw]
    simp
  · have hj : (a.o / 2 ^ c).testBit j = true := hj
    rw [sb] at hj ⊢
    exact sup_iff.mp x4 _ hj
theorem udiv_row {x y : Nat} {a b : Rg} (hx : Mem x a) (hy : Mem y b) (h0 : y ≠ 0) :
    MemI (x / y) (if b.l = b.h then ⟨(a.l / b.l : Nat), (a.h / b.l : Nat), 0, 0⟩ else ⟨0, a.h, 0, 0⟩) := by
  obtain ⟨x1, x2, _⟩ := hx
  obtain ⟨y1, y2, _⟩ := hy
  split
  · obtain rfl : y = b.l := by omega
    exact ⟨Int.ofNat_le.mpr (Nat.div_le_div_right x1), Int.ofNat_le.mpr (Nat.div_le_div_right x2), Nat.and_zero _, Nat.and_zero _⟩
  · have := Nat.div_le_self x y
    exact ⟨Int.natCast_nonneg _, Int.ofNat_le.mpr (Nat.le_trans this x2), Nat.and_zero _, Nat.and_zero _⟩
theorem urem_row {x y : Nat} {a b : Rg} (hx : Mem x a) (hy : Mem y b) (h0 : y ≠ 0) :
    MemI (x % y) (if b.l = b.h then (if a.h < b.l then ⟨a.l, a.h, 0, 0⟩ else ⟨0, (b.l : Int) - 1, 0, 0⟩) else ⟨0, (min a.h (b.h - 1) : Nat), 0, 0⟩) := by
  obtain ⟨x1, x2, _⟩ := hx
  obtain ⟨y1, y2, _⟩ := hy
  have lt := Nat.mod_lt x (Nat.pos_of_ne_zero h0)
  have le := Nat.mod_le x y
  split
  · obtain rfl : y = b.l := by omega
    split
    · have : x % b.l = x := Nat.mod_eq_of_lt (by omega)
      rw [this]
      exact ⟨by show (a.l : Int) ≤ _; omega, by show _ ≤ (a.h : Int); omega, Nat.and_zero _, Nat.and_zero _⟩
    · exact ⟨by show (0 : Int) ≤ _; omega, by show _ ≤ (b.l : Int) - 1; omega, Nat.and_zero _, Nat.and_zero _⟩
  · exact ⟨by show (0 : Int) ≤ _; omega, by show _ ≤ ((min a.h (b.h - 1) : Nat) : Int); omega, Nat.and_zero _, Nat.and_zero _⟩
theorem trunc_row {w x : Nat} {a : Rg} (hx : Mem x a) :
    MemI (x % 2 ^ w) (if 2 ^ w - 1 < a.h then ⟨0, (2 ^ w - 1 : Nat), a.z &&& (2 ^ w - 1), a.o &&& (2 ^ w - 1)⟩ else ⟨a.l, a.h, a.z &&& (2 ^ w - 1), a.o &&& (2 ^ w - 1)⟩) := by
  obtain ⟨x1, x2, x3, x4⟩ := hx
  have hp := Nat.two_pow_pos w
  have hz : x % 2 ^ w &&& (a.z &&& (2 ^ w - 1)) = 0 := dis_iff.mpr fun j hj => by
    rw [mod_bits, Bool.and_eq_true] at hj
    rw [Nat.testBit_and, dis_iff.mp x3 _ hj.2]
    rfl
  have ho : x % 2 ^ w &&& (a.o &&& (2 ^ w - 1)) = a.o &&& (2 ^ w - 1) := sup_iff.mpr fun j hj => by
    rw [Nat.testBit_and, Nat.testBit_two_pow_sub_one, Bool.and_eq_true] at hj
    rw [mod_bits, hj.2, sup_iff.mp x4 _ hj.1]
    rfl
  split
  · have := Nat.mod_lt x hp
    exact ⟨by show (0 : Int) ≤ _; omega, by show _ ≤ ((2 ^ w - 1 : Nat) : Int); omega, hz, ho⟩
  · have e : x % 2 ^ w = x := Nat.mod_eq_of_lt (by omega)
    rw [e] at hz ho ⊢
    exact ⟨by show (a.l : Int) ≤ _; omega, by show _ ≤ (a.h : Int); omega, hz, ho⟩
theorem ext_row {v w x : Nat} {a : Rg} (hvw : v ≤ w) (xv : x < 2 ^ v) (hx : Mem x a) : MemI x ⟨a.l, a.h, a.z ||| (2 ^ w - 1 - (2 ^ v - 1)), a.o⟩ := by
  obtain ⟨x1, x2, x3, x4⟩ := hx
  have hpv := Nat.two_pow_pos v
  have hle := Nat.pow_le_pow_right (n := 2) (by decide) hvw
  refine ⟨by show (a.l : Int) ≤ _; omega, by show _ ≤ (a.h : Int); omega, dis_iff.mpr fun j hj => ?_, x4⟩
  show (a.z ||| (2 ^ w - 1 - (2 ^ v - 1))).testBit j = false
  have hjv : j < v := by
    refine Nat.lt_of_not_le fun q => ?_
    rw [Nat.testBit_lt_two_pow (Nat.lt_of_lt_of_le xv (Nat.pow_le_pow_right (by decide) q))] at hj
    cases hj
  rw [Nat.testBit_or, dis_iff.mp x3 j hj, comp_bit (by omega), Nat.testBit_two_pow_sub_one, decide_eq_true hjv]
  simp
/-- a single tight value -/
theorem single_row {w v : Nat} (hv : v < 2 ^ w) : MemI v ⟨v, v, 2 ^ w - 1 - v, v⟩ := ⟨Int.le_refl _, Int.le_refl _, and_comp hv, Nat.and_self _⟩


/-! ### the low bits that are known: x & -x -/
theorem low_split : ∀ u : Nat, 0 < u → ∃ k m, u = 2 ^ (k + 1) * m + 2 ^ k := fun u => by
  induction u using Nat.strongRecOn with
  | ind u ih =>
    intro h
    rcases Nat.mod_two_eq_zero_or_one u with e | e
    · obtain ⟨k, m, h2⟩ := ih (u / 2) (by omega) (by omega)
      refine ⟨k + 1, m, ?_⟩
      have : u = 2 * (u / 2) := by omega
      rw [this, h2, Nat.pow_succ 2 (k + 1), Nat.pow_succ 2 k]
      rw [Nat.mul_add, Nat.mul_comm (2 ^ k * 2) 2, Nat.mul_assoc 2, Nat.mul_comm 2 (2 ^ k)]
    · refine ⟨0, u / 2, ?_⟩
      omega
theorem low_and {k m : Nat} : (2 ^ (k + 1) * m + 2 ^ k) &&& (2 ^ (k + 1) * m + (2 ^ k - 1)) = 2 ^ (k + 1) * m := by
  have hp := Nat.two_pow_pos k
  have h1 : 2 ^ k < 2 ^ (k + 1) := by rw [Nat.pow_succ]; omega
  refine Nat.eq_of_testBit_eq fun j => ?_
  rw [Nat.testBit_and, Nat.testBit_two_pow_mul_add _ h1, Nat.testBit_two_pow_mul_add _ (show 2 ^ k - 1 < 2 ^ (k + 1) by omega), Nat.testBit_two_pow_mul]
  by_cases c : j < k + 1
  · rw [if_pos c, if_pos c, Nat.testBit_two_pow, Nat.testBit_two_pow_sub_one, decide_eq_false (show ¬ j ≥ k + 1 by omega)]
    by_cases e : k = j
    · rw [decide_eq_false (show ¬ j < k by omega)]; simp
    · rw [decide_eq_false e]; rfl
  · rw [if_neg c, if_neg c, decide_eq_true (show j ≥ k + 1 by omega), Bool.and_self, Bool.true_and]
theorem low_neg {k m : Nat} : Builtin.bitAnd ((2 ^ (k + 1) * m + 2 ^ k : Nat) : Int) (-((2 ^ (k + 1) * m + 2 ^ k : Nat) : Int)) = ((2 ^ k : Nat) : Int) := by
  have hp := Nat.two_pow_pos k
  have e := @low_and k m
  generalize hu : 2 ^ (k + 1) * m + 2 ^ k = u at e
  have hu1 : 2 ^ (k + 1) * m + (2 ^ k - 1) = u - 1 := by omega
  rw [hu1] at e
  have n : Builtin.bitNot (-(u : Int)) = ((u - 1 : Nat) : Int) := by
    rw [PySem.W.kbt_not]
    omega
  unfold Builtin.bitAnd
  rw [decide_eq_true (Int.natCast_nonneg u), decide_eq_false (show ¬ (0 : Int) ≤ -(u : Int) by omega)]
  dsimp only
  rw [n, Int.toNat_natCast, Int.toNat_natCast, e]
  omega
/-- the lowest k bits of m are set, and no more of the w -/
def LowK (w m k : Nat) : Prop := k ≤ w ∧ (∀ j, j < k → m.testBit j = true) ∧ (k = w ∨ m.testBit k = false)
theorem LowK.uniq {w m k l : Nat} (h : LowK w m k) (g : LowK w m l) : k = l := by
  obtain ⟨h1, h2, h3⟩ := h
  obtain ⟨g1, g2, g3⟩ := g
  rcases Nat.lt_trichotomy k l with c | c | c
  · have := g2 k c
    rcases h3 with h3 | h3
    · omega
    · rw [h3] at this; cases this
  · exact c
  · have := h2 l c
    rcases g3 with g3 | g3
    · omega
    · rw [g3] at this; cases this
theorem mask_low {w m : Nat} (hm : m < 2 ^ w) : ∃ k, LowK w m k ∧ Builtin.bitAnd (Builtin.bitAnd ((2 ^ w - 1 - m : Nat) : Int) (-((2 ^ w - 1 - m : Nat) : Int)) - 1) ((2 ^ w - 1 : Nat) : Int) = ((2 ^ k - 1 : Nat) : Int) := by
  have hp := Nat.two_pow_pos w
  by_cases c : 2 ^ w - 1 - m = 0
  · refine ⟨w, ⟨Nat.le_refl _, fun j hj => ?_, .inl rfl⟩, ?_⟩
    · obtain rfl : m = 2 ^ w - 1 := by omega
      rw [Nat.testBit_two_pow_sub_one]
      exact decide_eq_true hj
    · rw [c, show Builtin.bitAnd ((0 : Nat) : Int) (-((0 : Nat) : Int)) = 0 from rfl]
      unfold Builtin.bitAnd
      rw [decide_eq_false (show ¬ (0 : Int) ≤ 0 - 1 by omega), decide_eq_true (Int.natCast_nonneg _)]
      dsimp only
      rw [PySem.W.kbt_not, show (-(0 - 1 : Int) - 1) = 0 from rfl, Int.toNat_zero, Nat.and_zero]
      omega
  · obtain ⟨k, n, e⟩ := low_split (2 ^ w - 1 - m) (by omega)
    have hpk := Nat.two_pow_pos k
    have hkw : k < w := by
      refine Nat.lt_of_not_le fun q => ?_
      have := Nat.pow_le_pow_right (n := 2) (by decide) q
      have := Nat.le_add_left (2 ^ k) (2 ^ (k + 1) * n)
      omega
    have bt : ∀ j, j < k + 1 → (2 ^ w - 1 - m).testBit j = decide (k = j) := fun j hj => by
      have h1 : 2 ^ k < 2 ^ (k + 1) := by rw [Nat.pow_succ]; omega
      rw [e, Nat.testBit_two_pow_mul_add _ h1, if_pos hj, Nat.testBit_two_pow]
    refine ⟨k, ⟨by omega, fun j hj => ?_, .inr ?_⟩, ?_⟩
    · have := bt j (by omega)
      rw [comp_bit hm, decide_eq_true (show j < w by omega), decide_eq_false (show ¬ k = j by omega)] at this
      cases h : m.testBit j with
      | true => rfl
      | false => rw [h] at this; cases this
    · have := bt k (by omega)
      rw [comp_bit hm, decide_eq_true hkw, decide_eq_true rfl] at this
      cases h : m.testBit k with
      | false => rfl
      | true => rw [h] at this; cases this
    · rw [e, low_neg]
      have hle := Nat.pow_le_pow_right (n := 2) (by decide) (show k ≤ w by omega)
      rw [show ((2 ^ k : Nat) : Int) - 1 = ((2 ^ k - 1 : Nat) : Int) by omega, bA, Nat.and_two_pow_sub_one_eq_mod, Nat.mod_eq_of_lt (by omega)]

def arN (op : Str) (w x y : Nat) : Nat := if op = "add" then (x + y) % 2 ^ w else if op = "sub" then subN w x y else x * y % 2 ^ w
theorem arN_lt (op : Str) (w x y : Nat) : arN op w x y < 2 ^ w := by
  have hp := Nat.two_pow_pos w
  unfold arN
  split
  · exact Nat.mod_lt _ hp
  split
  · exact Nat.mod_lt _ hp
  · exact Nat.mod_lt _ hp
theorem arN_low {op : Str} {w k x y : Nat} (hk : k ≤ w) (yw : y < 2 ^ w) : arN op w (x % 2 ^ k) (y % 2 ^ k) % 2 ^ k = arN op w x y % 2 ^ k := by
  unfold arN
  split
  · rw [mod_low hk, mod_low hk, ← Nat.add_mod]
  split
  · exact sub_low hk (Nat.lt_of_le_of_lt (Nat.mod_le _ _) yw) yw (Nat.mod_mod _ _) (Nat.mod_mod _ _)
  · rw [mod_low hk, mod_low hk, ← Nat.mul_mod]
theorem bin_ar {op : Str} {w x y : Nat} (ho : op = "add" ∨ op = "sub" ∨ op = "mul") (yw : y < 2 ^ w) : bin op w (x : Int) (y : Int) = .int (arN op w x y : Nat) := by
  have hp : (0 : Int) < 2 ^ w := pow_pos2 w
  rcases ho with rfl | rfl | rfl
  · simp [bin, arN]
  · simp [bin, arN, subN]
    rw [show ((2 ^ w - y : Nat) : Int) = (2 : Int) ^ w - y by rw [← PySem.W.kbt_cast]; omega, show (x : Int) + ((2 : Int) ^ w - y) = (x - y) + 2 ^ w by omega]
    first | rw [Int.add_emod_right] | rw [Int.add_emod_self]
  · simp [bin, arN]
def knM (a b : Rg) : Nat := (a.z ||| a.o) &&& (b.z ||| b.o)
def vp__low_bits : VSp := fun rs Φ => ∃ (op k : Str) (w : Nat) (a b : Rg), rs = [.d (.str op), .d (.str k), .d (rg a), .d (rg b)] ∧ (op = "add" ∨ op = "sub" ∨ op = "mul") ∧ KW k w ∧ InW w a ∧ InW w b ∧
  ∀ j, LowK w (knM a b) j → Φ (.d (.tuple [.int ((2 ^ j - 1 - arN op w a.o b.o % 2 ^ j : Nat) : Int), .int ((arN op w a.o b.o % 2 ^ j : Nat) : Int)]))
theorem len__low_bits : ∀ rs Φ, vp__low_bits rs Φ → rs.length = 4 := fun rs Φ ⟨_, _, _, _, _, e, _⟩ => by rw [e]; rfl
theorem G__low_bits (T : Txt K mg w) : FnOk P w K mg base CX0 4 T.f__low_bits T.fd__low_bits ["op", "kind", "a", "b"] (toSp K 4 vp__low_bits) := by
  refine fn_ok T.F__low_bits sc__low_bits fun cdv A outer s H E hr => ⟨_, (pss_cons (ps_set (i := 4) sc__low_bits.nd rfl (Or.inl rfl) (pe_op op_sub (pe_call (G_top_of T) (hr.mono (by decide)) (by rfl) T.g_top_of T.F_top_of.kp T.b_top_of .nil pass0 (pa_cons (pv 1) pa_nil)) (pe_op op_and (pe_op op_or (pe_ix (kx_seq (K := K) rfl) (pv 2) pe_int (fun _ _ => rfl)) (pe_ix (kx_seq (K := K) rfl) (pv 2) pe_int (fun _ _ => rfl))) (pe_op op_or (pe_ix (kx_seq (K := K) rfl) (pv 3) pe_int (fun _ _ => rfl)) (pe_ix (kx_seq (K := K) rfl) (pv 3) pe_int (fun _ _ => rfl))))))
 (pss_cons (ps_set (i := 5) sc__low_bits.nd rfl (Or.inl rfl) (pe_op op_and (pe_op op_sub (pe_op op_and (pv 4) (pe_un un_neg (pv 4))) pe_int) (pe_call (G_top_of T) (hr.mono (by decide)) (by rfl) T.g_top_of T.F_top_of.kp T.b_top_of .nil pass0 (pa_cons (pv 1) pa_nil))))
 (pss_cons (ps_set (i := 6) sc__low_bits.nd rfl (Or.inl rfl) (pe_op op_and (pe_call (G_binary T) hr (by rfl) T.g_binary T.F_binary.kp T.b_binary .nil pass0 (pa_cons (pv 0) (pa_cons (pe_call (G_width T) (hr.mono (by decide)) (by rfl) T.g_width T.F_width.kp T.b_width .nil pass0 (pa_cons (pv 1) pa_nil)) (pa_cons (pe_op op_and (pe_ix (kx_seq (K := K) rfl) (pv 2) pe_int (fun _ _ => rfl)) (pv 5)) (pa_cons (pe_op op_and (pe_ix (kx_seq (K := K) rfl) (pv 3) pe_int (fun _ _ => rfl)) (pv 5)) pa_nil))))) (pv 5)))
 (pss_one (ps_ret (pe_tup (pa_cons (pe_op op_sub (pv 5) (pv 6)) (pa_cons (pv 6) pa_nil)))))))), _, fun ex He Hf => (sms_seq (sms_asg (sm_op (f1 := false) (f2 := false) (opd_I0 (g' := fun i j => .int (i - j)) fun _ _ => rfl) (sm_call len_top_of (smq_cons (sm_var 1) smq_nil)) (sm_op (f1 := false) (f2 := false) (opd_I0 (g' := fun i j => .int (Builtin.bitAnd i j)) fun _ _ => rfl) (sm_op (f1 := false) (f2 := false) (opd_I0 (g' := fun i j => .int (Builtin.bitOr i j)) fun _ _ => rfl) (sm_ix (f2 := false) (sm_var 2) (sm_int _)) (sm_ix (f2 := false) (sm_var 2) (sm_int _))) (sm_op (f1 := false) (f2 := false) (opd_I0 (g' := fun i j => .int (Builtin.bitOr i j)) fun _ _ => rfl) (sm_ix (f2 := false) (sm_var 3) (sm_int _)) (sm_ix (f2 := false) (sm_var 3) (sm_int _))))) (smg_name 4))
 (sms_seq (sms_asg (sm_op (f1 := false) (f2 := false) (opd_I0 (g' := fun i j => .int (Builtin.bitAnd i j)) fun _ _ => rfl) (sm_op (f1 := false) (f2 := false) (opd_I0 (g' := fun i j => .int (i - j)) fun _ _ => rfl) (sm_op (f1 := false) (f2 := false) (opd_I0 (g' := fun i j => .int (Builtin.bitAnd i j)) fun _ _ => rfl) (sm_var 4) (sm_un (f1 := false) (g' := fun i => .int (-i)) (fun _ => rfl) (sm_var 4))) (sm_int _)) (sm_call len_top_of (smq_cons (sm_var 1) smq_nil))) (smg_name 5))
 (sms_seq (sms_asg (sm_op (f1 := false) (f2 := false) (opd_I0 (g' := fun i j => .int (Builtin.bitAnd i j)) fun _ _ => rfl) (sm_call len_binary (smq_cons (sm_var 0) (smq_cons (sm_call len_width (smq_cons (sm_var 1) smq_nil)) (smq_cons (sm_op (f1 := false) (f2 := false) (opd_I0 (g' := fun i j => .int (Builtin.bitAnd i j)) fun _ _ => rfl) (sm_ix (f2 := false) (sm_var 2) (sm_int _)) (sm_var 5)) (smq_cons (sm_op (f1 := false) (f2 := false) (opd_I0 (g' := fun i j => .int (Builtin.bitAnd i j)) fun _ _ => rfl) (sm_ix (f2 := false) (sm_var 3) (sm_int _)) (sm_var 5)) smq_nil))))) (sm_var 5)) (smg_name 6))
 (sms_ret (sm_tup (sma_cons (sm_op (f1 := false) (f2 := false) (opd_I0 (g' := fun i j => .int (i - j)) fun _ _ => rfl) (sm_var 5) (sm_var 6)) (sma_cons (sm_var 6) sma_nil))))))), ?_⟩
  rintro rs Φ ⟨op, k, w, a, b, rfl, ho, hk, ha, hb, h⟩
  have hp := Nat.two_pow_pos w
  have hw := hk.2.2
  have km : knM a b < 2 ^ w := Nat.lt_of_le_of_lt Nat.and_le_left (Nat.or_lt_two_pow ha.2.2.1 ha.2.2.2)
  obtain ⟨j, hj, ej⟩ := mask_low km
  have h := h j hj
  refine seq_op fun N hN => ?_
  simp [startD]
  refine ⟨k, w, rfl, hk, ?_⟩
  simp [rg, bA, bO]
  rw [show ((2 ^ w - 1 : Nat) : Int) - (((a.z ||| a.o) &&& (b.z ||| b.o) : Nat) : Int) = ((2 ^ w - 1 - knM a b : Nat) : Int) by unfold knM; unfold knM at km; omega]
  refine hN _ ?_
  clear hN N
  refine seq_op fun N hN => ?_
  simp
  refine ⟨k, w, rfl, hk, ?_⟩
  simp only [data_d]
  refine ⟨_, rfl, ?_⟩
  rw [ej]
  refine hN _ ?_
  clear hN N
  refine seq_op fun N hN => ?_
  simp [bA]
  refine ⟨k, _, rfl, hk.1, ?_⟩
  have hjw := hj.1
  have hle := Nat.pow_le_pow_right (n := 2) (by decide) hjw
  have hpj := Nat.two_pow_pos j
  have lt1 : ∀ x : Nat, x % 2 ^ j < 2 ^ w := fun x => Nat.lt_of_lt_of_le (Nat.mod_lt x hpj) hle
  have vl : ∀ x : Nat, Val w ((x % 2 ^ j : Nat) : Int) := fun x => ⟨Int.natCast_nonneg _, by rw [← PySem.W.kbt_cast]; exact Int.ofNat_lt.mpr (lt1 x)⟩
  have em : ∀ x : Nat, (x : Int) % 2 ^ j = ((x % 2 ^ j : Nat) : Int) := fun x => by rw [← PySem.W.kbt_cast]; rfl
  simp only [data_d]
  rw [em, em]
  refine ⟨op, w, _, _, rfl, by rcases ho with rfl | rfl | rfl <;> simp [ops], hk.2.1, hw, vl _, vl _, ?_⟩
  rw [bin_ar ho (lt1 _)]
  refine ⟨_, rfl, ?_⟩
  rw [bA, Nat.and_two_pow_sub_one_eq_mod, arN_low hjw hb.2.2.2]
  refine hN _ ?_
  clear hN N
  generalize ht : arN op w a.o b.o % 2 ^ j = t at h ⊢
  have htj : t < 2 ^ j := by rw [← ht]; exact Nat.mod_lt _ hpj
  have e1 : ((2 ^ j - 1 : Nat) : Int) - (t : Int) = ((2 ^ j - 1 - t : Nat) : Int) := by omega
  generalize 2 ^ j - 1 = mk at e1 h ⊢
  simp [le_size, lt_size, cmul_l, cpow_l, cdiv_l, e1]
  exact h
def boR (op : Str) (w : Nat) (a b : Rg) : Int × Int :=
  if op = "add" then (if 2 ^ w ≤ a.l + b.l then ((a.l + b.l : Nat) - (2 ^ w : Nat), (a.h + b.h : Nat) - (2 ^ w : Nat)) else if a.h + b.h < 2 ^ w then ((a.l + b.l : Nat), (a.h + b.h : Nat)) else (0, (2 ^ w - 1 : Nat)))
  else if op = "sub" then (if a.h < b.l then ((a.l : Int) - b.h + (2 ^ w : Nat), (a.h : Int) - b.l + (2 ^ w : Nat)) else if b.h ≤ a.l then ((a.l : Int) - b.h, (a.h : Int) - b.l) else (0, (2 ^ w - 1 : Nat)))
  else (if a.h * b.h < 2 ^ w then ((a.l * b.l : Nat), (a.h * b.h : Nat)) else (0, (2 ^ w - 1 : Nat)))
def arR (op : Str) (w k : Nat) (a b : Rg) : Ri := lowR (boR op w a b).1 (boR op w a b).2 k (arN op w a.o b.o % 2 ^ k)
theorem ar_row {op : Str} {w k x y : Nat} {a b : Rg} (ho : op = "add" ∨ op = "sub" ∨ op = "mul") (hk : LowK w (knM a b) k) (ha : InW w a) (hb : InW w b) (hx : Mem x a) (hy : Mem y b) : MemI (arN op w x y) (arR op w k a b) := by
  obtain ⟨h1, h2, _⟩ := hk
  have la : Low a k := fun j hj => by
    have := h2 j hj
    unfold knM at this
    rw [Nat.testBit_and, Bool.and_eq_true] at this
    exact this.1
  have lb : Low b k := fun j hj => by
    have := h2 j hj
    unfold knM at this
    rw [Nat.testBit_and, Bool.and_eq_true] at this
    exact this.2
  rcases ho with rfl | rfl | rfl
  · have := add_row h1 la lb ha.2.1 hb.2.1 hx hy
    have e : (a.o + b.o) % 2 ^ w % 2 ^ k = (a.o + b.o) % 2 ^ k := mod_low h1
    simp only [arR, boR, arN, if_pos, e]
    split at this
    · rename_i c; rw [if_pos c]; exact this
    · rename_i c
      rw [if_neg c]
      split at this
      · rename_i c2; rw [if_pos c2]; exact this
      · rename_i c2; rw [if_neg c2]; exact this
  · have := sub_row h1 la lb ha hb hx hy
    simp only [arR, boR, arN, if_neg (show ¬ ("sub" : Str) = "add" by decide), if_pos]
    split at this
    · rename_i c; rw [if_pos c]; exact this
    · rename_i c
      rw [if_neg c]
      split at this
      · rename_i c2; rw [if_pos c2]; exact this
      · rename_i c2; rw [if_neg c2]; exact this
  · have := mul_row (w := w) h1 la lb hx hy
    have e : a.o * b.o % 2 ^ w % 2 ^ k = a.o * b.o % 2 ^ k := mod_low h1
    simp only [arR, boR, arN, if_neg (show ¬ ("mul" : Str) = "add" by decide), if_neg (show ¬ ("mul" : Str) = "sub" by decide), e]
    split at this
    · rename_i c; rw [if_pos c]; exact this
    · rename_i c; rw [if_neg c]; exact this


def vp__arithmetic : VSp := fun rs Φ => ∃ (op k : Str) (w : Nat) (a b : Rg), rs = [.d (.str op), .d (.str k), .d (rg a), .d (rg b)] ∧ (op = "add" ∨ op = "sub" ∨ op = "mul") ∧ KW k w ∧ InW w a ∧ InW w b ∧ a.l ≤ a.h ∧ b.l ≤ b.h ∧
  ∀ j, LowK w (knM a b) j → Φ (.d (ri (arR op w j a b)))
theorem len__arithmetic : ∀ rs Φ, vp__arithmetic rs Φ → rs.length = 4 := fun rs Φ ⟨_, _, _, _, _, e, _⟩ => by rw [e]; rfl
theorem G__arithmetic (T : Txt K mg w) : FnOk P w K mg base CX0 5 T.f__arithmetic T.fd__arithmetic ["op", "kind", "a", "b"] (toSp K 4 vp__arithmetic) := by
  refine fn_ok T.F__arithmetic sc__arithmetic fun cdv A outer s H E hr => ⟨_, (pss_cons (ps_set (i := 4) sc__arithmetic.nd rfl (Or.inl rfl) (pe_call (G_top_of T) (hr.mono (by decide)) (by rfl) T.g_top_of T.F_top_of.kp T.b_top_of .nil pass0 (pa_cons (pv 1) pa_nil)))
 (pss_cons (ps_asg (pe_call (G__low_bits T) hr (by rfl) T.g__low_bits T.F__low_bits.kp T.b__low_bits .nil pass0 (pa_cons (pv 0) (pa_cons (pv 1) (pa_cons (pv 2) (pa_cons (pv 3) pa_nil))))) (pg_tup (n := 2) rfl (pgs_cons (pg_name (i := 5) sc__arithmetic.nd rfl (Or.inl rfl)) (pgs_cons (pg_name (i := 6) sc__arithmetic.nd rfl (Or.inl rfl)) pgs_nil))))
 (pss_cons (ps_if (pt_cmpR op_eq (pv 0) pe_str (nomark _)) (pss_one (ps_par (by rfl) sc__arithmetic.nd rfl rfl (by decide) rfl rfl (pa_cons (pe_op op_add (pe_ix (kx_seq (K := K) rfl) (pv 2) pe_int (fun _ _ => rfl)) (pe_ix (kx_seq (K := K) rfl) (pv 3) pe_int (fun _ _ => rfl))) (pa_cons (pe_op op_add (pe_ix (kx_seq (K := K) rfl) (pv 2) pe_int (fun _ _ => rfl)) (pe_ix (kx_seq (K := K) rfl) (pv 3) pe_int (fun _ _ => rfl))) pa_nil)) (by rfl))) (pss_one (ps_if (pt_cmpR op_eq (pv 0) pe_str (nomark _)) (pss_one (ps_par (by rfl) sc__arithmetic.nd rfl rfl (by decide) rfl rfl (pa_cons (pe_op op_sub (pe_ix (kx_seq (K := K) rfl) (pv 2) pe_int (fun _ _ => rfl)) (pe_ix (kx_seq (K := K) rfl) (pv 3) pe_int (fun _ _ => rfl))) (pa_cons (pe_op op_sub (pe_ix (kx_seq (K := K) rfl) (pv 2) pe_int (fun _ _ => rfl)) (pe_ix (kx_seq (K := K) rfl) (pv 3) pe_int (fun _ _ => rfl))) pa_nil)) (by rfl))) (pss_one (ps_par (by rfl) sc__arithmetic.nd rfl rfl (by decide) rfl rfl (pa_cons (pe_op op_mul (pe_ix (kx_seq (K := K) rfl) (pv 2) pe_int (fun _ _ => rfl)) (pe_ix (kx_seq (K := K) rfl) (pv 3) pe_int (fun _ _ => rfl))) (pa_cons (pe_op op_mul (pe_ix (kx_seq (K := K) rfl) (pv 2) pe_int (fun _ _ => rfl)) (pe_ix (kx_seq (K := K) rfl) (pv 3) pe_int (fun _ _ => rfl))) pa_nil)) (by rfl))))))
 (pss_cons (ps_if (PW.pt (pw_and (pt_cmpR op_eq (pv 0) pe_str (nomark _)) (pw_and1 (pt_cmpR op_gt (pv 7) (pv 4) (nomark _))))) (pss_one (ps_par (by rfl) sc__arithmetic.nd rfl rfl (by decide) rfl rfl (pa_cons (pe_op op_sub (pe_op op_sub (pv 7) (pv 4)) pe_int) (pa_cons (pe_op op_sub (pe_op op_sub (pv 8) (pv 4)) pe_int) pa_nil)) (by rfl))) pss_nil)
 (pss_cons (ps_if (PW.pt (pw_and (pt_cmpR op_eq (pv 0) pe_str (nomark _)) (pw_and1 (pt_cmpR op_lt (pv 8) pe_int (nomark _))))) (pss_one (ps_par (by rfl) sc__arithmetic.nd rfl rfl (by decide) rfl rfl (pa_cons (pe_op op_add (pe_op op_add (pv 7) (pv 4)) pe_int) (pa_cons (pe_op op_add (pe_op op_add (pv 8) (pv 4)) pe_int) pa_nil)) (by rfl))) pss_nil)
 (pss_cons (ps_if (PW.pt (pw_or (pt_cmpR op_lt (pv 7) pe_int (nomark _)) (pw_or1 (pt_cmpR op_gt (pv 8) (pv 4) (nomark _))))) (pss_one (ps_par (by rfl) sc__arithmetic.nd rfl rfl (by decide) rfl rfl (pa_cons pe_int (pa_cons (pv 4) pa_nil)) (by rfl))) pss_nil)
 (pss_one (ps_ret (pe_tup (pa_cons (pv 7) (pa_cons (pv 8) (pa_cons (pv 5) (pa_cons (pv 6) pa_nil))))))))))))), _, fun ex He Hf => (sms_seq (sms_asg (sm_call len_top_of (smq_cons (sm_var 1) smq_nil)) (smg_name 4))
 (sms_seq (sms_asg (sm_call len__low_bits (smq_cons (sm_var 0) (smq_cons (sm_var 1) (smq_cons (sm_var 2) (smq_cons (sm_var 3) smq_nil))))) (smg_tup (smg_cons (smg_name 5) (smg_cons (smg_name 6) smg_nil))))
 (sms_seq (sms_if (smt_t (f1 := false) (sm_op (f1 := false) (f2 := false) opd_eq (sm_var 0) (sm_str _)))
 (sms_par 7 8 (sm_op (f1 := false) (f2 := false) (opd_I0 (g' := fun i j => .int (i + j)) fun _ _ => rfl) (sm_ix (f2 := false) (sm_var 2) (sm_int _)) (sm_ix (f2 := false) (sm_var 3) (sm_int _))) (sm_op (f1 := false) (f2 := false) (opd_I0 (g' := fun i j => .int (i + j)) fun _ _ => rfl) (sm_ix (f2 := false) (sm_var 2) (sm_int _)) (sm_ix (f2 := false) (sm_var 3) (sm_int _))))
 (sms_if (smt_t (f1 := false) (sm_op (f1 := false) (f2 := false) opd_eq (sm_var 0) (sm_str _)))
 (sms_par 7 8 (sm_op (f1 := false) (f2 := false) (opd_I0 (g' := fun i j => .int (i - j)) fun _ _ => rfl) (sm_ix (f2 := false) (sm_var 2) (sm_int _)) (sm_ix (f2 := false) (sm_var 3) (sm_int _))) (sm_op (f1 := false) (f2 := false) (opd_I0 (g' := fun i j => .int (i - j)) fun _ _ => rfl) (sm_ix (f2 := false) (sm_var 2) (sm_int _)) (sm_ix (f2 := false) (sm_var 3) (sm_int _))))
 (sms_par 7 8 (sm_op (f1 := false) (f2 := false) (opd_I (g' := fun i j => .int (i * j)) fun _ _ => rfl) (sm_ix (f2 := false) (sm_var 2) (sm_int _)) (sm_ix (f2 := false) (sm_var 3) (sm_int _))) (sm_op (f1 := false) (f2 := false) (opd_I (g' := fun i j => .int (i * j)) fun _ _ => rfl) (sm_ix (f2 := false) (sm_var 2) (sm_int _)) (sm_ix (f2 := false) (sm_var 3) (sm_int _))))))
 (sms_seq (sms_if (smt_and (smt_t (f1 := false) (sm_op (f1 := false) (f2 := false) opd_eq (sm_var 0) (sm_str _))) (smt_t (f1 := false) (sm_op (f1 := false) (f2 := false) (opd_I0 (g' := fun i j => .bool (decide (j < i))) fun _ _ => rfl) (sm_var 7) (sm_var 4))))
 (sms_par 7 8 (sm_op (f1 := false) (f2 := false) (opd_I0 (g' := fun i j => .int (i - j)) fun _ _ => rfl) (sm_op (f1 := false) (f2 := false) (opd_I0 (g' := fun i j => .int (i - j)) fun _ _ => rfl) (sm_var 7) (sm_var 4)) (sm_int _)) (sm_op (f1 := false) (f2 := false) (opd_I0 (g' := fun i j => .int (i - j)) fun _ _ => rfl) (sm_op (f1 := false) (f2 := false) (opd_I0 (g' := fun i j => .int (i - j)) fun _ _ => rfl) (sm_var 8) (sm_var 4)) (sm_int _)))
 sms_next)
 (sms_seq (sms_if (smt_and (smt_t (f1 := false) (sm_op (f1 := false) (f2 := false) opd_eq (sm_var 0) (sm_str _))) (smt_t (f1 := false) (sm_op (f1 := false) (f2 := false) (opd_I0 (g' := fun i j => .bool (decide (i < j))) fun _ _ => rfl) (sm_var 8) (sm_int _))))
 (sms_par 7 8 (sm_op (f1 := false) (f2 := false) (opd_I0 (g' := fun i j => .int (i + j)) fun _ _ => rfl) (sm_op (f1 := false) (f2 := false) (opd_I0 (g' := fun i j => .int (i + j)) fun _ _ => rfl) (sm_var 7) (sm_var 4)) (sm_int _)) (sm_op (f1 := false) (f2 := false) (opd_I0 (g' := fun i j => .int (i + j)) fun _ _ => rfl) (sm_op (f1 := false) (f2 := false) (opd_I0 (g' := fun i j => .int (i + j)) fun _ _ => rfl) (sm_var 8) (sm_var 4)) (sm_int _)))
 sms_next)
 (sms_seq (sms_if (smt_or (smt_t (f1 := false) (sm_op (f1 := false) (f2 := false) (opd_I0 (g' := fun i j => .bool (decide (i < j))) fun _ _ => rfl) (sm_var 7) (sm_int _))) (smt_t (f1 := false) (sm_op (f1 := false) (f2 := false) (opd_I0 (g' := fun i j => .bool (decide (j < i))) fun _ _ => rfl) (sm_var 8) (sm_var 4))))
 (sms_par 7 8 (sm_int _) (sm_var 4))
 sms_next)
 (sms_ret (sm_tup (sma_cons (sm_var 7) (sma_cons (sm_var 8) (sma_cons (sm_var 5) (sma_cons (sm_var 6) sma_nil)))))))))))), ?_⟩
  rintro rs Φ ⟨op, k, w, a, b, rfl, ho, hk, ha, hb, al, bl, h⟩
  have l4 : (4 : Nat) ≤ sizeLine := by decide
  have hp := Nat.two_pow_pos w
  have hw := hk.2.2
  have p64 := Nat.pow_le_pow_right (n := 2) (by decide) hw
  obtain ⟨a1, a2, a3, a4⟩ := ha
  obtain ⟨b1, b2, b3, b4⟩ := hb
  refine seq_op fun N hN => ?_
  simp [startD]
  refine ⟨k, w, rfl, hk, hN _ ?_⟩
  clear hN N
  simp only [data_d]
  refine seq_op fun N hN => ?_
  simp
  refine ⟨op, k, w, a, b, rfl, ho, hk, ⟨a1, a2, a3, a4⟩, ⟨b1, b2, b3, b4⟩, fun j hj => ?_⟩
  have h := h j hj
  simp only [arR, lowR, ri] at h
  generalize arN op w a.o b.o % 2 ^ j = t at h ⊢
  generalize 2 ^ j - 1 - t = z at h ⊢
  simp
  refine hN _ ?_
  clear hN N
  generalize hT : 2 ^ w = W at *
  have et : ((W - 1 : Nat) : Int) = (W : Int) - 1 := by omega
  rw [et]
  refine seq_op fun N1 k1 => ?_
  have s1 : ∀ l u : Int, (∀ l' u' : Int, (op = "add" → (l', u') = if (W : Int) - 1 < l then (l - W, u - W) else (l, u)) → (op = "sub" → (l', u') = if u < 0 then (l + W, u + W) else (l, u)) → (op = "mul" → (l', u') = (l, u)) → Φ (.d (.tuple [.int (if l' < 0 ∨ (W : Int) - 1 < u' then 0 else l'), .int (if l' < 0 ∨ (W : Int) - 1 < u' then (W : Int) - 1 else u'), .int z, .int t]))) →
      N1 [some (.d (.str op)), some (.d (.str k)), some (.d (rg a)), some (.d (rg b)), some (.d (.int ((W : Int) - 1))), some (.d (.int z)), some (.d (.int t)), some (.d (.int l)), some (.d (.int u))] := by
    intro l u hF
    refine k1 _ ?_
    clear k1 N1
    refine seq_op fun N2 k2 => ?_
    have s2 : ∀ l u : Int, (∀ l' u' : Int, (op = "sub" → (l', u') = if u < 0 then (l + W, u + W) else (l, u)) → (¬ op = "sub" → (l', u') = (l, u)) → Φ (.d (.tuple [.int (if l' < 0 ∨ (W : Int) - 1 < u' then 0 else l'), .int (if l' < 0 ∨ (W : Int) - 1 < u' then (W : Int) - 1 else u'), .int z, .int t]))) →
        N2 [some (.d (.str op)), some (.d (.str k)), some (.d (rg a)), some (.d (rg b)), some (.d (.int ((W : Int) - 1))), some (.d (.int z)), some (.d (.int t)), some (.d (.int l)), some (.d (.int u))] := by
      intro l u hF
      refine k2 _ ?_
      clear k2 N2
      refine seq_op fun N3 k3 => ?_
      have s3 : ∀ l u : Int, Φ (.d (.tuple [.int (if l < 0 ∨ (W : Int) - 1 < u then 0 else l), .int (if l < 0 ∨ (W : Int) - 1 < u then (W : Int) - 1 else u), .int z, .int t])) →
          N3 [some (.d (.str op)), some (.d (.str k)), some (.d (rg a)), some (.d (rg b)), some (.d (.int ((W : Int) - 1))), some (.d (.int z)), some (.d (.int t)), some (.d (.int l)), some (.d (.int u))] := by
        intro l u hG
        refine k3 _ ?_
        clear k3 N3
        refine seq_op fun N4 k4 => ?_
        refine dIfS_two (fun c => c = decide (l < 0 ∨ (W : Int) - 1 < u)) (fun Ψ hΨ => ?_) (fun hc => ?_) (fun hc => ?_)
        · have hΨ' := hΨ _ rfl
          simp
          by_cases c1 : l < 0
          · simpa [c1] using hΨ'
          · by_cases c2 : (W : Int) - 1 < u <;> simpa [c1, c2] using hΨ'
        · have hc := of_decide_eq_true hc.symm
          rw [if_pos hc, if_pos hc] at hG
          simp
          refine k4 _ ?_
          simp
          exact ⟨l4, hG⟩
        · have hc := of_decide_eq_false hc.symm
          rw [if_neg hc, if_neg hc] at hG
          simp only [dNext]
          refine k4 _ ?_
          simp
          exact ⟨l4, hG⟩
      refine dIfS_two (fun c => c = decide (op = "sub" ∧ u < 0)) (fun Ψ hΨ => ?_) (fun hc => ?_) (fun hc => ?_)
      · have hΨ' := hΨ _ rfl
        simp
        by_cases c1 : op = "sub" <;> simpa [c1] using hΨ'
      · have hc := of_decide_eq_true hc.symm
        simp
        have e1 : l + ((W : Int) - 1) + 1 = l + W := by omega
        have e2 : u + ((W : Int) - 1) + 1 = u + W := by omega
        rw [e1, e2]
        exact s3 _ _ (hF _ _ (fun _ => by rw [if_pos hc.2]) fun q => absurd hc.1 q)
      · have hc := of_decide_eq_false hc.symm
        simp only [dNext]
        exact s3 _ _ (hF _ _ (fun q => by rw [if_neg fun z => hc ⟨q, z⟩]) fun _ => rfl)
    refine dIfS_two (fun c => c = decide (op = "add" ∧ (W : Int) - 1 < l)) (fun Ψ hΨ => ?_) (fun hc => ?_) (fun hc => ?_)
    · have hΨ' := hΨ _ rfl
      simp
      by_cases c1 : op = "add" <;> simpa [c1] using hΨ'
    · have hc := of_decide_eq_true hc.symm
      have ns : ¬ op = "sub" := by rw [hc.1]; decide
      have nm : ¬ op = "mul" := by rw [hc.1]; decide
      simp
      have e1 : l - ((W : Int) - 1) - 1 = l - W := by omega
      have e2 : u - ((W : Int) - 1) - 1 = u - W := by omega
      rw [e1, e2]
      refine s2 _ _ fun l' u' _ q => hF _ _ (fun _ => by rw [if_pos hc.2]; exact q ns) (fun z => absurd z ns) fun z => absurd z nm
    · have hc := of_decide_eq_false hc.symm
      simp only [dNext]
      refine s2 _ _ fun l' u' q1 q2 => hF _ _ (fun z => by rw [if_neg fun y => hc ⟨z, y⟩]; exact q2 (by rw [z]; decide)) q1 fun z => q2 (by rw [z]; decide)
  clear k1
  rcases ho with rfl | rfl | rfl
  · simp [rg]
    refine s1 _ _ fun l' u' q _ _ => ?_
    have q := q rfl
    have eq : boR "add" w a b = (if l' < 0 ∨ (W : Int) - 1 < u' then 0 else l', if l' < 0 ∨ (W : Int) - 1 < u' then (W : Int) - 1 else u') := by
      unfold boR
      rw [if_pos rfl, hT]
      by_cases c1 : (W : Int) - 1 < (a.l : Int) + b.l
      · rw [if_pos c1] at q
        obtain ⟨rfl, rfl⟩ := Prod.mk.inj q
        rw [if_pos (show W ≤ a.l + b.l by omega), if_neg (by omega), if_neg (by omega)]
        simp
      · rw [if_neg c1] at q
        obtain ⟨rfl, rfl⟩ := Prod.mk.inj q
        rw [if_neg (show ¬ W ≤ a.l + b.l by omega)]
        by_cases c2 : a.h + b.h < W
        · rw [if_pos c2, if_neg (by omega), if_neg (by omega)]
          simp
        · rw [if_neg c2, if_pos (by omega), if_pos (by omega), et]
    rw [eq] at h
    exact h
  · simp [rg]
    refine s1 _ _ fun l' u' _ q _ => ?_
    have q := q rfl
    have eq : boR "sub" w a b = (if l' < 0 ∨ (W : Int) - 1 < u' then 0 else l', if l' < 0 ∨ (W : Int) - 1 < u' then (W : Int) - 1 else u') := by
      unfold boR
      rw [if_neg (by decide), if_pos rfl, hT]
      by_cases c1 : (a.h : Int) - b.l < 0
      · rw [if_pos c1] at q
        obtain ⟨rfl, rfl⟩ := Prod.mk.inj q
        rw [if_pos (show a.h < b.l by omega), if_neg (by omega), if_neg (by omega)]
      · rw [if_neg c1] at q
        obtain ⟨rfl, rfl⟩ := Prod.mk.inj q
        rw [if_neg (show ¬ a.h < b.l by omega)]
        by_cases c2 : b.h ≤ a.l
        · rw [if_pos c2, if_neg (by omega), if_neg (by omega)]
        · rw [if_neg c2, if_pos (by omega), if_pos (by omega), et]
    rw [eq] at h
    exact h
  · simp [rg]
    refine ⟨.inl ⟨by omega, by omega⟩, .inl ⟨by omega, by omega⟩, ?_⟩
    refine s1 _ _ fun l' u' _ _ q => ?_
    have q := q rfl
    obtain ⟨rfl, rfl⟩ := Prod.mk.inj q
    have eq : boR "mul" w a b = (if (a.l : Int) * b.l < 0 ∨ (W : Int) - 1 < (a.h : Int) * b.h then 0 else (a.l : Int) * b.l, if (a.l : Int) * b.l < 0 ∨ (W : Int) - 1 < (a.h : Int) * b.h then (W : Int) - 1 else (a.h : Int) * b.h) := by
      unfold boR
      rw [if_neg (by decide), if_neg (by decide), hT]
      have m1 : (a.l : Int) * b.l = ((a.l * b.l : Nat) : Int) := (Int.natCast_mul _ _).symm
      have m2 : (a.h : Int) * b.h = ((a.h * b.h : Nat) : Int) := (Int.natCast_mul _ _).symm
      rw [m1, m2]
      by_cases c2 : a.h * b.h < W
      · rw [if_pos c2, if_neg (by omega), if_neg (by omega)]
      · rw [if_neg c2, if_pos (by omega), if_pos (by omega), et]
    rw [eq] at h
    exact h


theorem andR_ok {w : Nat} {a b : Rg} (ha : InW w a) (hb : InW w b) : NXok w (andR a b) := by
  obtain ⟨a1, a2, a3, a4⟩ := ha
  obtain ⟨b1, b2, b3, b4⟩ := hb
  exact NXok_of (by show (0 : Int) ≤ 0; omega) (by show ((min a.h b.h : Nat) : Int) < _; omega) (Nat.or_lt_two_pow a3 b3) (Nat.lt_of_le_of_lt Nat.and_le_left a4)
theorem orR_ok {w : Nat} {a b : Rg} (ha : InW w a) (hb : InW w b) : NXok w (orR w a b) := by
  obtain ⟨a1, a2, a3, a4⟩ := ha
  obtain ⟨b1, b2, b3, b4⟩ := hb
  have hp := Nat.two_pow_pos w
  exact NXok_of (by show (0 : Int) ≤ ((max a.l b.l : Nat) : Int); omega) (by show ((2 ^ w - 1 : Nat) : Int) < _; omega) (Nat.lt_of_le_of_lt Nat.and_le_left a3) (Nat.or_lt_two_pow a4 b4)
theorem xorR_ok {w : Nat} {a b : Rg} (ha : InW w a) (hb : InW w b) : NXok w (xorR w a b) := by
  obtain ⟨a1, a2, a3, a4⟩ := ha
  obtain ⟨b1, b2, b3, b4⟩ := hb
  have hp := Nat.two_pow_pos w
  exact NXok_of (by show (0 : Int) ≤ 0; omega) (by show ((2 ^ w - 1 : Nat) : Int) < _; omega) (Nat.or_lt_two_pow (Nat.lt_of_le_of_lt Nat.and_le_left a3) (Nat.lt_of_le_of_lt Nat.and_le_left a4)) (Nat.or_lt_two_pow (Nat.lt_of_le_of_lt Nat.and_le_left a3) (Nat.lt_of_le_of_lt Nat.and_le_left a4))
theorem divR_ok {op : Str} {w : Nat} {a b : Rg} {x : Ri} (ha : InW w a) (hb : InW w b) (h : divR op a b = some x) : NXok w x := by
  obtain ⟨a1, a2, a3, a4⟩ := ha
  obtain ⟨b1, b2, b3, b4⟩ := hb
  have hp := Nat.two_pow_pos w
  unfold divR at h
  split at h
  · cases h
  · have h := Option.some.inj h
    rw [← h]
    repeat' split
    · have := Nat.div_le_self a.h b.l
      exact NXok_of (Int.natCast_nonneg _) (Int.ofNat_lt.mpr (Nat.lt_of_le_of_lt this a2)) hp hp
    · exact NXok_of (by show (0 : Int) ≤ 0; omega) (by show (a.h : Int) < _; omega) hp hp
    · exact NXok_of (by show (0 : Int) ≤ (a.l : Int); omega) (by show (a.h : Int) < _; omega) hp hp
    · exact NXok_of (by show (0 : Int) ≤ 0; omega) (by show (b.l : Int) - 1 < _; omega) hp hp
    · exact NXok_of (by show (0 : Int) ≤ 0; omega) (by show ((min a.h (b.h - 1) : Nat) : Int) < _; omega) hp hp
theorem shiftR_ok {op : Str} {w : Nat} {a b : Rg} (ha : InW w a) : NXok w (shiftR op w a b) := by
  obtain ⟨a1, a2, a3, a4⟩ := ha
  have hp := Nat.two_pow_pos w
  have dl : ∀ x c : Nat, x < 2 ^ w → x / 2 ^ c < 2 ^ w := fun x c h => Nat.lt_of_le_of_lt (Nat.div_le_self _ _) h
  unfold shiftR
  split
  · exact NXok_of (by show (0 : Int) ≤ 0; omega) (by show ((2 ^ w - 1 : Nat) : Int) < _; omega) hp hp
  split
  · exact NXok_of (by show (0 : Int) ≤ 0; omega) (by show (0 : Int) < _; omega) (by show 2 ^ w - 1 < _; omega) hp
  rename_i c
  have hc := Nat.pow_le_pow_right (n := 2) (by decide) (show b.l ≤ w by omega)
  have hz : (a.z * 2 ^ b.l) &&& (2 ^ w - 1) ||| (2 ^ b.l - 1) < 2 ^ w := Nat.or_lt_two_pow (Nat.lt_of_le_of_lt Nat.and_le_right (by omega)) (by have := Nat.two_pow_pos b.l; omega)
  have ho : (a.o * 2 ^ b.l) &&& (2 ^ w - 1) < 2 ^ w := Nat.lt_of_le_of_lt Nat.and_le_right (by omega)
  split
  · unfold shlR
    split
    · exact NXok_of (by show (0 : Int) ≤ 0; omega) (by show ((2 ^ w - 1 : Nat) : Int) < _; omega) hz ho
    · exact NXok_of (Int.natCast_nonneg _) (Int.ofNat_lt.mpr (show a.h * 2 ^ b.l < 2 ^ w by omega)) hz ho
  · have ht := dl (2 ^ w - 1) b.l (by omega)
    exact NXok_of (Int.natCast_nonneg _) (Int.ofNat_lt.mpr (dl _ _ a2)) (Nat.or_lt_two_pow (dl _ _ a3) (Nat.lt_of_le_of_lt (Nat.sub_le _ _) (by omega))) (dl _ _ a4)


theorem bin_nat {op : Str} {w x y : Nat} (ho : op ∈ ops) (h1 : 1 ≤ w) (h2 : w ≤ 64) (hx : x < 2 ^ w) (hy : y < 2 ^ w) : bin op w (x : Int) (y : Int) = .none ∨ ∃ n : Nat, n < 2 ^ w ∧ bin op w (x : Int) (y : Int) = .int (n : Int) := by
  have pw := pow_pos2 w
  have hp := Nat.two_pow_pos w
  have m : ∀ z : Int, ∃ n : Nat, n < 2 ^ w ∧ z % 2 ^ w = (n : Int) := fun z => by
    obtain ⟨n, hn⟩ := Int.eq_ofNat_of_zero_le (Int.emod_nonneg z (show (2 : Int) ^ w ≠ 0 by omega))
    have hlt := Int.emod_lt_of_pos z pw
    rw [hn, ← PySem.W.kbt_cast] at hlt
    exact ⟨n, Int.ofNat_lt.mp hlt, hn⟩
  have mm : ∀ {d : PyData} (z : Int), d = .int (z % 2 ^ w) → d = .none ∨ ∃ n : Nat, n < 2 ^ w ∧ d = .int (n : Int) := fun {d} z e => by
    obtain ⟨n, n1, n2⟩ := m z
    exact .inr ⟨n, n1, by rw [e, n2]⟩
  simp only [ops, List.mem_cons, List.not_mem_nil, or_false] at ho
  rcases ho with rfl | rfl | rfl | rfl | rfl | rfl | rfl | rfl | rfl | rfl | rfl | rfl | rfl
  · exact mm (x + y) (by simp [bin])
  · exact mm (x - y) (by simp [bin])
  · exact mm (x * y) (by simp [bin])
  · exact .inr ⟨x &&& y, Nat.lt_of_le_of_lt Nat.and_le_left hx, by simp [bin, bA]⟩
  · exact .inr ⟨x ||| y, Nat.or_lt_two_pow hx hy, by simp [bin, bO]⟩
  · exact .inr ⟨x ^^^ y, Nat.xor_lt_two_pow hx hy, by simp [bin, xorN]⟩
  · by_cases hc : (w : Int) ≤ y
    · exact .inr ⟨0, hp, by simp [bin, shf, hc]⟩
    · exact mm (x * 2 ^ (y : Int).toNat) (by simp [bin, shf, hc])
  · by_cases hc : (w : Int) ≤ y
    · exact .inr ⟨0, hp, by simp [bin, shf, hc]⟩
    · exact .inr ⟨x / 2 ^ y, Nat.lt_of_le_of_lt (Nat.div_le_self _ _) hx, by simp [bin, shf, hc]⟩
  · exact mm (sgn w x / 2 ^ (min (y : Int) (w : Int)).toNat) (by simp [bin, shf])
  · by_cases hc : y = 0
    · exact .inl (by simp [bin, divd, hc])
    · exact .inr ⟨x / y, Nat.lt_of_le_of_lt (Nat.div_le_self _ _) hx, by simp [bin, divd, hc]⟩
  · by_cases hc : y = 0
    · exact .inl (by simp [bin, divd, hc])
    · exact mm (tz (sgn w x) (sgn w y)) (by simp [bin, divd, hc])
  · by_cases hc : y = 0
    · exact .inl (by simp [bin, divd, hc])
    · exact .inr ⟨x % y, Nat.lt_trans (Nat.mod_lt _ (Nat.pos_of_ne_zero hc)) hy, by simp [bin, divd, hc]⟩
  · by_cases hc : y = 0
    · exact .inl (by simp [bin, divd, hc])
    · exact mm (sgn w x - tz (sgn w x) (sgn w y) * sgn w y) (by simp [bin, divd, hc])

theorem arR_ok {op : Str} {w k : Nat} {a b : Rg} (hk : k ≤ w) (ha : InW w a) (hb : InW w b) : NXok w (arR op w k a b) := by
  obtain ⟨a1, a2, a3, a4⟩ := ha
  obtain ⟨b1, b2, b3, b4⟩ := hb
  have hp := Nat.two_pow_pos w
  have hle := Nat.pow_le_pow_right (n := 2) (by decide) hk
  have hpk := Nat.two_pow_pos k
  have ht := Nat.mod_lt (arN op w a.o b.o) hpk
  unfold arR
  have go : ∀ l u : Int, 0 ≤ l → u < ((2 ^ w : Nat) : Int) → NXok w (lowR l u k (arN op w a.o b.o % 2 ^ k)) := fun l u g1 g2 => NXok_of g1 g2 (by show 2 ^ k - 1 - _ < _; omega) (by show arN op w a.o b.o % 2 ^ k < _; omega)
  unfold boR
  split
  · split
    · exact go _ _ (by show (0 : Int) ≤ (a.l + b.l : Nat) - (2 ^ w : Nat); omega) (by show ((a.h + b.h : Nat) : Int) - (2 ^ w : Nat) < _; omega)
    split
    · exact go _ _ (Int.natCast_nonneg _) (Int.ofNat_lt.mpr ‹_›)
    · exact go _ _ (Int.le_refl _) (by show ((2 ^ w - 1 : Nat) : Int) < _; omega)
  split
  · split
    · exact go _ _ (by show (0 : Int) ≤ (a.l : Int) - b.h + (2 ^ w : Nat); omega) (by show (a.h : Int) - b.l + (2 ^ w : Nat) < _; omega)
    split
    · exact go _ _ (by show (0 : Int) ≤ (a.l : Int) - b.h; omega) (by show (a.h : Int) - b.l < _; omega)
    · exact go _ _ (Int.le_refl _) (by show ((2 ^ w - 1 : Nat) : Int) < _; omega)
  · split
    · exact go _ _ (Int.natCast_nonneg _) (Int.ofNat_lt.mpr ‹_›)
    · exact go _ _ (Int.le_refl _) (by show ((2 ^ w - 1 : Nat) : Int) < _; omega)
def isAr (op : Str) : Prop := op = "add" ∨ op = "sub" ∨ op = "mul"
def isSh (op : Str) : Prop := op = "shl" ∨ op = "lshr" ∨ op = "ashr"
def isDv (op : Str) : Prop := op = "udiv" ∨ op = "urem"
def isSd (op : Str) : Prop := op = "sdiv" ∨ op = "srem"
/-- the row of an operation on two ranges that aren't both single -/
inductive RowR (w : Nat) (a b : Rg) : Str → Option Ri → Prop
  | and : RowR w a b "and" (some (andR a b))
  | or : RowR w a b "or" (some (orR w a b))
  | xor : RowR w a b "xor" (some (xorR w a b))
  | ar {op : Str} {j : Nat} (h : isAr op) (k : LowK w (knM a b) j) : RowR w a b op (some (arR op w j a b))
  | sh {op : Str} (h : isSh op) : RowR w a b op (some (shiftR op w a b))
  | dv {op : Str} (h : isDv op) : RowR w a b op (divR op a b)
  | sd {op : Str} (h : isSd op) : RowR w a b op (some ⟨0, (2 ^ w - 1 : Nat), 0, 0⟩)
theorem RowR.uniq {w : Nat} {a b : Rg} {op : Str} {p q : Option Ri} (h : RowR w a b op p) (k : RowR w a b op q) : p = q := by
  cases h with
  | and =>
    cases k with
    | and => rfl
    | ar h _ => exact absurd h (by unfold isAr; decide)
    | sh h => exact absurd h (by unfold isSh; decide)
    | dv h => exact absurd h (by unfold isDv; decide)
    | sd h => exact absurd h (by unfold isSd; decide)
  | or =>
    cases k with
    | or => rfl
    | ar h _ => exact absurd h (by unfold isAr; decide)
    | sh h => exact absurd h (by unfold isSh; decide)
    | dv h => exact absurd h (by unfold isDv; decide)
    | sd h => exact absurd h (by unfold isSd; decide)
  | xor =>
    cases k with
    | xor => rfl
    | ar h _ => exact absurd h (by unfold isAr; decide)
    | sh h => exact absurd h (by unfold isSh; decide)
    | dv h => exact absurd h (by unfold isDv; decide)
    | sd h => exact absurd h (by unfold isSd; decide)
  | ar h j1 =>
    rcases h with rfl | rfl | rfl <;> cases k with
    | ar _ j2 => rw [j1.uniq j2]
    | sh h => exact absurd h (by unfold isSh; decide)
    | dv h => exact absurd h (by unfold isDv; decide)
    | sd h => exact absurd h (by unfold isSd; decide)
  | sh h =>
    rcases h with rfl | rfl | rfl <;> cases k with
    | ar h _ => exact absurd h (by unfold isAr; decide)
    | sh h => rfl
    | dv h => exact absurd h (by unfold isDv; decide)
    | sd h => exact absurd h (by unfold isSd; decide)
  | dv h =>
    rcases h with rfl | rfl <;> cases k with
    | ar h _ => exact absurd h (by unfold isAr; decide)
    | sh h => exact absurd h (by unfold isSh; decide)
    | dv h => rfl
    | sd h => exact absurd h (by unfold isSd; decide)
  | sd h =>
    rcases h with rfl | rfl <;> cases k with
    | ar h _ => exact absurd h (by unfold isAr; decide)
    | sh h => exact absurd h (by unfold isSh; decide)
    | dv h => exact absurd h (by unfold isDv; decide)
    | sd h => rfl
theorem RowR.ok {w : Nat} {a b : Rg} {op : Str} {x : Ri} (ha : InW w a) (hb : InW w b) (h : RowR w a b op (some x)) : NXok w x := by
  have hp := Nat.two_pow_pos w
  generalize hq : some x = q at h
  cases h with
  | and => cases hq; exact andR_ok ha hb
  | or => cases hq; exact orR_ok ha hb
  | xor => cases hq; exact xorR_ok ha hb
  | ar h j => cases hq; exact arR_ok j.1 ha hb
  | sh h => cases hq; exact shiftR_ok ha
  | dv h => exact divR_ok ha hb hq.symm
  | sd h => cases hq; exact NXok_of (by show (0 : Int) ≤ 0; omega) (by show ((2 ^ w - 1 : Nat) : Int) < _; omega) hp hp
def nxO (w : Nat) : Option Ri → Option Rg → Prop
  | none, r => r = none
  | some x, r => NX w x r
theorem nxO_uniq {w : Nat} {x : Option Ri} {r q : Option Rg} (h : nxO w x r) (k : nxO w x q) : r = q := by
  cases x with
  | none => rw [show r = none from h, show q = none from k]
  | some x => exact NX.uniq h k
/-- what transfer is asked -/
inductive Cs where
  | bin (op : Str) | icmp (p : Str) | sel | cast (op old : Str) (v : Nat)
def Cs.op : Cs → Str
  | .bin op => op
  | .icmp _ => "icmp"
  | .sel => "select"
  | .cast op _ _ => op
def Cs.data : Cs → PyData
  | .icmp p => .tuple [.str p]
  | _ => .tuple []
def Cs.ks (k : Str) (w : Nat) : Cs → List (Str × Nat)
  | .bin _ => [(k, w), (k, w)]
  | .icmp _ => [(k, w), (k, w)]
  | .sel => [("i1", 1), (k, w), (k, w)]
  | .cast _ old v => [(old, v)]
def Cs.Ok (w : Nat) : Cs → Prop
  | .bin op => op ∈ ops
  | .icmp p => p ∈ preds
  | .sel => True
  | .cast op old v => KW old v ∧ (op = "trunc" ∨ op = "zext" ∨ op = "sext") ∧ (op ≠ "trunc" → v ≤ w)
def Fits : List (Str × Nat) → List Rg → Prop
  | [], [] => True
  | k :: ks, a :: as => (InW k.2 a ∧ a.l ≤ a.h) ∧ Fits ks as
  | _, _ => False
def sgO (w : Nat) : PyData → Option Rg → Prop := fun d r => (d = .none ∧ r = none) ∨ ∃ n : Nat, d = .int (n : Int) ∧ n < 2 ^ w ∧ r = some ⟨n, n, 2 ^ w - 1 - n, n⟩
def Cs.R (w : Nat) : Cs → List Rg → Option Rg → Prop
  | .bin op, [a, b], r => (a.l = a.h ∧ b.l = b.h ∧ sgO w (Toy.bin op w a.l b.l) r) ∨ ∃ x, ¬ (a.l = a.h ∧ b.l = b.h) ∧ RowR w a b op x ∧ nxO w x r
  | .icmp p, [a, b], r => r = some (icmpR p w a b)
  | .sel, [c, a, b], r => NX w (if c.l = c.h then (if c.l = 1 then a else b) else uni a b).ri r
  | .cast op _ v, [a], r => (a.l = a.h ∧ sgO w (.int (castI op v w a.l)) r) ∨ (¬ a.l = a.h ∧ (op = "sext" ∧ a.z &&& 2 ^ (v - 1) = 0) ∧ r = some ⟨0, 2 ^ w - 1, 0, 0⟩) ∨ (¬ a.l = a.h ∧ ¬ (op = "sext" ∧ a.z &&& 2 ^ (v - 1) = 0) ∧ NX w (castR op v w a) r)
  | _, _, _ => False
theorem sgO_uniq {w : Nat} {d : PyData} {r q : Option Rg} (h : sgO w d r) (k : sgO w d q) : r = q := by
  rcases h with ⟨h1, rfl⟩ | ⟨n, h1, _, rfl⟩ <;> rcases k with ⟨k1, rfl⟩ | ⟨m, k1, _, rfl⟩
  · rfl
  · rw [h1] at k1; cases k1
  · rw [h1] at k1; cases k1
  · rw [h1] at k1
    obtain rfl : n = m := Int.ofNat_inj.mp (PyData.int.inj k1)
    rfl
theorem Cs.uniq {w : Nat} {c : Cs} {as : List Rg} {r q : Option Rg} (h : c.R w as r) (k : c.R w as q) : r = q := by
  cases c with
  | bin op =>
    match as, h, k with
    | [a, b], h, k =>
      rcases h with ⟨h1, h2, h3⟩ | ⟨x, h1, h2, h3⟩ <;> rcases k with ⟨k1, k2, k3⟩ | ⟨y, k1, k2, k3⟩
      · exact sgO_uniq h3 k3
      · exact absurd ⟨h1, h2⟩ k1
      · exact absurd ⟨k1, k2⟩ h1
      · rw [h2.uniq k2] at h3
        exact nxO_uniq h3 k3
  | icmp p =>
    match as, h, k with
    | [a, b], h, k => exact Eq.trans h (Eq.symm k)
  | sel =>
    match as, h, k with
    | [a, b, c], h, k => exact NX.uniq h k
  | cast op old v =>
    match as, h, k with
    | [a], h, k =>
      rcases h with ⟨h1, h2⟩ | ⟨h1, h2, h3⟩ | ⟨h1, h2, h3⟩ <;> rcases k with ⟨k1, k2⟩ | ⟨k1, k2, k3⟩ | ⟨k1, k2, k3⟩
      · exact sgO_uniq h2 k2
      · exact absurd h1 k1
      · exact absurd h1 k1
      · exact absurd k1 h1
      · rw [h3, k3]
      · exact absurd h2 k2
      · exact absurd k1 h1
      · exact absurd k2 h2
      · exact h3.uniq k3
theorem uni_ok {w : Nat} {a b : Rg} (ha : InW w a) (hb : InW w b) : InW w (uni a b) := by
  obtain ⟨a1, a2, a3, a4⟩ := ha
  obtain ⟨b1, b2, b3, b4⟩ := hb
  exact ⟨by show min a.l b.l < _; omega, by show max a.h b.h < _; omega, Nat.lt_of_le_of_lt Nat.and_le_left a3, Nat.lt_of_le_of_lt Nat.and_le_left a4⟩
def ksD (ks : List (Str × Nat)) : PyData := .list (ks.map fun k => .str k.1)
def vp_transfer : VSp := fun rs Φ => ∃ (k : Str) (w : Nat) (c : Cs) (as : List Rg), rs = [.d (.str c.op), .d (.str k), .d c.data, .d (ksD (c.ks k w)), .d (.list (as.map rg))] ∧ KW k w ∧ c.Ok w ∧ Fits (c.ks k w) as ∧ (∀ p, c = .icmp p → k ≠ "ptr") ∧
  ∀ r, c.R w as r → Φ (.d (rgO r))
theorem len_transfer : ∀ rs Φ, vp_transfer rs Φ → rs.length = 5 := fun rs Φ ⟨_, _, _, _, e, _⟩ => by rw [e]; rfl
theorem kw_ptr {k : Str} {w : Nat} (h : KW k w) : k ≠ "ptr" := fun e => by
  have := h.1
  rw [e] at this
  simp [L__WIDTHS] at this
theorem ops_grp {op : Str} (h : op ∈ ops) : op = "and" ∨ op = "or" ∨ op = "xor" ∨ isAr op ∨ isSh op ∨ isDv op ∨ isSd op := by
  simp only [ops, List.mem_cons, List.not_mem_nil, or_false] at h
  unfold isAr isSh isDv isSd
  rcases h with rfl | rfl | rfl | rfl | rfl | rfl | rfl | rfl | rfl | rfl | rfl | rfl | rfl <;> simp
theorem ops_not {op : Str} (h : op ∈ ops) : ¬ op = "select" ∧ ¬ op = "icmp" ∧ ¬ op = "trunc" ∧ ¬ op = "zext" ∧ ¬ op = "sext" := by
  simp only [ops, List.mem_cons, List.not_mem_nil, or_false] at h
  rcases h with rfl | rfl | rfl | rfl | rfl | rfl | rfl | rfl | rfl | rfl | rfl | rfl | rfl <;> decide
theorem ops_nin {op : Str} (h : op ∈ ops) : inD (.str op) [.str "trunc", .str "zext", .str "sext"] = false := by
  simp only [ops, List.mem_cons, List.not_mem_nil, or_false] at h
  rcases h with rfl | rfl | rfl | rfl | rfl | rfl | rfl | rfl | rfl | rfl | rfl | rfl | rfl <;> decide +kernel
theorem G_transfer (T : Txt K mg w) : FnOk P w K mg base CX0 11 T.f_transfer T.fd_transfer ["op", "kind", "data", "kinds", "ranges"] (toSp K 5 vp_transfer) := by
  refine fn_ok T.F_transfer sc_transfer fun cdv A outer s H E hr => ⟨_, (pss_cons (ps_if (pt_cmpR op_eq (pv 0) pe_str (nomark _)) (pss_one (ps_ret (pe_call (G_normal T) (hr.mono (by decide)) (by rfl) T.g_normal T.F_normal.kp T.b_normal .nil pass0 (pa_cons (pv 1) (pa_cons (pe_call (G__select T) (hr.mono (by decide)) (by rfl) T.g__select T.F__select.kp T.b__select .nil pass0 (pa_cons (pv 4) pa_nil)) pa_nil))))) pss_nil)
 (pss_cons (ps_if (pt_cmpR op_eq (pv 0) pe_str (nomark _)) (pss_one (ps_ret (pe_call (G__icmp T) hr (by rfl) T.g__icmp T.F__icmp.kp T.b__icmp .nil pass0 (pa_cons (pv 1) (pa_cons (pe_ix (kx_seq (K := K) rfl) (pv 2) pe_int (fun _ _ => rfl)) (pa_cons (pv 4) pa_nil)))))) pss_nil)
 (pss_cons (ps_if (pt_cmpR (kx_in (K := K) rfl) (pv 0) (pe_tup (pa_cons pe_str (pa_cons pe_str (pa_cons pe_str pa_nil)))) (by rfl)) (pss_one (ps_ret (pe_call (G__cast T) (hr.mono (by decide)) (by rfl) T.g__cast T.F__cast.kp T.b__cast .nil pass0 (pa_cons (pv 0) (pa_cons (pv 1) (pa_cons (pe_ix (kx_seq (K := K) rfl) (pv 3) pe_int (fun _ _ => rfl)) (pa_cons (pe_ix (kx_seq (K := K) rfl) (pv 4) pe_int (fun _ _ => rfl)) pa_nil))))))) pss_nil)
 (pss_cons (ps_if (pt_cmpR (kx_notF (K := K) (w := w) rfl rfl T.kf__ROWS) (pv 0) (pe_glob (v := .ref T.a__ROWS) rfl T.g__ROWS rfl) (by rfl)) (pss_one (ps_ret (pe_call (G_full T) (hr.mono (by decide)) (by rfl) T.g_full T.F_full.kp T.b_full .nil pass0 (pa_cons (pv 1) pa_nil)))) pss_nil)
 (pss_cons (ps_if (PW.pt (pw_and (pt_val (pe_call (G_is_single T) (hr.mono (by decide)) (by rfl) T.g_is_single T.F_is_single.kp T.b_is_single .nil pass0 (pa_cons (pe_ix (kx_seq (K := K) rfl) (pv 4) pe_int (fun _ _ => rfl)) pa_nil))) (pw_and1 (pt_val (pe_call (G_is_single T) (hr.mono (by decide)) (by rfl) T.g_is_single T.F_is_single.kp T.b_is_single .nil pass0 (pa_cons (pe_ix (kx_seq (K := K) rfl) (pv 4) pe_int (fun _ _ => rfl)) pa_nil)))))) (pss_cons (ps_set (i := 7) sc_transfer.nd rfl (Or.inl rfl) (pe_call (G_binary T) (hr.mono (by decide)) (by rfl) T.g_binary T.F_binary.kp T.b_binary .nil pass0 (pa_cons (pv 0) (pa_cons (pe_call (G_width T) (hr.mono (by decide)) (by rfl) T.g_width T.F_width.kp T.b_width .nil pass0 (pa_cons (pv 1) pa_nil)) (pa_cons (pe_ix (kx_seq (K := K) rfl) (pe_ix (kx_seq (K := K) rfl) (pv 4) pe_int (fun _ _ => rfl)) pe_int (fun _ _ => rfl)) (pa_cons (pe_ix (kx_seq (K := K) rfl) (pe_ix (kx_seq (K := K) rfl) (pv 4) pe_int (fun _ _ => rfl)) pe_int (fun _ _ => rfl)) pa_nil))))))
 (pss_one (ps_ret (pe_ifExp (pt_cmpR op_isN (pv 7) pe_non (nomark _)) pe_non (pe_call (G_single T) (hr.mono (by decide)) (by rfl) T.g_single T.F_single.kp T.b_single .nil pass0 (pa_cons (pv 1) (pa_cons (pv 7) pa_nil))))))) pss_nil)
 (pss_cons (ps_set (i := 5) sc_transfer.nd rfl (Or.inl rfl) (pe_ix (kx_kdict (K := K) (w := w) rfl rfl) (pe_glob (v := .ref T.a__ROWS) rfl T.g__ROWS rfl) (pv 0) (fun _ _ => rfl)))
 (pss_cons (ps_set (i := 6) sc_transfer.nd rfl (Or.inl rfl) (pe_alt (pe_callL (i := 5) (G__and T) (hr.mono (by decide)) rfl (by first | exact Or.inl rfl | exact Or.inr (Or.inl rfl) | exact Or.inr (Or.inr rfl)) T.F__and.kp T.b__and .nil pass0 (pa_cons (pv 0) (pa_cons (pv 1) (pa_cons (pe_ix (kx_seq (K := K) rfl) (pv 4) pe_int (fun _ _ => rfl)) (pa_cons (pe_ix (kx_seq (K := K) rfl) (pv 4) pe_int (fun _ _ => rfl)) pa_nil))))) (pe_alt (pe_callL (i := 5) (G__or T) (hr.mono (by decide)) rfl (by first | exact Or.inl rfl | exact Or.inr (Or.inl rfl) | exact Or.inr (Or.inr rfl)) T.F__or.kp T.b__or .nil pass0 (pa_cons (pv 0) (pa_cons (pv 1) (pa_cons (pe_ix (kx_seq (K := K) rfl) (pv 4) pe_int (fun _ _ => rfl)) (pa_cons (pe_ix (kx_seq (K := K) rfl) (pv 4) pe_int (fun _ _ => rfl)) pa_nil))))) (pe_alt (pe_callL (i := 5) (G__xor T) (hr.mono (by decide)) rfl (by first | exact Or.inl rfl | exact Or.inr (Or.inl rfl) | exact Or.inr (Or.inr rfl)) T.F__xor.kp T.b__xor .nil pass0 (pa_cons (pv 0) (pa_cons (pv 1) (pa_cons (pe_ix (kx_seq (K := K) rfl) (pv 4) pe_int (fun _ _ => rfl)) (pa_cons (pe_ix (kx_seq (K := K) rfl) (pv 4) pe_int (fun _ _ => rfl)) pa_nil))))) (pe_alt (pe_callL (i := 5) (G__arithmetic T) (hr.mono (by decide)) rfl (by first | exact Or.inl rfl | exact Or.inr (Or.inl rfl) | exact Or.inr (Or.inr rfl)) T.F__arithmetic.kp T.b__arithmetic .nil pass0 (pa_cons (pv 0) (pa_cons (pv 1) (pa_cons (pe_ix (kx_seq (K := K) rfl) (pv 4) pe_int (fun _ _ => rfl)) (pa_cons (pe_ix (kx_seq (K := K) rfl) (pv 4) pe_int (fun _ _ => rfl)) pa_nil))))) (pe_alt (pe_callL (i := 5) (G__shift T) (hr.mono (by decide)) rfl (by first | exact Or.inl rfl | exact Or.inr (Or.inl rfl) | exact Or.inr (Or.inr rfl)) T.F__shift.kp T.b__shift .nil pass0 (pa_cons (pv 0) (pa_cons (pv 1) (pa_cons (pe_ix (kx_seq (K := K) rfl) (pv 4) pe_int (fun _ _ => rfl)) (pa_cons (pe_ix (kx_seq (K := K) rfl) (pv 4) pe_int (fun _ _ => rfl)) pa_nil))))) (pe_alt (pe_callL (i := 5) (G__divide T) (hr.mono (by decide)) rfl (by first | exact Or.inl rfl | exact Or.inr (Or.inl rfl) | exact Or.inr (Or.inr rfl)) T.F__divide.kp T.b__divide .nil pass0 (pa_cons (pv 0) (pa_cons (pv 1) (pa_cons (pe_ix (kx_seq (K := K) rfl) (pv 4) pe_int (fun _ _ => rfl)) (pa_cons (pe_ix (kx_seq (K := K) rfl) (pv 4) pe_int (fun _ _ => rfl)) pa_nil))))) (pe_callL (i := 5) (G__divide_signed T) (hr.mono (by decide)) rfl (by first | exact Or.inl rfl | exact Or.inr (Or.inl rfl) | exact Or.inr (Or.inr rfl)) T.F__divide_signed.kp T.b__divide_signed .nil pass0 (pa_cons (pv 0) (pa_cons (pv 1) (pa_cons (pe_ix (kx_seq (K := K) rfl) (pv 4) pe_int (fun _ _ => rfl)) (pa_cons (pe_ix (kx_seq (K := K) rfl) (pv 4) pe_int (fun _ _ => rfl)) pa_nil))))))))))))
 (pss_one (ps_ret (pe_ifExp (pt_cmpR op_isN (pv 6) pe_non (nomark _)) pe_non (pe_call (G_normal T) (hr.mono (by decide)) (by rfl) T.g_normal T.F_normal.kp T.b_normal .nil pass0 (pa_cons (pv 1) (pa_cons (pv 6) pa_nil))))))))))))), _, fun ex He Hf => (sms_seq (sms_if (smt_t (f1 := false) (sm_op (f1 := false) (f2 := false) opd_eq (sm_var 0) (sm_str _)))
 (sms_ret (sm_call len_normal (smq_cons (sm_var 1) (smq_cons (sm_call len__select (smq_cons (sm_var 4) smq_nil)) smq_nil))))
 sms_next)
 (sms_seq (sms_if (smt_t (f1 := false) (sm_op (f1 := false) (f2 := false) opd_eq (sm_var 0) (sm_str _)))
 (sms_ret (sm_call len__icmp (smq_cons (sm_var 1) (smq_cons (sm_ix (f2 := false) (sm_var 2) (sm_int _)) (smq_cons (sm_var 4) smq_nil)))))
 sms_next)
 (sms_seq (sms_if (smt_t (f1 := false) (sm_op (f1 := false) (f2 := false) (opd_in false) (sm_var 0) (sm_tup (sma_cons (sm_str _) (sma_cons (sm_str _) (sma_cons (sm_str _) sma_nil))))))
 (sms_ret (sm_call len__cast (smq_cons (sm_var 0) (smq_cons (sm_var 1) (smq_cons (sm_ix (f2 := false) (sm_var 3) (sm_int _)) (smq_cons (sm_ix (f2 := false) (sm_var 4) (sm_int _)) smq_nil))))))
 sms_next)
 (sms_seq (sms_if (smt_t (f1 := false) (sm_notF (f1 := false) (L := [("and", T.f__and), ("or", T.f__or), ("xor", T.f__xor), ("add", T.f__arithmetic), ("sub", T.f__arithmetic), ("mul", T.f__arithmetic), ("shl", T.f__shift), ("lshr", T.f__shift), ("ashr", T.f__shift), ("udiv", T.f__divide), ("urem", T.f__divide), ("sdiv", T.f__divide_signed), ("srem", T.f__divide_signed)]) rfl (sm_var 0)))
 (sms_ret (sm_call len_full (smq_cons (sm_var 1) smq_nil)))
 sms_next)
 (sms_seq (sms_if (smt_and (smt_b (f1 := false) (sm_call len_is_single (smq_cons (sm_ix (f2 := false) (sm_var 4) (sm_int _)) smq_nil))) (smt_b (f1 := false) (sm_call len_is_single (smq_cons (sm_ix (f2 := false) (sm_var 4) (sm_int _)) smq_nil))))
 (sms_seq (sms_asg (sm_call len_binary (smq_cons (sm_var 0) (smq_cons (sm_call len_width (smq_cons (sm_var 1) smq_nil)) (smq_cons (sm_ix (f2 := false) (sm_ix (f2 := false) (sm_var 4) (sm_int _)) (sm_int _)) (smq_cons (sm_ix (f2 := false) (sm_ix (f2 := false) (sm_var 4) (sm_int _)) (sm_int _)) smq_nil))))) (smg_name 7))
 (sms_ret (sm_if (smt_t (f1 := false) (sm_op (f1 := false) (f2 := false) opd_isN (sm_var 7) sm_non)) sm_non (sm_call len_single (smq_cons (sm_var 1) (smq_cons (sm_var 7) smq_nil))))))
 sms_next)
 (sms_seq (sms_rowF (f1 := false) 5 rfl T.kf__ROWS (sm_var 0))
 (sms_seq (sms_asg (sm_alt (sm_callL 5 len__and (smq_cons (sm_var 0) (smq_cons (sm_var 1) (smq_cons (sm_ix (f2 := false) (sm_var 4) (sm_int _)) (smq_cons (sm_ix (f2 := false) (sm_var 4) (sm_int _)) smq_nil))))) (sm_alt (sm_callL 5 len__or (smq_cons (sm_var 0) (smq_cons (sm_var 1) (smq_cons (sm_ix (f2 := false) (sm_var 4) (sm_int _)) (smq_cons (sm_ix (f2 := false) (sm_var 4) (sm_int _)) smq_nil))))) (sm_alt (sm_callL 5 len__xor (smq_cons (sm_var 0) (smq_cons (sm_var 1) (smq_cons (sm_ix (f2 := false) (sm_var 4) (sm_int _)) (smq_cons (sm_ix (f2 := false) (sm_var 4) (sm_int _)) smq_nil))))) (sm_alt (sm_callL 5 len__arithmetic (smq_cons (sm_var 0) (smq_cons (sm_var 1) (smq_cons (sm_ix (f2 := false) (sm_var 4) (sm_int _)) (smq_cons (sm_ix (f2 := false) (sm_var 4) (sm_int _)) smq_nil))))) (sm_alt (sm_callL 5 len__shift (smq_cons (sm_var 0) (smq_cons (sm_var 1) (smq_cons (sm_ix (f2 := false) (sm_var 4) (sm_int _)) (smq_cons (sm_ix (f2 := false) (sm_var 4) (sm_int _)) smq_nil))))) (sm_alt (sm_callL 5 len__divide (smq_cons (sm_var 0) (smq_cons (sm_var 1) (smq_cons (sm_ix (f2 := false) (sm_var 4) (sm_int _)) (smq_cons (sm_ix (f2 := false) (sm_var 4) (sm_int _)) smq_nil))))) (sm_callL 5 len__divide_signed (smq_cons (sm_var 0) (smq_cons (sm_var 1) (smq_cons (sm_ix (f2 := false) (sm_var 4) (sm_int _)) (smq_cons (sm_ix (f2 := false) (sm_var 4) (sm_int _)) smq_nil))))))))))) (smg_name 6))
 (sms_ret (sm_if (smt_t (f1 := false) (sm_op (f1 := false) (f2 := false) opd_isN (sm_var 6) sm_non)) sm_non (sm_call len_normal (smq_cons (sm_var 1) (smq_cons (sm_var 6) smq_nil)))))))))))), ?_⟩
  rintro rs Φ ⟨k, w, c, as, rfl, hk, hc, hf, _, h⟩
  have l3 : (3 : Nat) ≤ sizeLine := by decide
  refine seq_op fun N hN => ?_
  cases c with
  | sel =>
    match as, hf, h with
    | [c, a, b], ⟨hc', ha, hb, _⟩, h =>
      refine dIfS_two (fun c => c = true) (fun Ψ hΨ => ?_) (fun _ => ?_) (fun hc => by cases hc)
      · have hΨ := hΨ _ rfl
        simpa [startD, Cs.op] using hΨ
      simp [startD, ksD, Cs.ks, Cs.data]
      refine ⟨c, a, b, rfl, ?_⟩
      refine ⟨k, w, _, rfl, hk, ok_ri ?_, fun r hr => h r hr⟩
      split
      · split
        · exact ha.1
        · exact hb.1
      · exact uni_ok ha.1 hb.1
  | icmp p =>
    match as, hf, h with
    | [a, b], ⟨ha, hb, _⟩, h =>
      refine dIfS_two (fun c => c = false) (fun Ψ hΨ => ?_) (fun hc => by cases hc) (fun _ => ?_)
      · have hΨ := hΨ _ rfl
        simpa [startD, Cs.op] using hΨ
      simp only [dNext]
      refine hN _ ?_
      clear hN N
      refine seq_op fun N hN => ?_
      refine dIfS_two (fun c => c = true) (fun Ψ hΨ => ?_) (fun _ => ?_) (fun hc => by cases hc)
      · have hΨ := hΨ _ rfl
        simpa [startD, Cs.op] using hΨ
      simp [startD, ksD, Cs.ks, Cs.data]
      exact ⟨k, p, w, a, b, rfl, hk, kw_ptr hk, hc, h _ rfl⟩
  | cast op old v =>
    obtain ⟨ho, hop, hvw⟩ := hc
    match as, hf, h with
    | [a], ⟨ha, _⟩, h =>
      refine dIfS_two (fun c => c = false) (fun Ψ hΨ => ?_) (fun hc => by cases hc) (fun _ => ?_)
      · have hΨ := hΨ _ rfl
        rcases hop with rfl | rfl | rfl <;> simpa [startD, Cs.op] using hΨ
      simp only [dNext]
      refine hN _ ?_
      clear hN N
      refine seq_op fun N hN => ?_
      refine dIfS_two (fun c => c = false) (fun Ψ hΨ => ?_) (fun hc => by cases hc) (fun _ => ?_)
      · have hΨ := hΨ _ rfl
        rcases hop with rfl | rfl | rfl <;> simpa [startD, Cs.op] using hΨ
      simp only [dNext]
      refine hN _ ?_
      clear hN N
      refine seq_op fun N hN => ?_
      refine dIfS_two (fun c => c = true) (fun Ψ hΨ => ?_) (fun _ => ?_) (fun hc => by cases hc)
      · have hΨ := hΨ _ rfl
        have hin : inD (.str op) [.str "trunc", .str "zext", .str "sext"] = true := by rcases hop with rfl | rfl | rfl <;> decide +kernel
        simp [startD, Cs.op, l3, hin]
        exact hΨ
      simp [startD, ksD, Cs.ks, Cs.data, Cs.op]
      refine ⟨op, k, old, v, w, a, rfl, hk, ho, ha.1, hop, hvw, fun e n n1 n2 => h _ (.inl ⟨e, .inr ⟨n, by rw [n1], n2, rfl⟩⟩), fun e e2 r hr => h r (.inr (.inr ⟨e, e2, hr⟩)), fun e e2 => h _ (.inr (.inl ⟨e, e2, rfl⟩))⟩
  | bin op =>
    match as, hf, h with
    | [a, b], ⟨⟨ha, al⟩, ⟨hb, bl⟩, _⟩, h =>
      have hc : op ∈ ops := hc
      obtain ⟨n1, n2, n3, n4, n5⟩ := ops_not hc
      refine dIfS_two (fun c => c = false) (fun Ψ hΨ => ?_) (fun hc => by cases hc) (fun _ => ?_)
      · have hΨ := hΨ _ rfl
        simpa [startD, Cs.op, n1] using hΨ
      simp only [dNext]
      refine hN _ ?_
      clear hN N
      refine seq_op fun N hN => ?_
      refine dIfS_two (fun c => c = false) (fun Ψ hΨ => ?_) (fun hc => by cases hc) (fun _ => ?_)
      · have hΨ := hΨ _ rfl
        simpa [startD, Cs.op, n2] using hΨ
      simp only [dNext]
      refine hN _ ?_
      clear hN N
      refine seq_op fun N hN => ?_
      refine dIfS_two (fun c => c = false) (fun Ψ hΨ => ?_) (fun hc => by cases hc) (fun _ => ?_)
      · have hΨ := hΨ _ rfl
        have hin : inD (.str op) [.str "trunc", .str "zext", .str "sext"] = false := ops_nin hc
        simp [startD, Cs.op, l3, hin]
        exact hΨ
      simp only [dNext]
      refine hN _ ?_
      clear hN N
      refine seq_op fun N hN => ?_
      have hin : ∃ f, (op, f) ∈ [(("and" : Str), T.f__and), ("or", T.f__or), ("xor", T.f__xor), ("add", T.f__arithmetic), ("sub", T.f__arithmetic), ("mul", T.f__arithmetic), ("shl", T.f__shift), ("lshr", T.f__shift), ("ashr", T.f__shift), ("udiv", T.f__divide), ("urem", T.f__divide), ("sdiv", T.f__divide_signed), ("srem", T.f__divide_signed)] := by
        have hc := hc
        simp only [ops, List.mem_cons, List.not_mem_nil, or_false] at hc
        rcases hc with rfl | rfl | rfl | rfl | rfl | rfl | rfl | rfl | rfl | rfl | rfl | rfl | rfl <;> simp
      refine dIfS_two (fun c => c = false) (fun Ψ hΨ => ?_) (fun hc => by cases hc) (fun _ => ?_)
      · have hΨ := hΨ _ rfl
        obtain ⟨f, hin⟩ := hin
        simp only [dB, dNotF, dVar]
        refine ⟨_, rfl, op, f, rfl, hin, false, rfl, hΨ⟩
      simp only [dNext]
      refine hN _ ?_
      clear hN N hin
      refine seq_op fun N hN => ?_
      refine dIfS_two (fun c => c = decide (a.l = a.h ∧ b.l = b.h)) (fun Ψ hΨ => ?_) (fun hq => ?_) (fun hq => ?_)
      · have hΨ' := hΨ _ rfl
        clear hΨ
        simp [startD, ksD, Cs.ks, Cs.data, Cs.op]
        refine ⟨a, rfl, ?_⟩
        by_cases c1 : a.l = a.h
        · simp [c1]
          refine ⟨b, rfl, ?_⟩
          by_cases c2 : b.l = b.h <;> simpa [c1, c2] using hΨ'
        · simpa [c1] using hΨ'
      · have hq := of_decide_eq_true hq.symm
        refine seq_op fun M hM => ?_
        simp [startD, ksD, Cs.ks, Cs.data, Cs.op]
        refine ⟨k, _, rfl, hk.1, ?_⟩
        simp [rg]
        have v1 : Val w (a.l : Int) := ⟨Int.natCast_nonneg _, by rw [← PySem.W.kbt_cast]; exact Int.ofNat_lt.mpr ha.1⟩
        have v2 : Val w (b.l : Int) := ⟨Int.natCast_nonneg _, by rw [← PySem.W.kbt_cast]; exact Int.ofNat_lt.mpr hb.1⟩
        refine ⟨op, w, _, _, rfl, hc, hk.2.1, hk.2.2, v1, v2, hM _ ?_⟩
        clear hM M
        simp only [data_d]
        rcases bin_nat hc hk.2.1 hk.2.2 ha.1 hb.1 with e | ⟨n, hn, e⟩
        · have h := h none (.inl ⟨hq.1, hq.2, .inl ⟨e, rfl⟩⟩)
          rw [e]
          simpa [rgO] using h
        · have h := h _ (.inl ⟨hq.1, hq.2, .inr ⟨n, e, hn, rfl⟩⟩)
          rw [e]
          simp
          exact ⟨k, w, n, rfl, hk, hn, h⟩
      have hq := of_decide_eq_false hq.symm
      simp only [dNext]
      refine hN _ ?_
      clear hN N
      have h : ∀ x, RowR w a b op x → ∀ r, nxO w x r → Φ (.d (rgO r)) := fun x hx r hr => h r (.inr ⟨x, hq, hx, hr⟩)
      refine seq_op fun N hN => ?_
      rcases ops_grp hc with rfl | rfl | rfl | hg | hg | hg | hg
      · simp only [dRowF, dVar]
        refine ⟨_, rfl, _, T.f__and, rfl, by simp [Cs.op], hN _ ?_⟩
        clear hN N
        refine seq_op fun N hN => ?_
        simp [startD, ksD, Cs.ks, Cs.data, Cs.op]
        refine .inl ⟨_, _, a, b, rfl, hN _ ?_⟩
        clear hN N
        simp only [data_d]
        simp [ri]
        exact ⟨k, w, _, rfl, hk, RowR.ok ha hb .and, h _ .and⟩
      · simp only [dRowF, dVar]
        refine ⟨_, rfl, _, T.f__or, rfl, by simp [Cs.op], hN _ ?_⟩
        clear hN N
        refine seq_op fun N hN => ?_
        simp [startD, ksD, Cs.ks, Cs.data, Cs.op]
        refine .inr (.inl ⟨_, k, w, a, b, rfl, hk, hN _ ?_⟩)
        clear hN N
        simp only [data_d]
        simp [ri]
        exact ⟨k, w, _, rfl, hk, RowR.ok ha hb .or, h _ .or⟩
      · simp only [dRowF, dVar]
        refine ⟨_, rfl, _, T.f__xor, rfl, by simp [Cs.op], hN _ ?_⟩
        clear hN N
        refine seq_op fun N hN => ?_
        simp [startD, ksD, Cs.ks, Cs.data, Cs.op]
        refine .inr (.inr (.inl ⟨_, k, w, a, b, rfl, hk, hN _ ?_⟩))
        clear hN N
        simp only [data_d]
        simp [ri]
        exact ⟨k, w, _, rfl, hk, RowR.ok ha hb .xor, h _ .xor⟩
      · simp only [dRowF, dVar]
        refine ⟨_, rfl, op, T.f__arithmetic, rfl, by rcases hg with rfl | rfl | rfl <;> simp, hN _ ?_⟩
        clear hN N
        refine seq_op fun N hN => ?_
        simp [startD, ksD, Cs.ks, Cs.data, Cs.op]
        refine .inr (.inr (.inr (.inl ⟨op, k, w, a, b, rfl, hg, hk, ha, hb, al, bl, fun j hj => hN _ ?_⟩)))
        clear hN N
        simp only [data_d]
        simp [ri]
        exact ⟨k, w, _, rfl, hk, RowR.ok ha hb (.ar hg hj), h _ (.ar hg hj)⟩
      · simp only [dRowF, dVar]
        refine ⟨_, rfl, op, T.f__shift, rfl, by rcases hg with rfl | rfl | rfl <;> simp, hN _ ?_⟩
        clear hN N
        refine seq_op fun N hN => ?_
        simp [startD, ksD, Cs.ks, Cs.data, Cs.op]
        refine .inr (.inr (.inr (.inr (.inl ⟨op, k, w, a, b, rfl, hk, ha, hN _ ?_⟩))))
        clear hN N
        simp only [data_d]
        simp [ri]
        exact ⟨k, w, _, rfl, hk, RowR.ok ha hb (.sh hg), h _ (.sh hg)⟩
      · simp only [dRowF, dVar]
        refine ⟨_, rfl, op, T.f__divide, rfl, by rcases hg with rfl | rfl <;> simp, hN _ ?_⟩
        clear hN N
        refine seq_op fun N hN => ?_
        simp [startD, ksD, Cs.ks, Cs.data, Cs.op]
        refine .inr (.inr (.inr (.inr (.inr (.inl ⟨op, _, w, a, b, rfl, hb, bl, hk.2.2, hN _ ?_⟩)))))
        clear hN N
        have h := h _ (.dv hg)
        have hok : ∀ x, divR op a b = some x → NXok w x := fun x => divR_ok ha hb
        simp only [data_d]
        cases e : divR op a b with
        | none =>
          rw [e] at h
          simp [riO]
          exact h none rfl
        | some x =>
          rw [e] at h
          simp [riO, ri]
          exact ⟨k, w, x, rfl, hk, hok x e, h⟩
      · simp only [dRowF, dVar]
        refine ⟨_, rfl, op, T.f__divide_signed, rfl, by rcases hg with rfl | rfl <;> simp, hN _ ?_⟩
        clear hN N
        refine seq_op fun N hN => ?_
        simp [startD, ksD, Cs.ks, Cs.data, Cs.op]
        refine .inr (.inr (.inr (.inr (.inr (.inr ⟨_, k, w, _, _, rfl, hk, hN _ ?_⟩)))))
        clear hN N
        simp only [data_d]
        simp [rg]
        exact ⟨k, w, _, rfl, hk, RowR.ok ha hb (.sd hg), h _ (.sd hg)⟩


def vp__law_whole : VSp := fun rs Φ => ∃ i : Int, rs = [.d (.int i)] ∧ Φ (.d (.bool true))
theorem len__law_whole : ∀ rs Φ, vp__law_whole rs Φ → rs.length = 1 := fun rs Φ ⟨_, e, _⟩ => by rw [e]; rfl
theorem G__law_whole (T : Txt K mg w) : FnOk P w K mg base CX0 1 T.f__law_whole T.fd__law_whole ["value"] (toSp K 1 vp__law_whole) := by
  refine fn_ok T.F__law_whole sc__law_whole fun cdv A outer s H E hr => ⟨_, (pss_one (ps_ret (pe_and (pe_callB (kx_isi (K := K) rfl) (by rfl) T.isinstance (by decide +kernel) (pa_cons (pv 0) (pa_cons (pe_bltn (v := .ty "int") (by rfl) T.int (by decide +kernel) rfl) pa_nil))) (pe_one (pe_not (pe_callB (kx_isi (K := K) rfl) (by rfl) T.isinstance (by decide +kernel) (pa_cons (pv 0) (pa_cons (pe_bltn (v := .ty "bool") (by rfl) T.bool (by decide +kernel) rfl) pa_nil)))))))), _, fun ex He Hf => (sms_ret (sm_and (f1 := false) (sm_isi (f1 := false) "int" (sm_var 0)) (sm_not (f1 := false) (sm_isi (f1 := false) "bool" (sm_var 0))))), ?_⟩
  rintro rs Φ ⟨i, rfl, h⟩
  simpa [tyD] using h
theorem wid_cases {k : Str} {v : PyData} (h : (k, v) ∈ L__WIDTHS) : (k = "i1" ∧ v = .int 1) ∨ (k = "i8" ∧ v = .int 8) ∨ (k = "i16" ∧ v = .int 16) ∨ (k = "i32" ∧ v = .int 32) ∨ (k = "i64" ∧ v = .int 64) := by
  simpa [L__WIDTHS] using h
def vp__law_width : VSp := fun rs Φ => ∃ (k : Str) (v : PyData), rs = [.d (.str k)] ∧ (k, v) ∈ L__WIDTHS ∧ Φ (.d v)
theorem len__law_width : ∀ rs Φ, vp__law_width rs Φ → rs.length = 1 := fun rs Φ ⟨_, _, e, _⟩ => by rw [e]; rfl
theorem G__law_width (T : Txt K mg w) : FnOk P w K mg base CX0 1 T.f__law_width T.fd__law_width ["kind"] (toSp K 1 vp__law_width) := by
  refine fn_ok T.F__law_width sc__law_width fun cdv A outer s H E hr => ⟨_, (pss_cons (ps_for PassesOwn.never rfl ((kpi_list (K := K) rfl (pe_lst (pa_cons (pe_tup (pa_cons pe_str (pa_cons pe_int pa_nil))) (pa_cons (pe_tup (pa_cons pe_str (pa_cons pe_int pa_nil))) (pa_cons (pe_tup (pa_cons pe_str (pa_cons pe_int pa_nil))) (pa_cons (pe_tup (pa_cons pe_str (pa_cons pe_int pa_nil))) (pa_cons (pe_tup (pa_cons pe_str (pa_cons pe_int pa_nil))) pa_nil)))))))) (pg_name (i := 1) sc__law_width.nd rfl (Or.inl rfl)) (pss_one (ps_if (pt_cmpR op_eq (pe_ix (kx_seq (K := K) rfl) (pv 1) pe_int (fun _ _ => rfl)) (pv 0) (nomark _)) (pss_one (ps_ret (pe_ix (kx_seq (K := K) rfl) (pv 1) pe_int (fun _ _ => rfl)))) pss_nil)))
 (pss_one (ps_ret pe_int))), _, fun ex He Hf => (sms_seq (sms_for (smi_list (SmO.sm (smo_lst (sma_cons (sm_tup (sma_cons (sm_str _) (sma_cons (sm_int _) sma_nil))) (sma_cons (sm_tup (sma_cons (sm_str _) (sma_cons (sm_int _) sma_nil))) (sma_cons (sm_tup (sma_cons (sm_str _) (sma_cons (sm_int _) sma_nil))) (sma_cons (sm_tup (sma_cons (sm_str _) (sma_cons (sm_int _) sma_nil))) (sma_cons (sm_tup (sma_cons (sm_str _) (sma_cons (sm_int _) sma_nil))) sma_nil)))))))) (smg_name 1)
 (sms_if (smt_t (f1 := false) (sm_op (f1 := false) (f2 := false) opd_eq (sm_ix (f2 := false) (sm_var 1) (sm_int _)) (sm_var 0)))
 (sms_ret (sm_ix (f2 := false) (sm_var 1) (sm_int _)))
 sms_next))
 (sms_ret (sm_int _))), ?_⟩
  rintro rs Φ ⟨k, v, rfl, hk, h⟩
  have l2 : (2 : Nat) ≤ sizeLine := by decide
  have l5 : (5 : Nat) ≤ sizeLine := by decide
  rcases wid_cases hk with ⟨rfl, rfl⟩ | ⟨rfl, rfl⟩ | ⟨rfl, rfl⟩ | ⟨rfl, rfl⟩ | ⟨rfl, rfl⟩
  · simp [dFor, l2, l5]
    refine ⟨fun j δ => ∃ y, j ≤ 0 ∧ δ = [some (.d (.str "i1")), y], ⟨_, Nat.zero_le _, rfl⟩, fun j z δ hj hI => ?_, fun δ hI => ?_⟩
    · obtain ⟨y, hy, rfl⟩ := hI
      rcases (show j = 0 by omega) with rfl
      · have e := Option.some.inj hj
        subst e
        simp
        exact h
    · obtain ⟨y, hy, rfl⟩ := hI
      exact absurd hy (by simp)
  · simp [dFor, l2, l5]
    refine ⟨fun j δ => ∃ y, j ≤ 1 ∧ δ = [some (.d (.str "i8")), y], ⟨_, Nat.zero_le _, rfl⟩, fun j z δ hj hI => ?_, fun δ hI => ?_⟩
    · obtain ⟨y, hy, rfl⟩ := hI
      rcases (show j = 0 ∨ j = 1 by omega) with rfl | rfl
      · have e := Option.some.inj hj
        subst e
        simp
      · have e := Option.some.inj hj
        subst e
        simp
        exact h
    · obtain ⟨y, hy, rfl⟩ := hI
      exact absurd hy (by simp)
  · simp [dFor, l2, l5]
    refine ⟨fun j δ => ∃ y, j ≤ 2 ∧ δ = [some (.d (.str "i16")), y], ⟨_, Nat.zero_le _, rfl⟩, fun j z δ hj hI => ?_, fun δ hI => ?_⟩
    · obtain ⟨y, hy, rfl⟩ := hI
      rcases (show j = 0 ∨ j = 1 ∨ j = 2 by omega) with rfl | rfl | rfl
      · have e := Option.some.inj hj
        subst e
        simp
      · have e := Option.some.inj hj
        subst e
        simp
      · have e := Option.some.inj hj
        subst e
        simp
        exact h
    · obtain ⟨y, hy, rfl⟩ := hI
      exact absurd hy (by simp)
  · simp [dFor, l2, l5]
    refine ⟨fun j δ => ∃ y, j ≤ 3 ∧ δ = [some (.d (.str "i32")), y], ⟨_, Nat.zero_le _, rfl⟩, fun j z δ hj hI => ?_, fun δ hI => ?_⟩
    · obtain ⟨y, hy, rfl⟩ := hI
      rcases (show j = 0 ∨ j = 1 ∨ j = 2 ∨ j = 3 by omega) with rfl | rfl | rfl | rfl
      · have e := Option.some.inj hj
        subst e
        simp
      · have e := Option.some.inj hj
        subst e
        simp
      · have e := Option.some.inj hj
        subst e
        simp
      · have e := Option.some.inj hj
        subst e
        simp
        exact h
    · obtain ⟨y, hy, rfl⟩ := hI
      exact absurd hy (by simp)
  · simp [dFor, l2, l5]
    refine ⟨fun j δ => ∃ y, j ≤ 4 ∧ δ = [some (.d (.str "i64")), y], ⟨_, Nat.zero_le _, rfl⟩, fun j z δ hj hI => ?_, fun δ hI => ?_⟩
    · obtain ⟨y, hy, rfl⟩ := hI
      rcases (show j = 0 ∨ j = 1 ∨ j = 2 ∨ j = 3 ∨ j = 4 by omega) with rfl | rfl | rfl | rfl | rfl
      · have e := Option.some.inj hj
        subst e
        simp
      · have e := Option.some.inj hj
        subst e
        simp
      · have e := Option.some.inj hj
        subst e
        simp
      · have e := Option.some.inj hj
        subst e
        simp
      · have e := Option.some.inj hj
        subst e
        simp
        exact h
    · obtain ⟨y, hy, rfl⟩ := hI
      exact absurd hy (by simp)
def vp__law_number : VSp := fun rs Φ => ∃ w : Nat, rs = [.drw, .d (.int w)] ∧ 1 ≤ w ∧ w ≤ 64 ∧ ∀ n : Nat, n < 2 ^ w → Φ (.d (.int n))
theorem len__law_number : ∀ rs Φ, vp__law_number rs Φ → rs.length = 2 := fun rs Φ ⟨_, e, _⟩ => by rw [e]; rfl
theorem G__law_number (T : Txt K mg w) : FnOk P w K mg base CX0 2 T.f__law_number T.fd__law_number ["draw", "w"] (toSp K 2 vp__law_number) := by
  refine fn_ok T.F__law_number sc__law_number fun cdv A outer s H E hr => ⟨_, (pss_cons (ps_set (i := 2) sc__law_number.nd rfl (Or.inl rfl) (pe_op op_sub (pe_op op_shl pe_int (pv 1)) pe_int))
 (pss_cons (ps_set (i := 3) sc__law_number.nd rfl (Or.inl rfl) (pe_call (G__law_take T) hr (by rfl) T.g__law_take T.F__law_take.kp T.b__law_take .nil pass0 (pa_cons (pv 0) (pa_cons pe_int pa_nil))))
 (pss_cons (ps_if (pt_cmpR op_lt (pv 3) pe_int (nomark _)) (pss_one (ps_ret (pe_callB (call_min2 rfl) (by rfl) T.min (by decide +kernel) (pa_cons (pv 2) (pa_cons (pe_call (G__law_take T) hr (by rfl) T.g__law_take T.F__law_take.kp T.b__law_take .nil pass0 (pa_cons (pv 0) (pa_cons pe_int pa_nil))) pa_nil))))) pss_nil)
 (pss_cons (ps_if (pt_cmpR op_eq (pv 3) pe_int (nomark _)) (pss_one (ps_ret (pe_op op_sub (pv 2) (pe_callB (call_min2 rfl) (by rfl) T.min (by decide +kernel) (pa_cons (pv 2) (pa_cons (pe_call (G__law_take T) hr (by rfl) T.g__law_take T.F__law_take.kp T.b__law_take .nil pass0 (pa_cons (pv 0) (pa_cons pe_int pa_nil))) pa_nil)))))) pss_nil)
 (pss_cons (ps_if (pt_cmpR op_eq (pv 3) pe_int (nomark _)) (pss_one (ps_ret (pe_op op_and (pe_callTy call_int1 (by rfl) T.int (by decide +kernel) (pa_cons (pe_op op_sub (pe_op op_add (pe_op op_shl pe_int (pe_call (G__law_take T) hr (by rfl) T.g__law_take T.F__law_take.kp T.b__law_take .nil pass0 (pa_cons (pv 0) (pa_cons (pv 1) pa_nil)))) (pe_call (G__law_take T) hr (by rfl) T.g__law_take T.F__law_take.kp T.b__law_take .nil pass0 (pa_cons (pv 0) (pa_cons pe_int pa_nil)))) pe_int) pa_nil)) (pv 2)))) pss_nil)
 (pss_cons (ps_if (pt_cmpR op_eq (pv 3) pe_int (nomark _)) (pss_one (ps_ret (pe_op op_shl pe_int (pe_op op_sub (pv 1) pe_int)))) pss_nil)
 (pss_cons (ps_set (i := 4) sc__law_number.nd rfl (Or.inl rfl) pe_int)
 (pss_cons (ps_for PassesOwn.never rfl (pi_range1 rfl T.range (pa_cons pe_int pa_nil)) (pg_name (i := 5) sc__law_number.nd rfl (Or.inl rfl)) (pss_one (ps_set (i := 4) sc__law_number.nd rfl (Or.inl rfl) (pe_op op_add (pe_op op_mul (pv 4) pe_int) (pe_call (G__law_take T) hr (by rfl) T.g__law_take T.F__law_take.kp T.b__law_take .nil pass0 (pa_cons (pv 0) (pa_cons pe_int pa_nil)))))))
 (pss_one (ps_ret (pe_op op_and (pv 4) (pv 2)))))))))))), _, fun ex He Hf => (sms_seq (sms_asg (sm_op (f1 := false) (f2 := false) (opd_I0 (g' := fun i j => .int (i - j)) fun _ _ => rfl) (sm_op (f1 := false) (f2 := false) (opd_I (g' := fun i j => .int (i * 2 ^ j.toNat)) fun _ _ => rfl) (sm_int _) (sm_var 1)) (sm_int _)) (smg_name 2))
 (sms_seq (sms_asg (sm_call len__law_take (smq_drw 0 (smq_cons (sm_int _) smq_nil))) (smg_name 3))
 (sms_seq (sms_if (smt_t (f1 := false) (sm_op (f1 := false) (f2 := false) (opd_I0 (g' := fun i j => .bool (decide (i < j))) fun _ _ => rfl) (sm_var 3) (sm_int _)))
 (sms_ret (sm_cb (f1 := false) cbd_min (sma_cons (sm_var 2) (sma_cons (sm_call len__law_take (smq_drw 0 (smq_cons (sm_int _) smq_nil))) sma_nil))))
 sms_next)
 (sms_seq (sms_if (smt_t (f1 := false) (sm_op (f1 := false) (f2 := false) opd_eq (sm_var 3) (sm_int _)))
 (sms_ret (sm_op (f1 := false) (f2 := false) (opd_I0 (g' := fun i j => .int (i - j)) fun _ _ => rfl) (sm_var 2) (sm_cb (f1 := false) cbd_min (sma_cons (sm_var 2) (sma_cons (sm_call len__law_take (smq_drw 0 (smq_cons (sm_int _) smq_nil))) sma_nil)))))
 sms_next)
 (sms_seq (sms_if (smt_t (f1 := false) (sm_op (f1 := false) (f2 := false) opd_eq (sm_var 3) (sm_int _)))
 (sms_ret (sm_op (f1 := false) (f2 := false) (opd_I0 (g' := fun i j => .int (Builtin.bitAnd i j)) fun _ _ => rfl) (sm_cb (f1 := false) cbd_int (sma_cons (sm_op (f1 := false) (f2 := false) (opd_I0 (g' := fun i j => .int (i - j)) fun _ _ => rfl) (sm_op (f1 := false) (f2 := false) (opd_I0 (g' := fun i j => .int (i + j)) fun _ _ => rfl) (sm_op (f1 := false) (f2 := false) (opd_I (g' := fun i j => .int (i * 2 ^ j.toNat)) fun _ _ => rfl) (sm_int _) (sm_call len__law_take (smq_drw 0 (smq_cons (sm_var 1) smq_nil)))) (sm_call len__law_take (smq_drw 0 (smq_cons (sm_int _) smq_nil)))) (sm_int _)) sma_nil)) (sm_var 2)))
 sms_next)
 (sms_seq (sms_if (smt_t (f1 := false) (sm_op (f1 := false) (f2 := false) opd_eq (sm_var 3) (sm_int _)))
 (sms_ret (sm_op (f1 := false) (f2 := false) (opd_I (g' := fun i j => .int (i * 2 ^ j.toNat)) fun _ _ => rfl) (sm_int _) (sm_op (f1 := false) (f2 := false) (opd_I0 (g' := fun i j => .int (i - j)) fun _ _ => rfl) (sm_var 1) (sm_int _))))
 sms_next)
 (sms_seq (sms_asg (sm_int _) (smg_name 4))
 (sms_seq (sms_for (smi_rng1 (f1 := false) (sm_int _)) (smg_name 5)
 (sms_asg (sm_op (f1 := false) (f2 := false) (opd_I0 (g' := fun i j => .int (i + j)) fun _ _ => rfl) (sm_op (f1 := false) (f2 := false) (opd_I (g' := fun i j => .int (i * j)) fun _ _ => rfl) (sm_var 4) (sm_int _)) (sm_call len__law_take (smq_drw 0 (smq_cons (sm_int _) smq_nil)))) (smg_name 4)))
 (sms_ret (sm_op (f1 := false) (f2 := false) (opd_I0 (g' := fun i j => .int (Builtin.bitAnd i j)) fun _ _ => rfl) (sm_var 4) (sm_var 2))))))))))), ?_⟩
  rintro rs Φ ⟨w, rfl, h1, h2, h⟩
  have p64 := pow_le64 h2
  have p0 := pow_pos2 w
  have ph := pow_half h1
  have p1 := pow_pos2 (w - 1)
  have hI : ∀ x : Int, 0 ≤ x → x < 2 ^ w → Φ (.d (.int x)) := fun x a b => by
    obtain ⟨n, rfl⟩ := Int.eq_ofNat_of_zero_le a
    refine h n ?_
    rw [← PySem.W.kbt_cast] at b
    exact Int.ofNat_lt.mp b
  simp
  refine ⟨cp1 (by omega) (by omega), fun k _ _ => ?_⟩
  split
  · exact fun r r0 r1 => hI _ (by split <;> omega) (by split <;> omega)
  split
  · exact fun r r0 r1 => hI _ (by split <;> omega) (by split <;> omega)
  split
  · refine ⟨⟨by omega, by omega⟩, fun r r0 r1 => ⟨cp1 (by omega) (by omega), fun q q0 q1 => ?_⟩⟩
    rw [PySem.W.kbt_mask]
    exact hI _ (Int.emod_nonneg _ (by omega)) (Int.emod_lt_of_pos _ p0)
  split
  · have e1 : ((w : Int) - 1).toNat = w - 1 := by omega
    exact ⟨cp1 (by omega) (by omega), hI _ (by omega) (by omega)⟩
  simp only [dFor, iR1, dC]
  refine ⟨3, rfl, by decide, by decide, fun j δ => ∃ (f : Int) (y5 : Option R), 0 ≤ f ∧ f < 4194301 ^ j ∧ δ = [some .drw, some (.d (.int w)), some (.d (.int (2 ^ w - 1))), some (.d (.int k)), some (.d (.int f)), y5], ⟨0, none, by decide, by decide, rfl⟩, fun j z δ hj hI2 => ?_, fun δ hI2 => ?_⟩
  · obtain ⟨f, y5, f0, f1, rfl⟩ := hI2
    obtain ⟨hj', rfl⟩ := rng_get hj
    have hj3 : j < 3 := hj'
    have fb : f < 20000000000000 := by
      rcases (show j = 0 ∨ j = 1 ∨ j = 2 by omega) with rfl | rfl | rfl <;> simp at f1 <;> omega
    simp
    refine ⟨.inl ⟨by omega, by omega⟩, fun r r0 r1 => ⟨by omega, ?_⟩⟩
    rw [Int.pow_succ]
    generalize (4194301 : Int) ^ j = q at *
    omega
  · obtain ⟨f, y5, f0, f1, rfl⟩ := hI2
    simp
    rw [PySem.W.kbt_mask]
    exact hI _ (Int.emod_nonneg _ (by omega)) (Int.emod_lt_of_pos _ p0)

def vp__law_signed : VSp := fun rs Φ => ∃ (w : Nat) (x : Int), rs = [.d (.int w), .d (.int x)] ∧ 1 ≤ w ∧ w ≤ 64 ∧ Φ (.d (.int (sgn w x)))
theorem len__law_signed : ∀ rs Φ, vp__law_signed rs Φ → rs.length = 2 := fun rs Φ ⟨_, _, e, _⟩ => by rw [e]; rfl
theorem G__law_signed (T : Txt K mg w) : FnOk P w K mg base CX0 1 T.f__law_signed T.fd__law_signed ["w", "x"] (toSp K 2 vp__law_signed) := by
  refine fn_ok T.F__law_signed sc__law_signed fun cdv A outer s H E hr => ⟨_, (pss_cons (ps_if (pt_cmpR op_ge (pv 1) (pe_op op_shl pe_int (pe_op op_sub (pv 0) pe_int)) (nomark _)) (pss_one (ps_ret (pe_op op_sub (pv 1) (pe_op op_shl pe_int (pv 0))))) pss_nil)
 (pss_one (ps_ret (pv 1)))), _, fun ex He Hf => (sms_seq (sms_if (smt_t (f1 := false) (sm_op (f1 := false) (f2 := false) (opd_I0 (g' := fun i j => .bool (decide (j ≤ i))) fun _ _ => rfl) (sm_var 1) (sm_op (f1 := false) (f2 := false) (opd_I (g' := fun i j => .int (i * 2 ^ j.toNat)) fun _ _ => rfl) (sm_int _) (sm_op (f1 := false) (f2 := false) (opd_I0 (g' := fun i j => .int (i - j)) fun _ _ => rfl) (sm_var 0) (sm_int _)))))
 (sms_ret (sm_op (f1 := false) (f2 := false) (opd_I0 (g' := fun i j => .int (i - j)) fun _ _ => rfl) (sm_var 1) (sm_op (f1 := false) (f2 := false) (opd_I (g' := fun i j => .int (i * 2 ^ j.toNat)) fun _ _ => rfl) (sm_int _) (sm_var 0))))
 sms_next)
 (sms_ret (sm_var 1))), ?_⟩
  rintro rs Φ ⟨w, x, rfl, h1, h2, h⟩
  have e1 : ((w : Int) - 1).toNat = w - 1 := by omega
  simp [e1]
  refine ⟨cp1 (by omega) (by omega), ?_⟩
  unfold sgn at h
  split
  · rename_i hc
    rw [if_pos hc] at h
    exact ⟨cp1 (by omega) (by omega), h⟩
  · rename_i hc
    rw [if_neg hc] at h
    exact h
theorem nos_e : ¬ (⟨#[101]⟩ : Str) = Str.ofString "s" := by decide +kernel
theorem nos_n : ¬ (⟨#[110]⟩ : Str) = Str.ofString "s" := by decide +kernel
theorem nos_u : ¬ (⟨#[117]⟩ : Str) = Str.ofString "s" := by decide +kernel
theorem yes_s : (⟨#[115]⟩ : Str) = Str.ofString "s" := rfl
theorem pl_eq : (Str.ofString "eq").length ≤ sizeLine := by decide
theorem pc_eq : (Str.ofString "eq").cps.toList = [101, 113] := rfl
theorem pw_eq : cutS (Str.ofString "eq") (some (((Str.ofString "eq").length : Int) - 2)) none = Str.ofString "eq" := by decide +kernel
theorem p1_eq : cutS (Str.ofString "eq") (some 1) none = Str.ofString "q" := by decide +kernel
theorem pl_ne : (Str.ofString "ne").length ≤ sizeLine := by decide
theorem pc_ne : (Str.ofString "ne").cps.toList = [110, 101] := rfl
theorem pw_ne : cutS (Str.ofString "ne") (some (((Str.ofString "ne").length : Int) - 2)) none = Str.ofString "ne" := by decide +kernel
theorem p1_ne : cutS (Str.ofString "ne") (some 1) none = Str.ofString "e" := by decide +kernel
theorem pl_ult : (Str.ofString "ult").length ≤ sizeLine := by decide
theorem pc_ult : (Str.ofString "ult").cps.toList = [117, 108, 116] := rfl
theorem pw_ult : cutS (Str.ofString "ult") (some (((Str.ofString "ult").length : Int) - 2)) none = Str.ofString "lt" := by decide +kernel
theorem p1_ult : cutS (Str.ofString "ult") (some 1) none = Str.ofString "lt" := by decide +kernel
theorem pl_ule : (Str.ofString "ule").length ≤ sizeLine := by decide
theorem pc_ule : (Str.ofString "ule").cps.toList = [117, 108, 101] := rfl
theorem pw_ule : cutS (Str.ofString "ule") (some (((Str.ofString "ule").length : Int) - 2)) none = Str.ofString "le" := by decide +kernel
theorem p1_ule : cutS (Str.ofString "ule") (some 1) none = Str.ofString "le" := by decide +kernel
theorem pl_ugt : (Str.ofString "ugt").length ≤ sizeLine := by decide
theorem pc_ugt : (Str.ofString "ugt").cps.toList = [117, 103, 116] := rfl
theorem pw_ugt : cutS (Str.ofString "ugt") (some (((Str.ofString "ugt").length : Int) - 2)) none = Str.ofString "gt" := by decide +kernel
theorem p1_ugt : cutS (Str.ofString "ugt") (some 1) none = Str.ofString "gt" := by decide +kernel
theorem pl_uge : (Str.ofString "uge").length ≤ sizeLine := by decide
theorem pc_uge : (Str.ofString "uge").cps.toList = [117, 103, 101] := rfl
theorem pw_uge : cutS (Str.ofString "uge") (some (((Str.ofString "uge").length : Int) - 2)) none = Str.ofString "ge" := by decide +kernel
theorem p1_uge : cutS (Str.ofString "uge") (some 1) none = Str.ofString "ge" := by decide +kernel
theorem pl_slt : (Str.ofString "slt").length ≤ sizeLine := by decide
theorem pc_slt : (Str.ofString "slt").cps.toList = [115, 108, 116] := rfl
theorem pw_slt : cutS (Str.ofString "slt") (some (((Str.ofString "slt").length : Int) - 2)) none = Str.ofString "lt" := by decide +kernel
theorem p1_slt : cutS (Str.ofString "slt") (some 1) none = Str.ofString "lt" := by decide +kernel
theorem pl_sle : (Str.ofString "sle").length ≤ sizeLine := by decide
theorem pc_sle : (Str.ofString "sle").cps.toList = [115, 108, 101] := rfl
theorem pw_sle : cutS (Str.ofString "sle") (some (((Str.ofString "sle").length : Int) - 2)) none = Str.ofString "le" := by decide +kernel
theorem p1_sle : cutS (Str.ofString "sle") (some 1) none = Str.ofString "le" := by decide +kernel
theorem pl_sgt : (Str.ofString "sgt").length ≤ sizeLine := by decide
theorem pc_sgt : (Str.ofString "sgt").cps.toList = [115, 103, 116] := rfl
theorem pw_sgt : cutS (Str.ofString "sgt") (some (((Str.ofString "sgt").length : Int) - 2)) none = Str.ofString "gt" := by decide +kernel
theorem p1_sgt : cutS (Str.ofString "sgt") (some 1) none = Str.ofString "gt" := by decide +kernel
theorem pl_sge : (Str.ofString "sge").length ≤ sizeLine := by decide
theorem pc_sge : (Str.ofString "sge").cps.toList = [115, 103, 101] := rfl
theorem pw_sge : cutS (Str.ofString "sge") (some (((Str.ofString "sge").length : Int) - 2)) none = Str.ofString "ge" := by decide +kernel
theorem p1_sge : cutS (Str.ofString "sge") (some 1) none = Str.ofString "ge" := by decide +kernel
def vp__law_compare : VSp := fun rs Φ => ∃ (p : Str) (w : Nat) (x y : Int), rs = [.d (.str p), .d (.int w), .d (.int x), .d (.int y)] ∧ p ∈ preds ∧ 1 ≤ w ∧ w ≤ 64 ∧ Φ (.d (.int (b2i (cmpI p w x y))))
theorem len__law_compare : ∀ rs Φ, vp__law_compare rs Φ → rs.length = 4 := fun rs Φ ⟨_, _, _, _, e, _⟩ => by rw [e]; rfl
theorem G__law_compare (T : Txt K mg w) : FnOk P w K mg base CX0 2 T.f__law_compare T.fd__law_compare ["predicate", "w", "x", "y"] (toSp K 4 vp__law_compare) := by
  refine fn_ok T.F__law_compare sc__law_compare fun cdv A outer s H E hr => ⟨_, (pss_cons (ps_if (pt_cmpR op_eq (pe_ix (kx_seq (K := K) rfl) (pv 0) pe_int (fun _ _ => rfl)) pe_str (nomark _)) (pss_cons (ps_set (i := 2) sc__law_compare.nd rfl (Or.inl rfl) (pe_call (G__law_signed T) hr (by rfl) T.g__law_signed T.F__law_signed.kp T.b__law_signed .nil pass0 (pa_cons (pv 1) (pa_cons (pv 2) pa_nil))))
 (pss_one (ps_set (i := 3) sc__law_compare.nd rfl (Or.inl rfl) (pe_call (G__law_signed T) hr (by rfl) T.g__law_signed T.F__law_signed.kp T.b__law_signed .nil pass0 (pa_cons (pv 1) (pa_cons (pv 3) pa_nil)))))) pss_nil)
 (pss_cons (ps_set (i := 4) sc__law_compare.nd rfl (Or.inl rfl) (pe_slice sl_str (pv 0) (po_some (pe_op op_sub (pe_callB (kx_len (K := K) rfl) (by rfl) T.len PySem.boot_len (pa_cons (pv 0) pa_nil)) pe_int)) po_none))
 (pss_cons (ps_if (pt_cmpR op_eq (pv 4) pe_str (nomark _)) (pss_one (ps_ret (pe_callTy call_int1 (by rfl) T.int (by decide +kernel) (pa_cons (pe_cmpR op_eq (pv 2) (pv 3) (nomark _)) pa_nil)))) pss_nil)
 (pss_cons (ps_if (pt_cmpR op_eq (pv 4) pe_str (nomark _)) (pss_one (ps_ret (pe_callTy call_int1 (by rfl) T.int (by decide +kernel) (pa_cons (pe_cmpR op_ne (pv 2) (pv 3) (nomark _)) pa_nil)))) pss_nil)
 (pss_cons (ps_if (pt_cmpR op_eq (pv 4) pe_str (nomark _)) (pss_one (ps_ret (pe_callTy call_int1 (by rfl) T.int (by decide +kernel) (pa_cons (pe_cmpR op_lt (pv 2) (pv 3) (nomark _)) pa_nil)))) pss_nil)
 (pss_cons (ps_if (pt_cmpR op_eq (pv 4) pe_str (nomark _)) (pss_one (ps_ret (pe_callTy call_int1 (by rfl) T.int (by decide +kernel) (pa_cons (pe_cmpR op_le (pv 2) (pv 3) (nomark _)) pa_nil)))) pss_nil)
 (pss_cons (ps_if (pt_cmpR op_eq (pv 4) pe_str (nomark _)) (pss_one (ps_ret (pe_callTy call_int1 (by rfl) T.int (by decide +kernel) (pa_cons (pe_cmpR op_gt (pv 2) (pv 3) (nomark _)) pa_nil)))) pss_nil)
 (pss_one (ps_ret (pe_callTy call_int1 (by rfl) T.int (by decide +kernel) (pa_cons (pe_cmpR op_ge (pv 2) (pv 3) (nomark _)) pa_nil))))))))))), _, fun ex He Hf => (sms_seq (sms_if (smt_t (f1 := false) (sm_op (f1 := false) (f2 := false) opd_eq (sm_ix (f2 := false) (sm_var 0) (sm_int _)) (sm_str _)))
 (sms_seq (sms_asg (sm_call len__law_signed (smq_cons (sm_var 1) (smq_cons (sm_var 2) smq_nil))) (smg_name 2))
 (sms_asg (sm_call len__law_signed (smq_cons (sm_var 1) (smq_cons (sm_var 3) smq_nil))) (smg_name 3)))
 sms_next)
 (sms_seq (sms_asg (sm_sl_str (f1 := false) (sm_var 0) (smp_some (f1 := false) (sm_op (f1 := false) (f2 := false) (opd_I0 (g' := fun i j => .int (i - j)) fun _ _ => rfl) (sm_cb (f1 := false) cbd_len (sma_cons (sm_var 0) sma_nil)) (sm_int _))) smp_none) (smg_name 4))
 (sms_seq (sms_if (smt_t (f1 := false) (sm_op (f1 := false) (f2 := false) opd_eq (sm_var 4) (sm_str _)))
 (sms_ret (sm_cb (f1 := false) cbd_int (sma_cons (sm_op (f1 := false) (f2 := false) opd_eq (sm_var 2) (sm_var 3)) sma_nil)))
 sms_next)
 (sms_seq (sms_if (smt_t (f1 := false) (sm_op (f1 := false) (f2 := false) opd_eq (sm_var 4) (sm_str _)))
 (sms_ret (sm_cb (f1 := false) cbd_int (sma_cons (sm_op (f1 := false) (f2 := false) opd_ne (sm_var 2) (sm_var 3)) sma_nil)))
 sms_next)
 (sms_seq (sms_if (smt_t (f1 := false) (sm_op (f1 := false) (f2 := false) opd_eq (sm_var 4) (sm_str _)))
 (sms_ret (sm_cb (f1 := false) cbd_int (sma_cons (sm_op (f1 := false) (f2 := false) (opd_I0 (g' := fun i j => .bool (decide (i < j))) fun _ _ => rfl) (sm_var 2) (sm_var 3)) sma_nil)))
 sms_next)
 (sms_seq (sms_if (smt_t (f1 := false) (sm_op (f1 := false) (f2 := false) opd_eq (sm_var 4) (sm_str _)))
 (sms_ret (sm_cb (f1 := false) cbd_int (sma_cons (sm_op (f1 := false) (f2 := false) (opd_I0 (g' := fun i j => .bool (decide (i ≤ j))) fun _ _ => rfl) (sm_var 2) (sm_var 3)) sma_nil)))
 sms_next)
 (sms_seq (sms_if (smt_t (f1 := false) (sm_op (f1 := false) (f2 := false) opd_eq (sm_var 4) (sm_str _)))
 (sms_ret (sm_cb (f1 := false) cbd_int (sma_cons (sm_op (f1 := false) (f2 := false) (opd_I0 (g' := fun i j => .bool (decide (j < i))) fun _ _ => rfl) (sm_var 2) (sm_var 3)) sma_nil)))
 sms_next)
 (sms_ret (sm_cb (f1 := false) cbd_int (sma_cons (sm_op (f1 := false) (f2 := false) (opd_I0 (g' := fun i j => .bool (decide (j ≤ i))) fun _ _ => rfl) (sm_var 2) (sm_var 3)) sma_nil)))))))))), ?_⟩
  rintro rs Φ ⟨p, w, x, y, rfl, hp, h1, h2, h⟩
  rcases preds_cases hp with rfl | rfl | rfl | rfl | rfl | rfl | rfl | rfl | rfl | rfl
  · simp [pl_eq, pc_eq, pw_eq, nos_e]
    simpa [cmpI, b2i] using h
  · simp [pl_ne, pc_ne, pw_ne, nos_n]
    simpa [cmpI, b2i] using h
  · simp [pl_ult, pc_ult, pw_ult, nos_u]
    simpa [cmpI, b2i] using h
  · simp [pl_ule, pc_ule, pw_ule, nos_u]
    simpa [cmpI, b2i] using h
  · simp [pl_ugt, pc_ugt, pw_ugt, nos_u]
    simpa [cmpI, b2i] using h
  · simp [pl_uge, pc_uge, pw_uge, nos_u]
    simpa [cmpI, b2i] using h
  · simp [pl_slt, pc_slt, pw_slt, yes_s]
    refine ⟨w, x, rfl, h1, h2, w, y, rfl, h1, h2, ?_⟩
    simp [pl_slt, pc_slt, pw_slt, yes_s]
    simpa [cmpI, b2i] using h
  · simp [pl_sle, pc_sle, pw_sle, yes_s]
    refine ⟨w, x, rfl, h1, h2, w, y, rfl, h1, h2, ?_⟩
    simp [pl_sle, pc_sle, pw_sle, yes_s]
    simpa [cmpI, b2i] using h
  · simp [pl_sgt, pc_sgt, pw_sgt, yes_s]
    refine ⟨w, x, rfl, h1, h2, w, y, rfl, h1, h2, ?_⟩
    simp [pl_sgt, pc_sgt, pw_sgt, yes_s]
    simpa [cmpI, b2i] using h
  · simp [pl_sge, pc_sge, pw_sge, yes_s]
    refine ⟨w, x, rfl, h1, h2, w, y, rfl, h1, h2, ?_⟩
    simp [pl_sge, pc_sge, pw_sge, yes_s]
    simpa [cmpI, b2i] using h


def vp__law_shift : VSp := fun rs Φ => ∃ (op : Str) (w : Nat) (x y : Int), rs = [.d (.str op), .d (.int w), .d (.int x), .d (.int y)] ∧ (op = "shl" ∨ op = "lshr" ∨ op = "ashr") ∧ 1 ≤ w ∧ w ≤ 64 ∧ Val w x ∧ Val w y ∧ Φ (.d (shf op w x y))
theorem len__law_shift : ∀ rs Φ, vp__law_shift rs Φ → rs.length = 4 := fun rs Φ ⟨_, _, _, _, e, _⟩ => by rw [e]; rfl
theorem G__law_shift (T : Txt K mg w) : FnOk P w K mg base CX0 2 T.f__law_shift T.fd__law_shift ["op", "w", "x", "y"] (toSp K 4 vp__law_shift) := by
  refine fn_ok T.F__law_shift sc__law_shift fun cdv A outer s H E hr => ⟨_, (pss_cons (ps_if (pt_cmpR op_eq (pv 0) pe_str (nomark _)) (pss_cons (ps_if (pt_cmpR op_ge (pv 3) (pv 1) (nomark _)) (pss_one (ps_ret pe_int)) pss_nil)
 (pss_one (ps_ret (pe_op op_and (pe_op op_shl (pv 2) (pv 3)) (pe_op op_sub (pe_op op_shl pe_int (pv 1)) pe_int))))) pss_nil)
 (pss_cons (ps_if (pt_cmpR op_eq (pv 0) pe_str (nomark _)) (pss_cons (ps_if (pt_cmpR op_ge (pv 3) (pv 1) (nomark _)) (pss_one (ps_ret pe_int)) pss_nil)
 (pss_one (ps_ret (pe_op op_shr (pv 2) (pv 3))))) pss_nil)
 (pss_one (ps_ret (pe_op op_and (pe_op op_shr (pe_call (G__law_signed T) hr (by rfl) T.g__law_signed T.F__law_signed.kp T.b__law_signed .nil pass0 (pa_cons (pv 1) (pa_cons (pv 2) pa_nil))) (pe_callB (call_min2 rfl) (by rfl) T.min (by decide +kernel) (pa_cons (pv 3) (pa_cons (pv 1) pa_nil)))) (pe_op op_sub (pe_op op_shl pe_int (pv 1)) pe_int)))))), _, fun ex He Hf => (sms_seq (sms_if (smt_t (f1 := false) (sm_op (f1 := false) (f2 := false) opd_eq (sm_var 0) (sm_str _)))
 (sms_seq (sms_if (smt_t (f1 := false) (sm_op (f1 := false) (f2 := false) (opd_I0 (g' := fun i j => .bool (decide (j ≤ i))) fun _ _ => rfl) (sm_var 3) (sm_var 1)))
 (sms_ret (sm_int _))
 sms_next)
 (sms_ret (sm_op (f1 := false) (f2 := false) (opd_I0 (g' := fun i j => .int (Builtin.bitAnd i j)) fun _ _ => rfl) (sm_op (f1 := false) (f2 := false) (opd_I (g' := fun i j => .int (i * 2 ^ j.toNat)) fun _ _ => rfl) (sm_var 2) (sm_var 3)) (sm_op (f1 := false) (f2 := false) (opd_I0 (g' := fun i j => .int (i - j)) fun _ _ => rfl) (sm_op (f1 := false) (f2 := false) (opd_I (g' := fun i j => .int (i * 2 ^ j.toNat)) fun _ _ => rfl) (sm_int _) (sm_var 1)) (sm_int _)))))
 sms_next)
 (sms_seq (sms_if (smt_t (f1 := false) (sm_op (f1 := false) (f2 := false) opd_eq (sm_var 0) (sm_str _)))
 (sms_seq (sms_if (smt_t (f1 := false) (sm_op (f1 := false) (f2 := false) (opd_I0 (g' := fun i j => .bool (decide (j ≤ i))) fun _ _ => rfl) (sm_var 3) (sm_var 1)))
 (sms_ret (sm_int _))
 sms_next)
 (sms_ret (sm_op (f1 := false) (f2 := false) (opd_I (g' := fun i j => .int (i / 2 ^ j.toNat)) fun _ _ => rfl) (sm_var 2) (sm_var 3))))
 sms_next)
 (sms_ret (sm_op (f1 := false) (f2 := false) (opd_I0 (g' := fun i j => .int (Builtin.bitAnd i j)) fun _ _ => rfl) (sm_op (f1 := false) (f2 := false) (opd_I (g' := fun i j => .int (i / 2 ^ j.toNat)) fun _ _ => rfl) (sm_call len__law_signed (smq_cons (sm_var 1) (smq_cons (sm_var 2) smq_nil))) (sm_cb (f1 := false) cbd_min (sma_cons (sm_var 3) (sma_cons (sm_var 1) sma_nil)))) (sm_op (f1 := false) (f2 := false) (opd_I0 (g' := fun i j => .int (i - j)) fun _ _ => rfl) (sm_op (f1 := false) (f2 := false) (opd_I (g' := fun i j => .int (i * 2 ^ j.toNat)) fun _ _ => rfl) (sm_int _) (sm_var 1)) (sm_int _)))))), ?_⟩
  rintro rs Φ ⟨op, w, x, y, rfl, ho, h1, h2, hx, hy, h⟩
  have p64 := pow_le64 h2
  obtain ⟨x0, x1⟩ := hx
  obtain ⟨y0, y1⟩ := hy
  have cw : CPow 1 (w : Int) := cp1 (by omega) (by omega)
  rcases ho with rfl | rfl | rfl
  · simp [shf] at h ⊢
    split
    · rename_i hc
      rw [if_pos hc] at h
      exact h
    · rename_i hc
      rw [if_neg hc] at h
      rw [PySem.W.kbt_mask]
      exact ⟨⟨y0, by omega, by omega⟩, cw, h⟩
  · simp [shf] at h ⊢
    split
    · rename_i hc
      rw [if_pos hc] at h
      exact h
    · rename_i hc
      rw [if_neg hc] at h
      exact ⟨y0, h⟩
  · simp [shf] at h ⊢
    refine ⟨w, x, rfl, h1, h2, ?_⟩
    simp
    rw [PySem.W.kbt_mask, minI]
    exact ⟨by omega, cw, h⟩
def vp__law_divide : VSp := fun rs Φ => ∃ (op : Str) (w : Nat) (x y : Int), rs = [.d (.str op), .d (.int w), .d (.int x), .d (.int y)] ∧ (op = "udiv" ∨ op = "urem" ∨ op = "sdiv" ∨ op = "srem") ∧ 1 ≤ w ∧ w ≤ 64 ∧ Val w x ∧ Val w y ∧ Φ (.d (divd op w x y))
theorem len__law_divide : ∀ rs Φ, vp__law_divide rs Φ → rs.length = 4 := fun rs Φ ⟨_, _, _, _, e, _⟩ => by rw [e]; rfl
theorem G__law_divide (T : Txt K mg w) : FnOk P w K mg base CX0 2 T.f__law_divide T.fd__law_divide ["op", "w", "x", "y"] (toSp K 4 vp__law_divide) := by
  refine fn_ok T.F__law_divide sc__law_divide fun cdv A outer s H E hr => ⟨_, (pss_cons (ps_if (pt_cmpR op_eq (pv 3) pe_int (nomark _)) (pss_one (ps_ret pe_non)) pss_nil)
 (pss_cons (ps_if (pt_cmpR op_eq (pv 0) pe_str (nomark _)) (pss_one (ps_ret (pe_op op_fdivW (pv 2) (pv 3)))) pss_nil)
 (pss_cons (ps_if (pt_cmpR op_eq (pv 0) pe_str (nomark _)) (pss_one (ps_ret (pe_op op_sub (pv 2) (pe_op op_mul (pe_op op_fdivW (pv 2) (pv 3)) (pv 3))))) pss_nil)
 (pss_cons (ps_set (i := 4) sc__law_divide.nd rfl (Or.inl rfl) (pe_call (G__law_signed T) hr (by rfl) T.g__law_signed T.F__law_signed.kp T.b__law_signed .nil pass0 (pa_cons (pv 1) (pa_cons (pv 2) pa_nil))))
 (pss_cons (ps_set (i := 5) sc__law_divide.nd rfl (Or.inl rfl) (pe_call (G__law_signed T) hr (by rfl) T.g__law_signed T.F__law_signed.kp T.b__law_signed .nil pass0 (pa_cons (pv 1) (pa_cons (pv 3) pa_nil))))
 (pss_cons (ps_set (i := 6) sc__law_divide.nd rfl (Or.inl rfl) (pe_op op_fdivW (pe_callB call_abs (by rfl) T.abs (by decide +kernel) (pa_cons (pv 4) pa_nil)) (pe_callB call_abs (by rfl) T.abs (by decide +kernel) (pa_cons (pv 5) pa_nil))))
 (pss_cons (ps_if (pt_cmpR op_ne (pe_cmpR op_lt (pv 4) pe_int (nomark _)) (pe_cmpR op_lt (pv 5) pe_int (nomark _)) (nomark _)) (pss_one (ps_set (i := 6) sc__law_divide.nd rfl (Or.inl rfl) (pe_un un_neg (pv 6)))) pss_nil)
 (pss_cons (ps_if (pt_cmpR op_eq (pv 0) pe_str (nomark _)) (pss_one (ps_ret (pe_op op_and (pv 6) (pe_op op_sub (pe_op op_shl pe_int (pv 1)) pe_int)))) pss_nil)
 (pss_one (ps_ret (pe_op op_and (pe_op op_sub (pv 4) (pe_op op_mul (pv 6) (pv 5))) (pe_op op_sub (pe_op op_shl pe_int (pv 1)) pe_int)))))))))))), _, fun ex He Hf => (sms_seq (sms_if (smt_t (f1 := false) (sm_op (f1 := false) (f2 := false) opd_eq (sm_var 3) (sm_int _)))
 (sms_ret sm_non)
 sms_next)
 (sms_seq (sms_if (smt_t (f1 := false) (sm_op (f1 := false) (f2 := false) opd_eq (sm_var 0) (sm_str _)))
 (sms_ret (sm_op (f1 := false) (f2 := false) (opd_I (g' := fun i j => .int (i / j)) fun _ _ => rfl) (sm_var 2) (sm_var 3)))
 sms_next)
 (sms_seq (sms_if (smt_t (f1 := false) (sm_op (f1 := false) (f2 := false) opd_eq (sm_var 0) (sm_str _)))
 (sms_ret (sm_op (f1 := false) (f2 := false) (opd_I0 (g' := fun i j => .int (i - j)) fun _ _ => rfl) (sm_var 2) (sm_op (f1 := false) (f2 := false) (opd_I (g' := fun i j => .int (i * j)) fun _ _ => rfl) (sm_op (f1 := false) (f2 := false) (opd_I (g' := fun i j => .int (i / j)) fun _ _ => rfl) (sm_var 2) (sm_var 3)) (sm_var 3))))
 sms_next)
 (sms_seq (sms_asg (sm_call len__law_signed (smq_cons (sm_var 1) (smq_cons (sm_var 2) smq_nil))) (smg_name 4))
 (sms_seq (sms_asg (sm_call len__law_signed (smq_cons (sm_var 1) (smq_cons (sm_var 3) smq_nil))) (smg_name 5))
 (sms_seq (sms_asg (sm_op (f1 := false) (f2 := false) (opd_I (g' := fun i j => .int (i / j)) fun _ _ => rfl) (sm_cb (f1 := false) cbd_abs (sma_cons (sm_var 4) sma_nil)) (sm_cb (f1 := false) cbd_abs (sma_cons (sm_var 5) sma_nil))) (smg_name 6))
 (sms_seq (sms_if (smt_t (f1 := false) (sm_op (f1 := false) (f2 := false) opd_ne (sm_op (f1 := false) (f2 := false) (opd_I0 (g' := fun i j => .bool (decide (i < j))) fun _ _ => rfl) (sm_var 4) (sm_int _)) (sm_op (f1 := false) (f2 := false) (opd_I0 (g' := fun i j => .bool (decide (i < j))) fun _ _ => rfl) (sm_var 5) (sm_int _))))
 (sms_asg (sm_un (f1 := false) (g' := fun i => .int (-i)) (fun _ => rfl) (sm_var 6)) (smg_name 6))
 sms_next)
 (sms_seq (sms_if (smt_t (f1 := false) (sm_op (f1 := false) (f2 := false) opd_eq (sm_var 0) (sm_str _)))
 (sms_ret (sm_op (f1 := false) (f2 := false) (opd_I0 (g' := fun i j => .int (Builtin.bitAnd i j)) fun _ _ => rfl) (sm_var 6) (sm_op (f1 := false) (f2 := false) (opd_I0 (g' := fun i j => .int (i - j)) fun _ _ => rfl) (sm_op (f1 := false) (f2 := false) (opd_I (g' := fun i j => .int (i * 2 ^ j.toNat)) fun _ _ => rfl) (sm_int _) (sm_var 1)) (sm_int _))))
 sms_next)
 (sms_ret (sm_op (f1 := false) (f2 := false) (opd_I0 (g' := fun i j => .int (Builtin.bitAnd i j)) fun _ _ => rfl) (sm_op (f1 := false) (f2 := false) (opd_I0 (g' := fun i j => .int (i - j)) fun _ _ => rfl) (sm_var 4) (sm_op (f1 := false) (f2 := false) (opd_I (g' := fun i j => .int (i * j)) fun _ _ => rfl) (sm_var 6) (sm_var 5))) (sm_op (f1 := false) (f2 := false) (opd_I0 (g' := fun i j => .int (i - j)) fun _ _ => rfl) (sm_op (f1 := false) (f2 := false) (opd_I (g' := fun i j => .int (i * 2 ^ j.toNat)) fun _ _ => rfl) (sm_int _) (sm_var 1)) (sm_int _)))))))))))), ?_⟩
  rintro rs Φ ⟨op, w, x, y, rfl, ho, h1, h2, hx, hy, h⟩
  have p64 := pow_le64 h2
  have ph := pow_half h1
  have cw : CPow 1 (w : Int) := cp1 (by omega) (by omega)
  by_cases hy0 : y = 0
  · simp [hy0, divd] at h ⊢
    exact h
  have sb := sgn_bd h1 hy
  have s0 := sgn_zero h1 hy hy0
  have sa := sgn_bd h1 hx
  obtain ⟨x0, x1⟩ := hx
  obtain ⟨y0, y1⟩ := hy
  have qa : (if sgn w x < 0 then -(sgn w x) else sgn w x) / (if sgn w y < 0 then -(sgn w y) else sgn w y) = (((sgn w x).natAbs / (sgn w y).natAbs : Nat) : Int) := by
    rw [absI, absI]
    push_cast
    rfl
  have cd : CDivW (if sgn w x < 0 then -(sgn w x) else sgn w x) (if sgn w y < 0 then -(sgn w y) else sgn w y) := by
    rw [absI, absI]
    exact cdw (by omega) (by omega)
  have em : x - x / y * y = x % y := by rw [Int.mul_comm, Int.emod_def]
  rcases ho with rfl | rfl | rfl | rfl
  · simp [hy0, divd] at h ⊢
    exact ⟨cdw (by omega) (by omega), h⟩
  · simp [hy0, divd] at h ⊢
    rw [em]
    have q0 := Int.ediv_nonneg x0 y0
    have q1 := Int.ediv_le_self y x0
    exact ⟨cdw (by omega) (by omega), .inl ⟨by omega, by omega⟩, h⟩
  · simp [hy0, divd] at h ⊢
    refine ⟨w, x, rfl, h1, h2, ?_⟩
    simp
    refine ⟨w, y, rfl, h1, h2, ?_⟩
    simp
    refine ⟨cd, ?_⟩
    rw [qa, PySem.W.kbt_mask, PySem.W.kbt_mask]
    unfold tz at h
    by_cases hs : sgn w x < 0 ↔ sgn w y < 0
    · rw [if_pos hs] at h
      exact .inl ⟨hs, cw, h⟩
    · rw [if_neg hs] at h
      exact .inr ⟨hs, cw, h⟩
  · simp [hy0, divd] at h ⊢
    refine ⟨w, x, rfl, h1, h2, ?_⟩
    simp
    refine ⟨w, y, rfl, h1, h2, ?_⟩
    simp
    refine ⟨cd, ?_⟩
    rw [qa, PySem.W.kbt_mask, PySem.W.kbt_mask]
    unfold tz at h
    by_cases hs : sgn w x < 0 ↔ sgn w y < 0
    · rw [if_pos hs] at h
      refine .inl ⟨hs, .inr ⟨by omega, by omega⟩, cw, ?_⟩
      exact h
    · rw [if_neg hs] at h
      refine .inr ⟨hs, .inr ⟨by omega, by omega⟩, cw, ?_⟩
      exact h
def vp__law_binary : VSp := fun rs Φ => ∃ (op : Str) (w : Nat) (x y : Int), rs = [.d (.str op), .d (.int w), .d (.int x), .d (.int y)] ∧ op ∈ ops ∧ 1 ≤ w ∧ w ≤ 64 ∧ Val w x ∧ Val w y ∧ Φ (.d (bin op w x y))
theorem len__law_binary : ∀ rs Φ, vp__law_binary rs Φ → rs.length = 4 := fun rs Φ ⟨_, _, _, _, e, _⟩ => by rw [e]; rfl
theorem G__law_binary (T : Txt K mg w) : FnOk P w K mg base CX0 3 T.f__law_binary T.fd__law_binary ["op", "w", "x", "y"] (toSp K 4 vp__law_binary) := by
  refine fn_ok T.F__law_binary sc__law_binary fun cdv A outer s H E hr => ⟨_, (pss_cons (ps_set (i := 4) sc__law_binary.nd rfl (Or.inl rfl) (pe_op op_sub (pe_op op_shl pe_int (pv 1)) pe_int))
 (pss_cons (ps_if (pt_cmpR op_eq (pv 0) pe_str (nomark _)) (pss_one (ps_ret (pe_op op_and (pe_op op_add (pv 2) (pv 3)) (pv 4)))) pss_nil)
 (pss_cons (ps_if (pt_cmpR op_eq (pv 0) pe_str (nomark _)) (pss_one (ps_ret (pe_op op_and (pe_op op_sub (pv 2) (pv 3)) (pv 4)))) pss_nil)
 (pss_cons (ps_if (pt_cmpR op_eq (pv 0) pe_str (nomark _)) (pss_one (ps_ret (pe_op op_and (pe_op op_mul (pv 2) (pv 3)) (pv 4)))) pss_nil)
 (pss_cons (ps_if (pt_cmpR op_eq (pv 0) pe_str (nomark _)) (pss_one (ps_ret (pe_op op_and (pv 2) (pv 3)))) pss_nil)
 (pss_cons (ps_if (pt_cmpR op_eq (pv 0) pe_str (nomark _)) (pss_one (ps_ret (pe_op op_or (pv 2) (pv 3)))) pss_nil)
 (pss_cons (ps_if (pt_cmpR op_eq (pv 0) pe_str (nomark _)) (pss_one (ps_ret (pe_op op_xor (pv 2) (pv 3)))) pss_nil)
 (pss_cons (ps_if (pt_cmpR (kx_in (K := K) rfl) (pv 0) (pe_tup (pa_cons pe_str (pa_cons pe_str (pa_cons pe_str pa_nil)))) (by rfl)) (pss_one (ps_ret (pe_call (G__law_shift T) hr (by rfl) T.g__law_shift T.F__law_shift.kp T.b__law_shift .nil pass0 (pa_cons (pv 0) (pa_cons (pv 1) (pa_cons (pv 2) (pa_cons (pv 3) pa_nil))))))) pss_nil)
 (pss_one (ps_ret (pe_call (G__law_divide T) hr (by rfl) T.g__law_divide T.F__law_divide.kp T.b__law_divide .nil pass0 (pa_cons (pv 0) (pa_cons (pv 1) (pa_cons (pv 2) (pa_cons (pv 3) pa_nil))))))))))))))), _, fun ex He Hf => (sms_seq (sms_asg (sm_op (f1 := false) (f2 := false) (opd_I0 (g' := fun i j => .int (i - j)) fun _ _ => rfl) (sm_op (f1 := false) (f2 := false) (opd_I (g' := fun i j => .int (i * 2 ^ j.toNat)) fun _ _ => rfl) (sm_int _) (sm_var 1)) (sm_int _)) (smg_name 4))
 (sms_seq (sms_if (smt_t (f1 := false) (sm_op (f1 := false) (f2 := false) opd_eq (sm_var 0) (sm_str _)))
 (sms_ret (sm_op (f1 := false) (f2 := false) (opd_I0 (g' := fun i j => .int (Builtin.bitAnd i j)) fun _ _ => rfl) (sm_op (f1 := false) (f2 := false) (opd_I0 (g' := fun i j => .int (i + j)) fun _ _ => rfl) (sm_var 2) (sm_var 3)) (sm_var 4)))
 sms_next)
 (sms_seq (sms_if (smt_t (f1 := false) (sm_op (f1 := false) (f2 := false) opd_eq (sm_var 0) (sm_str _)))
 (sms_ret (sm_op (f1 := false) (f2 := false) (opd_I0 (g' := fun i j => .int (Builtin.bitAnd i j)) fun _ _ => rfl) (sm_op (f1 := false) (f2 := false) (opd_I0 (g' := fun i j => .int (i - j)) fun _ _ => rfl) (sm_var 2) (sm_var 3)) (sm_var 4)))
 sms_next)
 (sms_seq (sms_if (smt_t (f1 := false) (sm_op (f1 := false) (f2 := false) opd_eq (sm_var 0) (sm_str _)))
 (sms_ret (sm_op (f1 := false) (f2 := false) (opd_I0 (g' := fun i j => .int (Builtin.bitAnd i j)) fun _ _ => rfl) (sm_op (f1 := false) (f2 := false) (opd_I (g' := fun i j => .int (i * j)) fun _ _ => rfl) (sm_var 2) (sm_var 3)) (sm_var 4)))
 sms_next)
 (sms_seq (sms_if (smt_t (f1 := false) (sm_op (f1 := false) (f2 := false) opd_eq (sm_var 0) (sm_str _)))
 (sms_ret (sm_op (f1 := false) (f2 := false) (opd_I0 (g' := fun i j => .int (Builtin.bitAnd i j)) fun _ _ => rfl) (sm_var 2) (sm_var 3)))
 sms_next)
 (sms_seq (sms_if (smt_t (f1 := false) (sm_op (f1 := false) (f2 := false) opd_eq (sm_var 0) (sm_str _)))
 (sms_ret (sm_op (f1 := false) (f2 := false) (opd_I0 (g' := fun i j => .int (Builtin.bitOr i j)) fun _ _ => rfl) (sm_var 2) (sm_var 3)))
 sms_next)
 (sms_seq (sms_if (smt_t (f1 := false) (sm_op (f1 := false) (f2 := false) opd_eq (sm_var 0) (sm_str _)))
 (sms_ret (sm_op (f1 := false) (f2 := false) (opd_I0 (g' := fun i j => .int (Builtin.bitXor i j)) fun _ _ => rfl) (sm_var 2) (sm_var 3)))
 sms_next)
 (sms_seq (sms_if (smt_t (f1 := false) (sm_op (f1 := false) (f2 := false) (opd_in false) (sm_var 0) (sm_tup (sma_cons (sm_str _) (sma_cons (sm_str _) (sma_cons (sm_str _) sma_nil))))))
 (sms_ret (sm_call len__law_shift (smq_cons (sm_var 0) (smq_cons (sm_var 1) (smq_cons (sm_var 2) (smq_cons (sm_var 3) smq_nil))))))
 sms_next)
 (sms_ret (sm_call len__law_divide (smq_cons (sm_var 0) (smq_cons (sm_var 1) (smq_cons (sm_var 2) (smq_cons (sm_var 3) smq_nil)))))))))))))), ?_⟩
  rintro rs Φ ⟨op, w, x, y, rfl, ho, h1, h2, hx, hy, h⟩
  have p64 := pow_le64 h2
  have hx' := hx
  have hy' := hy
  obtain ⟨x0, x1⟩ := hx'
  obtain ⟨y0, y1⟩ := hy'
  have cw : CPow 1 (w : Int) := cp1 (by omega) (by omega)
  simp only [ops, List.mem_cons, List.not_mem_nil, or_false] at ho
  refine seq_op fun N hN => ?_
  simp [startD]
  refine ⟨cw, hN _ ?_⟩
  clear hN N
  rcases ho with rfl | rfl | rfl | rfl | rfl | rfl | rfl | rfl | rfl | rfl | rfl | rfl | rfl
  · simp [bin] at h ⊢
    rw [PySem.W.kbt_mask]
    exact h
  · simp [bin] at h ⊢
    rw [PySem.W.kbt_mask]
    exact h
  · simp [bin] at h ⊢
    rw [PySem.W.kbt_mask]
    exact ⟨.inl ⟨by omega, by omega⟩, h⟩
  · simpa [bin] using h
  · simpa [bin] using h
  · simpa [bin] using h
  · simp [bin, inD] at h ⊢
    exact ⟨by decide, _, w, x, y, rfl, by simp, h1, h2, hx, hy, h⟩
  · simp [bin, inD] at h ⊢
    exact ⟨by decide, _, w, x, y, rfl, by simp, h1, h2, hx, hy, h⟩
  · simp [bin, inD] at h ⊢
    exact ⟨by decide, _, w, x, y, rfl, by simp, h1, h2, hx, hy, h⟩
  · simp [bin, inD] at h ⊢
    exact ⟨by decide, _, w, x, y, rfl, by simp, h1, h2, hx, hy, h⟩
  · simp [bin, inD] at h ⊢
    exact ⟨by decide, _, w, x, y, rfl, by simp, h1, h2, hx, hy, h⟩
  · simp [bin, inD] at h ⊢
    exact ⟨by decide, _, w, x, y, rfl, by simp, h1, h2, hx, hy, h⟩
  · simp [bin, inD] at h ⊢
    exact ⟨by decide, _, w, x, y, rfl, by simp, h1, h2, hx, hy, h⟩
def vp__law_cast : VSp := fun rs Φ => ∃ (op : Str) (v w x : Nat), rs = [.d (.str op), .d (.int v), .d (.int w), .d (.int x)] ∧ (op = "trunc" ∨ op = "zext" ∨ op = "sext") ∧ 1 ≤ v ∧ v ≤ 64 ∧ w ≤ 64 ∧ x < 2 ^ v ∧ (op ≠ "trunc" → v ≤ w) ∧ Φ (.d (.int (castI op v w x)))
theorem len__law_cast : ∀ rs Φ, vp__law_cast rs Φ → rs.length = 4 := fun rs Φ ⟨_, _, _, _, e, _⟩ => by rw [e]; rfl
theorem G__law_cast (T : Txt K mg w) : FnOk P w K mg base CX0 2 T.f__law_cast T.fd__law_cast ["op", "v", "w", "x"] (toSp K 4 vp__law_cast) := by
  refine fn_ok T.F__law_cast sc__law_cast fun cdv A outer s H E hr => ⟨_, (pss_cons (ps_if (pt_cmpR op_eq (pv 0) pe_str (nomark _)) (pss_one (ps_ret (pe_op op_and (pe_call (G__law_signed T) hr (by rfl) T.g__law_signed T.F__law_signed.kp T.b__law_signed .nil pass0 (pa_cons (pv 1) (pa_cons (pv 3) pa_nil))) (pe_op op_sub (pe_op op_shl pe_int (pv 2)) pe_int)))) pss_nil)
 (pss_one (ps_ret (pe_op op_and (pv 3) (pe_op op_sub (pe_op op_shl pe_int (pv 2)) pe_int))))), _, fun ex He Hf => (sms_seq (sms_if (smt_t (f1 := false) (sm_op (f1 := false) (f2 := false) opd_eq (sm_var 0) (sm_str _)))
 (sms_ret (sm_op (f1 := false) (f2 := false) (opd_I0 (g' := fun i j => .int (Builtin.bitAnd i j)) fun _ _ => rfl) (sm_call len__law_signed (smq_cons (sm_var 1) (smq_cons (sm_var 3) smq_nil))) (sm_op (f1 := false) (f2 := false) (opd_I0 (g' := fun i j => .int (i - j)) fun _ _ => rfl) (sm_op (f1 := false) (f2 := false) (opd_I (g' := fun i j => .int (i * 2 ^ j.toNat)) fun _ _ => rfl) (sm_int _) (sm_var 2)) (sm_int _))))
 sms_next)
 (sms_ret (sm_op (f1 := false) (f2 := false) (opd_I0 (g' := fun i j => .int (Builtin.bitAnd i j)) fun _ _ => rfl) (sm_var 3) (sm_op (f1 := false) (f2 := false) (opd_I0 (g' := fun i j => .int (i - j)) fun _ _ => rfl) (sm_op (f1 := false) (f2 := false) (opd_I (g' := fun i j => .int (i * 2 ^ j.toNat)) fun _ _ => rfl) (sm_int _) (sm_var 2)) (sm_int _))))), ?_⟩
  rintro rs Φ ⟨op, v, w, x, rfl, ho, h1, h2, h3, hx, hvw, h⟩
  have cw : CPow 1 (w : Int) := cp1 (by omega) (by omega)
  rcases ho with rfl | rfl | rfl
  · simp [castI] at h ⊢
    rw [PySem.W.kbt_mask]
    exact ⟨cw, h⟩
  · simp [castI] at h ⊢
    rw [PySem.W.kbt_mask]
    have := Nat.pow_le_pow_right (n := 2) (by decide) (hvw (by decide))
    have e : (x : Int) % 2 ^ w = (x : Int) := Int.emod_eq_of_lt (Int.natCast_nonneg _) (by rw [← PySem.W.kbt_cast]; exact Int.ofNat_lt.mpr (by omega))
    rw [e]
    exact ⟨cw, h⟩
  · simp [castI] at h ⊢
    refine ⟨v, x, rfl, h1, h2, ?_⟩
    simp
    rw [PySem.W.kbt_mask]
    exact ⟨cw, h⟩


theorem and_bit (x k : Nat) : x &&& 2 ^ k = (x.testBit k).toNat * 2 ^ k := by
  rw [PySem.W.kbt_nat, Nat.testBit_eq_decide_div_mod_eq]
  rcases Nat.mod_two_eq_zero_or_one (x / 2 ^ k) with e | e <;> simp [e]
theorem bit_zero (x k : Nat) : x &&& 2 ^ k = 0 ↔ x.testBit k = false := by
  have := Nat.two_pow_pos k
  rw [and_bit]
  cases x.testBit k <;> simp
theorem bit_same (x y k : Nat) : x &&& 2 ^ k = y &&& 2 ^ k ↔ x.testBit k = y.testBit k := by
  have := Nat.two_pow_pos k
  rw [and_bit, and_bit]
  cases x.testBit k <;> cases y.testBit k <;> simp <;> (try omega)

theorem oLc_q {Q : Nat → Prop} {da : DE} {i : Nat} {de : DE} {δ : Dl} {Φ : List PyData → Prop} (h : ∀ Ψ : PyData → Prop, (∀ n : Nat, n < 1000000 → Q n → Ψ (.int n)) → da δ Ψ) (P : List PyData → Prop) (h0 : P [])
    (hs : ∀ (k : Nat) (acc : List PyData) (Ψ : PyData → Prop), acc.length = k → P acc → (∀ z, P (acc ++ [z]) → Ψ z) → de (δ.set i (some (.d (.int k)))) Ψ) (hΦ : ∀ n acc, Q n → acc.length = n → P acc → Φ acc) : oLc (iR1 da) i dYes de δ Φ := by
  unfold oLc
  refine h _ fun n hn hq => ⟨n, rfl, by omega, by omega, fun k acc => acc.length = k ∧ P acc, ⟨rfl, h0⟩, fun k y acc hy ha => ?_, fun acc ha => ?_⟩
  · obtain ⟨hk, rfl⟩ := rng_get hy
    have hk : k < n := hk
    unfold dYes
    dsimp only
    rw [if_pos rfl]
    rw [show (0 : Int) + (k : Int) = (k : Int) from Int.zero_add _]
    refine hs k acc _ ha.1 ha.2 fun z hz => ⟨?_, ?_, hz⟩
    · rw [ha.1]
      exact Nat.lt_of_lt_of_le (show k < 1000000 by omega) (by decide)
    · rw [List.length_append, ha.1]; rfl
  · rw [rng_len] at ha
    exact hΦ n acc hq ha.1 ha.2
theorem oLc_w {di : DI} {i : Nat} {de : DE} {δ : Dl} {Φ : List PyData → Prop} {xs : List PyData} (hn : xs.length < 1000000) (h : ∀ Ψ : List PyData → Prop, Ψ xs → di δ Ψ) (P : List PyData → Prop) (h0 : P [])
    (hs : ∀ (k : Nat) (y : PyData) (acc : List PyData) (Ψ : PyData → Prop), xs[k]? = some y → acc.length = k → P acc → (∀ z, P (acc ++ [z]) → Ψ z) → de (δ.set i (some (.d y))) Ψ) (hΦ : ∀ acc, acc.length = xs.length → P acc → Φ acc) : oLc di i dYes de δ Φ := by
  unfold oLc
  refine h _ ⟨fun k acc => acc.length = k ∧ P acc, ⟨rfl, h0⟩, fun k y acc hy ha => ?_, fun acc ha => hΦ acc ha.1 ha.2⟩
  unfold dYes
  dsimp only
  rw [if_pos rfl]
  have hk := (List.getElem?_eq_some_iff.mp hy).1
  refine hs k y acc _ hy ha.1 ha.2 fun z hz => ⟨?_, ?_, hz⟩
  · rw [ha.1]
    exact Nat.lt_of_lt_of_le (show k < 1000000 by omega) (by decide)
  · rw [List.length_append, ha.1]; rfl
theorem nl_len (vs : List Nat) : (nl vs).length = vs.length := by simp [nl]
theorem nl_snoc (vs : List Nat) (n : Nat) : nl (vs ++ [n]) = nl vs ++ [.int n] := by simp [nl]
theorem nl_at {vs : List Nat} {k : Nat} {y : PyData} (h : (nl vs)[k]? = some y) : ∃ v ∈ vs, y = .int (v : Int) := by
  rw [nl, List.getElem?_map, List.getElem?_map] at h
  cases e : vs[k]? with
  | none => rw [e] at h; cases h
  | some v => rw [e] at h; exact ⟨v, List.mem_of_getElem? e, (Option.some.inj h).symm⟩
def Ps (w : Nat) (acc : List PyData) : Prop := ∃ vs : List Nat, (∀ v ∈ vs, v < 2 ^ w) ∧ acc = nl vs
theorem ps_snoc {w n : Nat} {acc : List PyData} (h : Ps w acc) (hn : n < 2 ^ w) : Ps w (acc ++ [.int n]) := by
  obtain ⟨vs, hv, rfl⟩ := h
  refine ⟨vs ++ [n], fun v hm => ?_, (nl_snoc vs n).symm⟩
  rcases List.mem_append.mp hm with hm | hm
  · exact hv v hm
  · rw [List.mem_singleton.mp hm]; exact hn
theorem ite_t {p : Prop} {d : Decidable p} {a b : Prop} (h : p) (ha : a) : @ite Prop p d a b := by rw [if_pos h]; exact ha
theorem ite_f {p : Prop} {d : Decidable p} {a b : Prop} (h : ¬ p) (ha : b) : @ite Prop p d a b := by rw [if_neg h]; exact ha

theorem tk_of100 {m : Int} (h : 0 < m) (h2 : m ≤ 100) : Tk m := ⟨h, Nat.lt_of_lt_of_le (show m.natAbs < 2 ^ 7 by omega) (Nat.pow_le_pow_right (by decide) (by decide))⟩
def vp__law_loose : VSp := fun rs Φ => ∃ (r : Rg) (w : Nat), rs = [.drw, .d (rg r), .d (.int w)] ∧ r.l < 2 ^ w ∧ r.h < 2 ^ w ∧ 1 ≤ w ∧ w ≤ 64 ∧ ∀ l h m n : Nat, l ≤ r.l → r.h ≤ h → h < 2 ^ w → Φ (.d (rg ⟨l, h, r.z &&& m, r.o &&& n⟩))
theorem len__law_loose : ∀ rs Φ, vp__law_loose rs Φ → rs.length = 3 := fun rs Φ ⟨_, _, e, _⟩ => by rw [e]; rfl
theorem G__law_loose (T : Txt K mg w) : FnOk P w K mg base CX0 3 T.f__law_loose T.fd__law_loose ["draw", "bounds", "w"] (toSp K 3 vp__law_loose) := by
  refine fn_ok T.F__law_loose sc__law_loose fun cdv A outer s H E hr => ⟨_, (pss_cons (ps_set (i := 3) sc__law_loose.nd rfl (Or.inl rfl) (pe_op op_sub (pe_op op_shl pe_int (pv 2)) pe_int))
 (pss_cons (ps_asg (pv 1) (pg_tup (n := 4) rfl (pgs_cons (pg_name (i := 6) sc__law_loose.nd rfl (Or.inl rfl)) (pgs_cons (pg_name (i := 7) sc__law_loose.nd rfl (Or.inl rfl)) (pgs_cons (pg_name (i := 8) sc__law_loose.nd rfl (Or.inl rfl)) (pgs_cons (pg_name (i := 9) sc__law_loose.nd rfl (Or.inl rfl)) pgs_nil))))))
 (pss_cons (ps_set (i := 4) sc__law_loose.nd rfl (Or.inl rfl) (pe_call (G__law_take T) (hr.mono (by decide)) (by rfl) T.g__law_take T.F__law_take.kp T.b__law_take .nil pass0 (pa_cons (pv 0) (pa_cons pe_int pa_nil))))
 (pss_cons (ps_if (pt_cmpR op_eq (pv 4) pe_int (nomark _)) (pss_one (ps_ret (pv 1))) pss_nil)
 (pss_cons (ps_if (pt_cmpR op_gt (pv 4) pe_int (nomark _)) (pss_cons (ps_set (i := 6) sc__law_loose.nd rfl (Or.inl rfl) (pe_op op_sub (pv 6) (pe_call (G__law_take T) (hr.mono (by decide)) (by rfl) T.g__law_take T.F__law_take.kp T.b__law_take .nil pass0 (pa_cons (pv 0) (pa_cons (pe_op op_add (pe_callB (call_min2 rfl) (by rfl) T.min (by decide +kernel) (pa_cons (pv 6) (pa_cons pe_int pa_nil))) pe_int) pa_nil)))))
 (pss_one (ps_set (i := 7) sc__law_loose.nd rfl (Or.inl rfl) (pe_op op_add (pv 7) (pe_call (G__law_take T) (hr.mono (by decide)) (by rfl) T.g__law_take T.F__law_take.kp T.b__law_take .nil pass0 (pa_cons (pv 0) (pa_cons (pe_op op_add (pe_callB (call_min2 rfl) (by rfl) T.min (by decide +kernel) (pa_cons (pe_op op_sub (pv 3) (pv 7)) (pa_cons pe_int pa_nil))) pe_int) pa_nil))))))) pss_nil)
 (pss_cons (ps_if (pt_cmpR op_eq (pv 4) pe_int (nomark _)) (pss_one (ps_set (i := 6) sc__law_loose.nd rfl (Or.inl rfl) (pe_op op_fdivW (pv 6) (pe_op op_add pe_int (pe_call (G__law_take T) (hr.mono (by decide)) (by rfl) T.g__law_take T.F__law_take.kp T.b__law_take .nil pass0 (pa_cons (pv 0) (pa_cons pe_int pa_nil))))))) pss_nil)
 (pss_cons (ps_set (i := 5) sc__law_loose.nd rfl (Or.inl rfl) (pe_call (G__law_number T) hr (by rfl) T.g__law_number T.F__law_number.kp T.b__law_number .nil pass0 (pa_cons (pv 0) (pa_cons (pv 2) pa_nil))))
 (pss_one (ps_ret (pe_tup (pa_cons (pv 6) (pa_cons (pv 7) (pa_cons (pe_op op_and (pv 8) (pv 5)) (pa_cons (pe_op op_and (pv 9) (pe_op op_shr (pv 5) (pe_call (G__law_take T) (hr.mono (by decide)) (by rfl) T.g__law_take T.F__law_take.kp T.b__law_take .nil pass0 (pa_cons (pv 0) (pa_cons pe_int pa_nil))))) pa_nil)))))))))))))), _, fun ex He Hf => (sms_seq (sms_asg (sm_op (f1 := false) (f2 := false) (opd_I0 (g' := fun i j => .int (i - j)) fun _ _ => rfl) (sm_op (f1 := false) (f2 := false) (opd_I (g' := fun i j => .int (i * 2 ^ j.toNat)) fun _ _ => rfl) (sm_int _) (sm_var 2)) (sm_int _)) (smg_name 3))
 (sms_seq (sms_asg (sm_var 1) (smg_tup (smg_cons (smg_name 6) (smg_cons (smg_name 7) (smg_cons (smg_name 8) (smg_cons (smg_name 9) smg_nil))))))
 (sms_seq (sms_asg (sm_call len__law_take (smq_drw 0 (smq_cons (sm_int _) smq_nil))) (smg_name 4))
 (sms_seq (sms_if (smt_t (f1 := false) (sm_op (f1 := false) (f2 := false) opd_eq (sm_var 4) (sm_int _)))
 (sms_ret (sm_var 1))
 sms_next)
 (sms_seq (sms_if (smt_t (f1 := false) (sm_op (f1 := false) (f2 := false) (opd_I0 (g' := fun i j => .bool (decide (j < i))) fun _ _ => rfl) (sm_var 4) (sm_int _)))
 (sms_seq (sms_asg (sm_op (f1 := false) (f2 := false) (opd_I0 (g' := fun i j => .int (i - j)) fun _ _ => rfl) (sm_var 6) (sm_call len__law_take (smq_drw 0 (smq_cons (sm_op (f1 := false) (f2 := false) (opd_I0 (g' := fun i j => .int (i + j)) fun _ _ => rfl) (sm_cb (f1 := false) cbd_min (sma_cons (sm_var 6) (sma_cons (sm_int _) sma_nil))) (sm_int _)) smq_nil)))) (smg_name 6))
 (sms_asg (sm_op (f1 := false) (f2 := false) (opd_I0 (g' := fun i j => .int (i + j)) fun _ _ => rfl) (sm_var 7) (sm_call len__law_take (smq_drw 0 (smq_cons (sm_op (f1 := false) (f2 := false) (opd_I0 (g' := fun i j => .int (i + j)) fun _ _ => rfl) (sm_cb (f1 := false) cbd_min (sma_cons (sm_op (f1 := false) (f2 := false) (opd_I0 (g' := fun i j => .int (i - j)) fun _ _ => rfl) (sm_var 3) (sm_var 7)) (sma_cons (sm_int _) sma_nil))) (sm_int _)) smq_nil)))) (smg_name 7)))
 sms_next)
 (sms_seq (sms_if (smt_t (f1 := false) (sm_op (f1 := false) (f2 := false) opd_eq (sm_var 4) (sm_int _)))
 (sms_asg (sm_op (f1 := false) (f2 := false) (opd_I (g' := fun i j => .int (i / j)) fun _ _ => rfl) (sm_var 6) (sm_op (f1 := false) (f2 := false) (opd_I0 (g' := fun i j => .int (i + j)) fun _ _ => rfl) (sm_int _) (sm_call len__law_take (smq_drw 0 (smq_cons (sm_int _) smq_nil))))) (smg_name 6))
 sms_next)
 (sms_seq (sms_asg (sm_call len__law_number (smq_drw 0 (smq_cons (sm_var 2) smq_nil))) (smg_name 5))
 (sms_ret (sm_tup (sma_cons (sm_var 6) (sma_cons (sm_var 7) (sma_cons (sm_op (f1 := false) (f2 := false) (opd_I0 (g' := fun i j => .int (Builtin.bitAnd i j)) fun _ _ => rfl) (sm_var 8) (sm_var 5)) (sma_cons (sm_op (f1 := false) (f2 := false) (opd_I0 (g' := fun i j => .int (Builtin.bitAnd i j)) fun _ _ => rfl) (sm_var 9) (sm_op (f1 := false) (f2 := false) (opd_I (g' := fun i j => .int (i / 2 ^ j.toNat)) fun _ _ => rfl) (sm_var 5) (sm_call len__law_take (smq_drw 0 (smq_cons (sm_int _) smq_nil))))) sma_nil))))))))))))), ?_⟩
  rintro rs Φ ⟨r, w, rfl, hrl, hrh, h1, h2, h⟩
  have pw : 0 < 2 ^ w := Nat.two_pow_pos w
  obtain ⟨top, htop⟩ : ∃ top : Nat, top = 2 ^ w - 1 := ⟨_, rfl⟩
  have etop : (2 : Int) ^ w - 1 = (top : Int) := by
    rw [← PySem.W.kbt_cast]
    omega
  have cw : CPow 1 (w : Int) := cp1 (by omega) (by omega)
  have fin : ∀ (L U : Int), 0 ≤ L → L ≤ r.l → (r.h : Int) ≤ U → U ≤ (top : Int) → vp__law_number [R.drw, R.d (.int w)] fun rr => ∃ x, rr.data = .int x ∧ ∀ q : Int, 0 ≤ q → q < 3 → ∃ i, rr.data = .int i ∧ 0 ≤ q ∧ 4 ≤ sizeLine ∧ Φ (RX.d (.tuple [.int L, .int U, .int (Builtin.bitAnd (r.z : Int) x), .int (Builtin.bitAnd (r.o : Int) (i / 2 ^ q.toNat))])) := by
    intro L U hL hL2 hU hU2
    obtain ⟨l, rfl⟩ := Int.eq_ofNat_of_zero_le hL
    obtain ⟨u, rfl⟩ := Int.eq_ofNat_of_zero_le (show 0 ≤ U by omega)
    refine ⟨w, rfl, h1, h2, fun n hn => ⟨n, rfl, fun q q0 q1 => ⟨n, rfl, q0, by decide, ?_⟩⟩⟩
    have e : (n : Int) / 2 ^ q.toNat = ((n / 2 ^ q.toNat : Nat) : Int) := by
      rw [← PySem.W.kbt_cast]
      rfl
    rw [e, bA, bA]
    exact h l u n (n / 2 ^ q.toNat) (by omega) (by omega) (by omega)
  simp [rg, etop]
  first | refine ⟨cw, rfl, _, _, ⟨rfl, rfl⟩, rfl, fun how h0 h5 => ?_⟩ | refine ⟨cw, fun how h0 h5 => ?_⟩
  split
  · have := h r.l r.h r.z r.o (Nat.le_refl _) (Nat.le_refl _) hrh
    rw [Nat.and_self, Nat.and_self] at this
    exact this
  split
  · refine ⟨tk_of100 (by split <;> omega) (by split <;> omega), fun a a0 a1 => ⟨tk_of100 (by split <;> omega) (by split <;> omega), fun b b0 b1 => ?_⟩⟩
    have a2 : a ≤ r.l := by
      split at a1 <;> omega
    have b2 : b ≤ top - r.h := by
      split at b1 <;> omega
    split
    · exact fun c c0 c1 => ⟨cdw (by omega) (by omega), fin _ _ (Int.ediv_nonneg (by omega) (by omega)) (Int.le_trans (Int.ediv_le_self _ (by omega)) (by omega)) (by omega) (by omega)⟩
    · exact fin _ _ (by omega) (by omega) (by omega) (by omega)
  split
  · exact fun c c0 c1 => ⟨cdw (by omega) (by omega), fin _ _ (Int.ediv_nonneg (by omega) (by omega)) (Int.ediv_le_self _ (by omega)) (by omega) (by omega)⟩
  · exact fin _ _ (by omega) (by omega) (by omega) (by omega)

instance memDec (v : Nat) (a : Rg) : Decidable (Mem v a) := by unfold Mem; infer_instance
def vp__law_member : VSp := fun rs Φ => ∃ (a : Rg) (v : Nat), rs = [.d (rg a), .d (.int v)] ∧ Φ (.d (.bool (decide (Mem v a))))
theorem len__law_member : ∀ rs Φ, vp__law_member rs Φ → rs.length = 2 := fun rs Φ ⟨_, _, e, _⟩ => by rw [e]; rfl
theorem G__law_member (T : Txt K mg w) : FnOk P w K mg base CX0 1 T.f__law_member T.fd__law_member ["bounds", "value"] (toSp K 2 vp__law_member) := by
  refine fn_ok T.F__law_member sc__law_member fun cdv A outer s H E hr => ⟨_, (pss_cons (ps_asg (pv 0) (pg_tup (n := 4) rfl (pgs_cons (pg_name (i := 2) sc__law_member.nd rfl (Or.inl rfl)) (pgs_cons (pg_name (i := 3) sc__law_member.nd rfl (Or.inl rfl)) (pgs_cons (pg_name (i := 4) sc__law_member.nd rfl (Or.inl rfl)) (pgs_cons (pg_name (i := 5) sc__law_member.nd rfl (Or.inl rfl)) pgs_nil))))))
 (pss_one (ps_ret (pe_and (pe_chain op_le op_le (pv 2) (pv 1) (pv 3)) (pe_and (pe_cmpR op_eq (pe_op op_and (pv 1) (pv 4)) pe_int (nomark _)) (pe_one (pe_cmpR op_eq (pe_op op_and (pv 1) (pv 5)) (pv 5) (nomark _)))))))), _, fun ex He Hf => (sms_seq (sms_asg (sm_var 0) (smg_tup (smg_cons (smg_name 2) (smg_cons (smg_name 3) (smg_cons (smg_name 4) (smg_cons (smg_name 5) smg_nil))))))
 (sms_ret (sm_and (f1 := false) (sm_chain (f1 := false) (f2 := false) (f3 := false) (opd_I0 (g' := fun i j => .bool (decide (i ≤ j))) fun _ _ => rfl) (opd_I0 (g' := fun i j => .bool (decide (i ≤ j))) fun _ _ => rfl) (sm_var 2) (sm_var 1) (sm_var 3)) (sm_and (f1 := false) (sm_op (f1 := false) (f2 := false) opd_eq (sm_op (f1 := false) (f2 := false) (opd_I0 (g' := fun i j => .int (Builtin.bitAnd i j)) fun _ _ => rfl) (sm_var 1) (sm_var 4)) (sm_int _)) (sm_op (f1 := false) (f2 := false) opd_eq (sm_op (f1 := false) (f2 := false) (opd_I0 (g' := fun i j => .int (Builtin.bitAnd i j)) fun _ _ => rfl) (sm_var 1) (sm_var 5)) (sm_var 5)))))), ?_⟩
  rintro rs Φ ⟨a, v, rfl, h⟩
  have inj : ∀ x y : Nat, ((x : Int) = (y : Int)) = (x = y) := fun x y => propext Int.ofNat_inj
  simp [startD, rg, bA, inj]
  by_cases c1 : a.l ≤ v
  · by_cases c2 : v ≤ a.h
    · by_cases c3 : v &&& a.z = 0
      · by_cases c4 : v &&& a.o = a.o
        · rw [decide_eq_true ⟨c1, c2, c3, c4⟩] at h
          simpa [c1, c2, c3, c4] using h
        · rw [decide_eq_false (fun c => c4 c.2.2.2)] at h
          simpa [c1, c2, c3, c4] using h
      · rw [decide_eq_false (fun c => c3 c.2.2.1)] at h
        simpa [c1, c2, c3] using h
    · rw [decide_eq_false (fun c => c2 c.2.1)] at h
      simpa [c1, c2] using h
  · rw [decide_eq_false (fun c => c1 c.1)] at h
    simpa [c1] using h


def vp__law_is_range : VSp := fun rs Φ => ∃ (a : Rg) (w : Nat), rs = [.d (rg a), .d (.int w)] ∧ InW w a ∧ w ≤ 64 ∧ a.l ≤ a.h ∧ a.z &&& a.o = 0 ∧ Φ (.d (.bool true))
theorem len__law_is_range : ∀ rs Φ, vp__law_is_range rs Φ → rs.length = 2 := fun rs Φ ⟨_, _, e, _⟩ => by rw [e]; rfl
theorem pw_cast (w : Nat) : (2 : Int) ^ w = ((2 ^ w : Nat) : Int) := (PySem.W.kbt_cast w).symm
theorem G__law_is_range (T : Txt K mg w) : FnOk P w K mg base CX0 2 T.f__law_is_range T.fd__law_is_range ["bounds", "w"] (toSp K 2 vp__law_is_range) := by
  refine fn_ok T.F__law_is_range sc__law_is_range fun cdv A outer s H E hr => ⟨_, (pss_cons (ps_if (PW.pt (pw_or (pt_not (pt_val (pe_callB (kx_isi (K := K) rfl) (by rfl) T.isinstance (by decide +kernel) (pa_cons (pv 0) (pa_cons (pe_bltn (v := .ty "tuple") (by rfl) T.tuple (by decide +kernel) rfl) pa_nil))))) (pw_or1 (pt_cmpR op_ne (pe_callB (kx_len (K := K) rfl) (by rfl) T.len PySem.boot_len (pa_cons (pv 0) pa_nil)) pe_int (nomark _))))) (pss_one (ps_ret pe_bl)) pss_nil)
 (pss_cons (ps_for PassesOwn.never rfl ((kpi_tup (K := K) rfl (pv 0))) (pg_name (i := 2) sc__law_is_range.nd rfl (Or.inl rfl)) (pss_one (ps_if (PW.pt (pw_or (pt_not (pt_val (pe_call (G__law_whole T) hr (by rfl) T.g__law_whole T.F__law_whole.kp T.b__law_whole .nil pass0 (pa_cons (pv 2) pa_nil)))) (pw_or (pt_cmpR op_lt (pv 2) pe_int (nomark _)) (pw_or1 (pt_cmpR op_ge (pv 2) (pe_op op_shl pe_int (pv 1)) (nomark _)))))) (pss_one (ps_ret pe_bl)) pss_nil)))
 (pss_one (ps_ret (pe_and (pe_cmpR op_le (pe_ix (kx_seq (K := K) rfl) (pv 0) pe_int (fun _ _ => rfl)) (pe_ix (kx_seq (K := K) rfl) (pv 0) pe_int (fun _ _ => rfl)) (nomark _)) (pe_one (pe_cmpR op_eq (pe_op op_and (pe_ix (kx_seq (K := K) rfl) (pv 0) pe_int (fun _ _ => rfl)) (pe_ix (kx_seq (K := K) rfl) (pv 0) pe_int (fun _ _ => rfl))) pe_int (nomark _)))))))), _, fun ex He Hf => (sms_seq (sms_if (smt_or (smt_not (smt_b (f1 := false) (sm_isi (f1 := false) "tuple" (sm_var 0)))) (smt_t (f1 := false) (sm_op (f1 := false) (f2 := false) opd_ne (sm_cb (f1 := false) cbd_len (sma_cons (sm_var 0) sma_nil)) (sm_int _))))
 (sms_ret (sm_bl _))
 sms_next)
 (sms_seq (sms_for (smi_tup (sm_var 0)) (smg_name 2)
 (sms_if (smt_or (smt_not (smt_b (f1 := false) (sm_call len__law_whole (smq_cons (sm_var 2) smq_nil)))) (smt_or (smt_t (f1 := false) (sm_op (f1 := false) (f2 := false) (opd_I0 (g' := fun i j => .bool (decide (i < j))) fun _ _ => rfl) (sm_var 2) (sm_int _))) (smt_t (f1 := false) (sm_op (f1 := false) (f2 := false) (opd_I0 (g' := fun i j => .bool (decide (j ≤ i))) fun _ _ => rfl) (sm_var 2) (sm_op (f1 := false) (f2 := false) (opd_I (g' := fun i j => .int (i * 2 ^ j.toNat)) fun _ _ => rfl) (sm_int _) (sm_var 1))))))
 (sms_ret (sm_bl _))
 sms_next))
 (sms_ret (sm_and (f1 := false) (sm_op (f1 := false) (f2 := false) (opd_I0 (g' := fun i j => .bool (decide (i ≤ j))) fun _ _ => rfl) (sm_ix (f2 := false) (sm_var 0) (sm_int _)) (sm_ix (f2 := false) (sm_var 0) (sm_int _))) (sm_op (f1 := false) (f2 := false) opd_eq (sm_op (f1 := false) (f2 := false) (opd_I0 (g' := fun i j => .int (Builtin.bitAnd i j)) fun _ _ => rfl) (sm_ix (f2 := false) (sm_var 0) (sm_int _)) (sm_ix (f2 := false) (sm_var 0) (sm_int _))) (sm_int _)))))), ?_⟩
  rintro rs Φ ⟨a, w, rfl, ha, hw, hlh, hzo, h⟩
  refine seq_op fun N hN => ?_
  refine dIfS_two (fun b => b = false) (fun Ψ hΨ => ?_) (fun hb => by cases hb) (fun _ => ?_)
  · simp [startD, rg, tyD]
    exact hΨ _ rfl
  simp only [dNext]
  refine hN _ ?_
  clear hN N
  refine seq_op fun N hN => ?_
  obtain ⟨I, hI⟩ : ∃ I : Nat → Dl → Prop, ∀ k δ, I k δ ↔ ∃ y : Option R, δ = [some (.d (rg a)), some (.d (.int w)), y] := ⟨_, fun _ _ => Iff.rfl⟩
  refine dFor_w (xs := nl [a.l, a.h, a.z, a.o]) (fun Ψ h => by simpa [startD, rg, nl] using h) I ((hI _ _).mpr ⟨none, rfl⟩) (fun k z δ hz hJ => ?_) (fun δ hJ => ?_)
  · obtain ⟨y, rfl⟩ := (hI _ _).mp hJ
    obtain ⟨v, hv, rfl⟩ : ∃ v ∈ [a.l, a.h, a.z, a.o], z = .int (v : Int) := by
      rw [nl, List.getElem?_map, List.getElem?_map] at hz
      cases e : [a.l, a.h, a.z, a.o][k]? with
      | none => rw [e] at hz; cases hz
      | some v => rw [e] at hz; exact ⟨v, List.mem_of_getElem? e, (Option.some.inj hz).symm⟩
    have hvw : v < 2 ^ w := by
      simp at hv
      rcases hv with rfl | rfl | rfl | rfl
      · exact ha.1
      · exact ha.2.1
      · exact ha.2.2.1
      · exact ha.2.2.2
    refine dIfS_two (fun b => b = false) (fun Ψ hΨ => ?_) (fun hb => by cases hb) (fun _ => ?_)
    · simp
      refine ⟨v, rfl, ?_⟩
      have n1 : ¬ (2 : Int) ^ w ≤ (v : Int) := by rw [pw_cast]; omega
      have n2 : ¬ (v : Int) < 0 := by omega
      simp [n1, n2]
      exact ⟨cp1 (by omega) (by omega), hΨ _ rfl⟩
    simp only [dNext]
    exact (hI _ _).mpr ⟨_, rfl⟩
  obtain ⟨y, rfl⟩ := (hI _ _).mp hJ
  refine hN _ ?_
  have c1 : (a.l : Int) ≤ (a.h : Int) := by omega
  simp [rg, bA, hzo, hlh]
  exact h
def tzB (w : Nat) (vs : List Nat) : Nat := vs.foldl (fun z v => z &&& (2 ^ w - 1 - v)) (2 ^ w - 1)
def to' (w : Nat) (vs : List Nat) : Nat := vs.foldl (fun o v => o &&& v) (2 ^ w - 1)
theorem tzB_snoc (w : Nat) (vs : List Nat) (v : Nat) : tzB w (vs ++ [v]) = tzB w vs &&& (2 ^ w - 1 - v) := by unfold tzB; rw [List.foldl_append]; rfl
theorem to_snoc (w : Nat) (vs : List Nat) (v : Nat) : to' w (vs ++ [v]) = to' w vs &&& v := by unfold to'; rw [List.foldl_append]; rfl
theorem nl_getk {vs : List Nat} {k : Nat} {y : PyData} (h : (nl vs)[k]? = some y) : ∃ v : Nat, vs[k]? = some v ∧ y = .int (v : Int) := by
  rw [nl, List.getElem?_map, List.getElem?_map] at h
  cases e : vs[k]? with
  | none => rw [e] at h; cases h
  | some v => rw [e] at h; exact ⟨v, rfl, (Option.some.inj h).symm⟩
theorem nl_len' (vs : List Nat) : (nl vs).length = vs.length := by simp [nl]
def vp__law_tight : VSp := fun rs Φ => ∃ (vs : List Nat) (w : Nat), rs = [.d (.list (nl vs)), .d (.int w)] ∧ 0 < vs.length ∧ (∀ v ∈ vs, v < 2 ^ w) ∧ w ≤ 64 ∧ ∀ m M : Nat, m ∈ vs → (∀ y ∈ vs, m ≤ y) → M ∈ vs → (∀ y ∈ vs, y ≤ M) → Φ (.d (rg ⟨m, M, tzB w vs, to' w vs⟩))
theorem len__law_tight : ∀ rs Φ, vp__law_tight rs Φ → rs.length = 2 := fun rs Φ ⟨_, _, e, _⟩ => by rw [e]; rfl
theorem G__law_tight (T : Txt K mg w) : FnOk P w K mg base CX0 1 T.f__law_tight T.fd__law_tight ["values", "w"] (toSp K 2 vp__law_tight) := by
  refine fn_ok T.F__law_tight sc__law_tight fun cdv A outer s H E hr => ⟨_, (pss_cons (ps_set (i := 2) sc__law_tight.nd rfl (Or.inl rfl) (pe_op op_sub (pe_op op_shl pe_int (pv 1)) pe_int))
 (pss_cons (ps_set (i := 3) sc__law_tight.nd rfl (Or.inl rfl) (pv 2))
 (pss_cons (ps_set (i := 4) sc__law_tight.nd rfl (Or.inl rfl) (pv 2))
 (pss_cons (ps_for PassesOwn.never rfl ((kpi_list (K := K) rfl (pv 0))) (pg_name (i := 5) sc__law_tight.nd rfl (Or.inl rfl)) (pss_cons (ps_set (i := 3) sc__law_tight.nd rfl (Or.inl rfl) (pe_op op_and (pv 3) (pe_op op_sub (pv 2) (pv 5))))
 (pss_one (ps_set (i := 4) sc__law_tight.nd rfl (Or.inl rfl) (pe_op op_and (pv 4) (pv 5))))))
 (pss_one (ps_ret (pe_tup (pa_cons (pe_callB (cr_min rfl) (by rfl) T.min (by decide +kernel) (pa_cons (pv 0) pa_nil)) (pa_cons (pe_callB (cr_max rfl) (by rfl) T.max (by decide +kernel) (pa_cons (pv 0) pa_nil)) (pa_cons (pv 3) (pa_cons (pv 4) pa_nil))))))))))), _, fun ex He Hf => (sms_seq (sms_asg (sm_op (f1 := false) (f2 := false) (opd_I0 (g' := fun i j => .int (i - j)) fun _ _ => rfl) (sm_op (f1 := false) (f2 := false) (opd_I (g' := fun i j => .int (i * 2 ^ j.toNat)) fun _ _ => rfl) (sm_int _) (sm_var 1)) (sm_int _)) (smg_name 2))
 (sms_seq (sms_asg (sm_var 2) (smg_name 3))
 (sms_seq (sms_asg (sm_var 2) (smg_name 4))
 (sms_seq (sms_for (smi_list (sm_var 0)) (smg_name 5)
 (sms_seq (sms_asg (sm_op (f1 := false) (f2 := false) (opd_I0 (g' := fun i j => .int (Builtin.bitAnd i j)) fun _ _ => rfl) (sm_var 3) (sm_op (f1 := false) (f2 := false) (opd_I0 (g' := fun i j => .int (i - j)) fun _ _ => rfl) (sm_var 2) (sm_var 5))) (smg_name 3))
 (sms_asg (sm_op (f1 := false) (f2 := false) (opd_I0 (g' := fun i j => .int (Builtin.bitAnd i j)) fun _ _ => rfl) (sm_var 4) (sm_var 5)) (smg_name 4))))
 (sms_ret (sm_tup (sma_cons (sm_cb (f1 := false) cbd_minL (sma_cons (sm_var 0) sma_nil)) (sma_cons (sm_cb (f1 := false) cbd_maxL (sma_cons (sm_var 0) sma_nil)) (sma_cons (sm_var 3) (sma_cons (sm_var 4) sma_nil)))))))))), ?_⟩
  rintro rs Φ ⟨vs, w, rfl, hl, hv, h2, h⟩
  refine seq_op fun N hN => ?_
  simp [startD]
  rw [pw_nat]
  refine ⟨cp1 (by omega) (by omega), hN _ ?_⟩
  clear hN N
  refine seq_op fun N hN => ?_
  simp
  refine hN _ ?_
  clear hN N
  refine seq_op fun N hN => ?_
  simp
  refine hN _ ?_
  clear hN N
  refine seq_op fun N hN => ?_
  obtain ⟨I, hI⟩ : ∃ I : Nat → Dl → Prop, ∀ k δ, I k δ ↔ ∃ y : Option R, δ = [some (.d (.list (nl vs))), some (.d (.int w)), some (.d (.int ((2 ^ w - 1 : Nat) : Int))), some (.d (.int (tzB w (vs.take k) : Nat))), some (.d (.int (to' w (vs.take k) : Nat))), y] := ⟨_, fun _ _ => Iff.rfl⟩
  refine dFor_w (xs := nl vs) (fun Ψ h => by simpa using h) I ((hI _ _).mpr ⟨none, rfl⟩) (fun k z δ hz hJ => ?_) (fun δ hJ => ?_)
  · obtain ⟨y, rfl⟩ := (hI _ _).mp hJ
    obtain ⟨v, hvk, rfl⟩ := nl_getk hz
    have hvw := hv v (List.mem_of_getElem? hvk)
    have ec : ((2 ^ w - 1 : Nat) : Int) - (v : Int) = ((2 ^ w - 1 - v : Nat) : Int) := by omega
    have et : vs.take (k + 1) = vs.take k ++ [v] := by rw [List.take_add_one, hvk]; rfl
    simp [ec, bA]
    exact (hI _ _).mpr ⟨some (.d (.int v)), by rw [et, tzB_snoc, to_snoc]⟩
  · obtain ⟨y, rfl⟩ := (hI _ _).mp hJ
    rw [nl_len', List.take_length]
    refine hN _ ?_
    simp
    refine ⟨_, rfl, by rw [List.length_map]; exact hl, fun m hm1 hm2 => ⟨_, rfl, by rw [List.length_map]; exact hl, fun M hM1 hM2 => ⟨by decide, ?_⟩⟩⟩
    obtain ⟨m, m1, rfl⟩ := List.mem_map.mp hm1
    obtain ⟨M, M1, rfl⟩ := List.mem_map.mp hM1
    exact h m M m1 (fun y hy => Int.ofNat_le.mp (hm2 _ (List.mem_map_of_mem hy))) M1 fun y hy => Int.ofNat_le.mp (hM2 _ (List.mem_map_of_mem hy))
theorem rev_ind {P : List Nat → Prop} (h0 : P []) (hs : ∀ vs x, P vs → P (vs ++ [x])) (vs : List Nat) : P vs := by
  have : ∀ us : List Nat, P us.reverse := fun us => by
    induction us with
    | nil => exact h0
    | cons x us ih => rw [List.reverse_cons]; exact hs _ _ ih
  have h := this vs.reverse
  rw [List.reverse_reverse] at h
  exact h
theorem tzB_le (w : Nat) : ∀ vs : List Nat, tzB w vs ≤ 2 ^ w - 1 ∧ ∀ v ∈ vs, v < 2 ^ w → v &&& tzB w vs = 0 := by
  refine rev_ind ⟨Nat.le_refl _, fun _ h => nomatch h⟩ fun vs x ih => ?_
  · rw [tzB_snoc]
    refine ⟨Nat.le_trans Nat.and_le_left ih.1, fun v hv hw => ?_⟩
    rcases List.mem_append.mp hv with hv | hv
    · exact and_z (ih.2 v hv hw)
    · obtain rfl := List.mem_singleton.mp hv
      rw [Nat.and_comm (tzB w vs), ← Nat.and_assoc, and_comp hw, Nat.zero_and]
theorem to_le (w : Nat) : ∀ vs : List Nat, to' w vs ≤ 2 ^ w - 1 ∧ ∀ v ∈ vs, v &&& to' w vs = to' w vs := by
  refine rev_ind ⟨Nat.le_refl _, fun _ h => nomatch h⟩ fun vs x ih => ?_
  · rw [to_snoc]
    refine ⟨Nat.le_trans Nat.and_le_left ih.1, fun v hv => ?_⟩
    rcases List.mem_append.mp hv with hv | hv
    · exact and_o (ih.2 v hv)
    · obtain rfl := List.mem_singleton.mp hv
      rw [Nat.and_comm (to' w vs), ← Nat.and_assoc, Nat.and_self]
theorem mem_disj {v : Nat} {a : Rg} (h : Mem v a) : a.l ≤ a.h ∧ a.z &&& a.o = 0 := by
  refine ⟨Nat.le_trans h.1 h.2.1, dis_iff.mpr fun k hk => ?_⟩
  cases e : a.o.testBit k with
  | false => rfl
  | true => rw [dis_iff.mp h.2.2.1 k (sup_iff.mp h.2.2.2 k e)] at hk; cases hk
/-- what a looser range keeps -/
theorem loose_ok {w : Nat} {r : Rg} {l u m n : Nat} (hr : InW w r) (h1 : l ≤ r.l) (h2 : r.h ≤ u) (h3 : u < 2 ^ w) : InW w ⟨l, u, r.z &&& m, r.o &&& n⟩ ∧ ∀ v, Mem v r → Mem v ⟨l, u, r.z &&& m, r.o &&& n⟩ :=
  ⟨⟨Nat.lt_of_le_of_lt h1 hr.1, h3, Nat.lt_of_le_of_lt Nat.and_le_left hr.2.2.1, Nat.lt_of_le_of_lt Nat.and_le_left hr.2.2.2⟩, fun v hv => ⟨Nat.le_trans h1 hv.1, Nat.le_trans hv.2.1 h2, and_z hv.2.2.1, and_o hv.2.2.2⟩⟩
theorem tight_ok {w : Nat} {vs : List Nat} {m M : Nat} (hv : ∀ v ∈ vs, v < 2 ^ w) (m1 : m ∈ vs) (m2 : ∀ y ∈ vs, m ≤ y) (M1 : M ∈ vs) (M2 : ∀ y ∈ vs, y ≤ M) : InW w ⟨m, M, tzB w vs, to' w vs⟩ ∧ ∀ v ∈ vs, Mem v ⟨m, M, tzB w vs, to' w vs⟩ := by
  have hp := Nat.two_pow_pos w
  have h1 := (tzB_le w vs).1
  have h2 := (to_le w vs).1
  exact ⟨⟨hv m m1, hv M M1, by show tzB w vs < _; omega, by show to' w vs < _; omega⟩, fun v hm => ⟨m2 v hm, M2 v hm, (tzB_le w vs).2 v hm (hv v hm), (to_le w vs).2 v hm⟩⟩


theorem bit_at (x k : Nat) : (x : Int) / 2 ^ k % 2 = (if x.testBit k = true then 1 else 0) := by
  have e : (x : Int) / 2 ^ k = ((x / 2 ^ k : Nat) : Int) := by push_cast; rfl
  rw [e, Nat.testBit_eq_decide_div_mod_eq]
  rcases Nat.mod_two_eq_zero_or_one (x / 2 ^ k) with h | h
  · rw [h]; simp; omega
  · rw [h]; simp; omega
theorem shr_iff {l h k : Nat} : (l : Int) / 2 ^ k = (h : Int) / 2 ^ k ↔ bitN (l ^^^ h) ≤ k := by
  have c : ∀ x : Nat, (x : Int) / 2 ^ k = ((x / 2 ^ k : Nat) : Int) := fun x => by push_cast; rfl
  rw [c, c, Int.ofNat_inj]
  constructor
  · intro e
    refine bits_le ?_
    have : (l ^^^ h) >>> k = 0 := by
      rw [Nat.shiftRight_xor_distrib, Nat.shiftRight_eq_div_pow, Nat.shiftRight_eq_div_pow, e, Nat.xor_self]
    rw [Nat.shiftRight_eq_div_pow] at this
    exact (Nat.div_eq_zero_iff_lt (Nat.two_pow_pos k)).mp this
  · intro hb
    have hx := Nat.lt_of_lt_of_le (bits_bd (l ^^^ h)) (Nat.pow_le_pow_right (n := 2) (by decide) hb)
    have : (l ^^^ h) >>> k = 0 := by rw [Nat.shiftRight_eq_div_pow]; exact Nat.div_eq_of_lt hx
    rw [Nat.shiftRight_xor_distrib] at this
    rw [← Nat.shiftRight_eq_div_pow, ← Nat.shiftRight_eq_div_pow]
    refine Nat.eq_of_testBit_eq fun i => ?_
    have := congrArg (fun n => n.testBit i) this
    simp only [Nat.testBit_xor, Nat.zero_testBit] at this
    revert this
    cases (l >>> k).testBit i <;> cases (h >>> k).testBit i <;> simp
def Zk (a : Rg) (k z : Nat) : Prop := ∀ j, z.testBit j = (a.z.testBit j || (decide (j < k) && decide (bitN (a.l ^^^ a.h) ≤ j) && !a.l.testBit j))
def Ok (a : Rg) (k o : Nat) : Prop := ∀ j, o.testBit j = (a.o.testBit j || (decide (j < k) && decide (bitN (a.l ^^^ a.h) ≤ j) && a.l.testBit j))
theorem zk_step {a : Rg} {k z : Nat} (h : Zk a k z) : Zk a (k + 1) (if bitN (a.l ^^^ a.h) ≤ k ∧ a.l.testBit k = false then z ||| 2 ^ k else z) := fun j => by
  by_cases e : j = k
  · subst e
    by_cases c1 : bitN (a.l ^^^ a.h) ≤ j
    · cases c2 : a.l.testBit j with
      | false => rw [if_pos ⟨c1, rfl⟩, Nat.testBit_or, Nat.testBit_two_pow]; simp [c1]
      | true => rw [if_neg (fun q => by cases q.2), h j]; simp
    · rw [if_neg (fun q => c1 q.1), h j]; simp [c1]
  · have e1 : decide (j < k + 1) = decide (j < k) := decide_eq_decide.mpr (by omega)
    rw [e1, ← h j]
    split
    · rw [Nat.testBit_or, Nat.testBit_two_pow, decide_eq_false (fun q => e q.symm), Bool.or_false]
    · rfl
theorem ok_step {a : Rg} {k o : Nat} (h : Ok a k o) : Ok a (k + 1) (if bitN (a.l ^^^ a.h) ≤ k ∧ a.l.testBit k = true then o ||| 2 ^ k else o) := fun j => by
  by_cases e : j = k
  · subst e
    by_cases c1 : bitN (a.l ^^^ a.h) ≤ j
    · cases c2 : a.l.testBit j with
      | true => rw [if_pos ⟨c1, rfl⟩, Nat.testBit_or, Nat.testBit_two_pow]; simp [c1]
      | false => rw [if_neg (fun q => by cases q.2), h j]; simp
    · rw [if_neg (fun q => c1 q.1), h j]; simp [c1]
  · have e1 : decide (j < k + 1) = decide (j < k) := decide_eq_decide.mpr (by omega)
    rw [e1, ← h j]
    split
    · rw [Nat.testBit_or, Nat.testBit_two_pow, decide_eq_false (fun q => e q.symm), Bool.or_false]
    · rfl
theorem zk_end {a : Rg} {w z : Nat} (ha : InW w a) (h : Zk a w z) : z = zOf w a := Nat.eq_of_testBit_eq fun j => by rw [h j, z_bit ha]
theorem ok_end {a : Rg} {w o : Nat} (ha : InW w a) (h : Ok a w o) : o = oOf w a := Nat.eq_of_testBit_eq fun j => by rw [h j, o_bit ha]
theorem pw_nat' (w : Nat) : (2 : Int) ^ w = ((2 ^ w : Nat) : Int) := (PySem.W.kbt_cast w).symm
def vp__law_turn : VSp := fun rs Φ => (∃ (w : Nat) (x : Ri), rs = [.d (ri x), .d (.int w)] ∧ 1 ≤ w ∧ w ≤ 64 ∧ x.h < x.l ∧ Φ (.d .none)) ∨ ∃ (w : Nat) (a : Rg), rs = [.d (rg a), .d (.int w)] ∧ 1 ≤ w ∧ w ≤ 64 ∧ InW w a ∧ Φ (.d (rgO (tgt w a)))
theorem len__law_turn : ∀ rs Φ, vp__law_turn rs Φ → rs.length = 2 := fun rs Φ h => by
  rcases h with ⟨_, _, e, _⟩ | ⟨_, _, e, _⟩ <;> rw [e] <;> rfl
theorem G__law_turn (T : Txt K mg w) : FnOk P w K mg base CX0 1 T.f__law_turn T.fd__law_turn ["bounds", "w"] (toSp K 2 vp__law_turn) := by
  refine fn_ok T.F__law_turn sc__law_turn fun cdv A outer s H E hr => ⟨_, (pss_cons (ps_asg (pv 0) (pg_tup (n := 4) rfl (pgs_cons (pg_name (i := 4) sc__law_turn.nd rfl (Or.inl rfl)) (pgs_cons (pg_name (i := 5) sc__law_turn.nd rfl (Or.inl rfl)) (pgs_cons (pg_name (i := 6) sc__law_turn.nd rfl (Or.inl rfl)) (pgs_cons (pg_name (i := 7) sc__law_turn.nd rfl (Or.inl rfl)) pgs_nil))))))
 (pss_cons (ps_set (i := 2) sc__law_turn.nd rfl (Or.inl rfl) (pe_op op_sub (pe_op op_shl pe_int (pv 1)) pe_int))
 (pss_cons (ps_if (PW.pt (pw_or (pt_cmpR op_gt (pv 4) (pv 5) (nomark _)) (pw_or1 (pt_cmpR op_ne (pe_op op_and (pv 6) (pv 7)) pe_int (nomark _))))) (pss_one (ps_ret pe_non)) pss_nil)
 (pss_cons (ps_for PassesOwn.never rfl (pi_range1 rfl T.range (pa_cons (pv 1) pa_nil)) (pg_name (i := 3) sc__law_turn.nd rfl (Or.inl rfl)) (pss_one (ps_if (pt_cmpR op_eq (pe_op op_shr (pv 4) (pv 3)) (pe_op op_shr (pv 5) (pv 3)) (nomark _)) (pss_one (ps_if (pt_cmpR op_eq (pe_op op_mod (pe_callTy call_int1 (by rfl) T.int (by decide +kernel) (pa_cons (pe_op op_shr (pv 4) (pv 3)) pa_nil)) pe_int) pe_int (nomark _)) (pss_one (ps_set (i := 7) sc__law_turn.nd rfl (Or.inl rfl) (pe_op op_or (pv 7) (pe_op op_shl pe_int (pv 3))))) (pss_one (ps_set (i := 6) sc__law_turn.nd rfl (Or.inl rfl) (pe_op op_or (pv 6) (pe_op op_shl pe_int (pv 3))))))) pss_nil)))
 (pss_cons (ps_if (pt_cmpR op_ne (pe_op op_and (pv 6) (pv 7)) pe_int (nomark _)) (pss_one (ps_ret pe_non)) pss_nil)
 (pss_cons (ps_set (i := 4) sc__law_turn.nd rfl (Or.inl rfl) (pe_callB (call_max2 rfl) (by rfl) T.max (by decide +kernel) (pa_cons (pv 4) (pa_cons (pv 7) pa_nil))))
 (pss_cons (ps_set (i := 5) sc__law_turn.nd rfl (Or.inl rfl) (pe_callB (call_min2 rfl) (by rfl) T.min (by decide +kernel) (pa_cons (pv 5) (pa_cons (pe_op op_sub (pv 2) (pv 6)) pa_nil))))
 (pss_cons (ps_if (pt_cmpR op_gt (pv 4) (pv 5) (nomark _)) (pss_one (ps_ret pe_non)) pss_nil)
 (pss_cons (ps_if (pt_cmpR op_eq (pv 4) (pv 5) (nomark _)) (pss_cons (ps_if (PW.pt (pw_or (pt_cmpR op_ne (pe_op op_and (pv 4) (pv 6)) pe_int (nomark _)) (pw_or1 (pt_cmpR op_ne (pe_op op_and (pv 4) (pv 7)) (pv 7) (nomark _))))) (pss_one (ps_ret pe_non)) pss_nil)
 (pss_one (ps_ret (pe_tup (pa_cons (pv 4) (pa_cons (pv 4) (pa_cons (pe_op op_sub (pv 2) (pv 4)) (pa_cons (pv 4) pa_nil)))))))) pss_nil)
 (pss_one (ps_ret (pe_tup (pa_cons (pv 4) (pa_cons (pv 5) (pa_cons (pv 6) (pa_cons (pv 7) pa_nil)))))))))))))))), _, fun ex He Hf => (sms_seq (sms_asg (sm_var 0) (smg_tup (smg_cons (smg_name 4) (smg_cons (smg_name 5) (smg_cons (smg_name 6) (smg_cons (smg_name 7) smg_nil))))))
 (sms_seq (sms_asg (sm_op (f1 := false) (f2 := false) (opd_I0 (g' := fun i j => .int (i - j)) fun _ _ => rfl) (sm_op (f1 := false) (f2 := false) (opd_I (g' := fun i j => .int (i * 2 ^ j.toNat)) fun _ _ => rfl) (sm_int _) (sm_var 1)) (sm_int _)) (smg_name 2))
 (sms_seq (sms_if (smt_or (smt_t (f1 := false) (sm_op (f1 := false) (f2 := false) (opd_I0 (g' := fun i j => .bool (decide (j < i))) fun _ _ => rfl) (sm_var 4) (sm_var 5))) (smt_t (f1 := false) (sm_op (f1 := false) (f2 := false) opd_ne (sm_op (f1 := false) (f2 := false) (opd_I0 (g' := fun i j => .int (Builtin.bitAnd i j)) fun _ _ => rfl) (sm_var 6) (sm_var 7)) (sm_int _))))
 (sms_ret sm_non)
 sms_next)
 (sms_seq (sms_for (smi_rng1 (f1 := false) (sm_var 1)) (smg_name 3)
 (sms_if (smt_t (f1 := false) (sm_op (f1 := false) (f2 := false) opd_eq (sm_op (f1 := false) (f2 := false) (opd_I (g' := fun i j => .int (i / 2 ^ j.toNat)) fun _ _ => rfl) (sm_var 4) (sm_var 3)) (sm_op (f1 := false) (f2 := false) (opd_I (g' := fun i j => .int (i / 2 ^ j.toNat)) fun _ _ => rfl) (sm_var 5) (sm_var 3))))
 (sms_if (smt_t (f1 := false) (sm_op (f1 := false) (f2 := false) opd_eq (sm_op (f1 := false) (f2 := false) (opd_I (g' := fun i j => .int (i % j)) fun _ _ => rfl) (sm_cb (f1 := false) cbd_int (sma_cons (sm_op (f1 := false) (f2 := false) (opd_I (g' := fun i j => .int (i / 2 ^ j.toNat)) fun _ _ => rfl) (sm_var 4) (sm_var 3)) sma_nil)) (sm_int _)) (sm_int _)))
 (sms_asg (sm_op (f1 := false) (f2 := false) (opd_I0 (g' := fun i j => .int (Builtin.bitOr i j)) fun _ _ => rfl) (sm_var 7) (sm_op (f1 := false) (f2 := false) (opd_I (g' := fun i j => .int (i * 2 ^ j.toNat)) fun _ _ => rfl) (sm_int _) (sm_var 3))) (smg_name 7))
 (sms_asg (sm_op (f1 := false) (f2 := false) (opd_I0 (g' := fun i j => .int (Builtin.bitOr i j)) fun _ _ => rfl) (sm_var 6) (sm_op (f1 := false) (f2 := false) (opd_I (g' := fun i j => .int (i * 2 ^ j.toNat)) fun _ _ => rfl) (sm_int _) (sm_var 3))) (smg_name 6)))
 sms_next))
 (sms_seq (sms_if (smt_t (f1 := false) (sm_op (f1 := false) (f2 := false) opd_ne (sm_op (f1 := false) (f2 := false) (opd_I0 (g' := fun i j => .int (Builtin.bitAnd i j)) fun _ _ => rfl) (sm_var 6) (sm_var 7)) (sm_int _)))
 (sms_ret sm_non)
 sms_next)
 (sms_seq (sms_asg (sm_cb (f1 := false) cbd_max (sma_cons (sm_var 4) (sma_cons (sm_var 7) sma_nil))) (smg_name 4))
 (sms_seq (sms_asg (sm_cb (f1 := false) cbd_min (sma_cons (sm_var 5) (sma_cons (sm_op (f1 := false) (f2 := false) (opd_I0 (g' := fun i j => .int (i - j)) fun _ _ => rfl) (sm_var 2) (sm_var 6)) sma_nil))) (smg_name 5))
 (sms_seq (sms_if (smt_t (f1 := false) (sm_op (f1 := false) (f2 := false) (opd_I0 (g' := fun i j => .bool (decide (j < i))) fun _ _ => rfl) (sm_var 4) (sm_var 5)))
 (sms_ret sm_non)
 sms_next)
 (sms_seq (sms_if (smt_t (f1 := false) (sm_op (f1 := false) (f2 := false) opd_eq (sm_var 4) (sm_var 5)))
 (sms_seq (sms_if (smt_or (smt_t (f1 := false) (sm_op (f1 := false) (f2 := false) opd_ne (sm_op (f1 := false) (f2 := false) (opd_I0 (g' := fun i j => .int (Builtin.bitAnd i j)) fun _ _ => rfl) (sm_var 4) (sm_var 6)) (sm_int _))) (smt_t (f1 := false) (sm_op (f1 := false) (f2 := false) opd_ne (sm_op (f1 := false) (f2 := false) (opd_I0 (g' := fun i j => .int (Builtin.bitAnd i j)) fun _ _ => rfl) (sm_var 4) (sm_var 7)) (sm_var 7))))
 (sms_ret sm_non)
 sms_next)
 (sms_ret (sm_tup (sma_cons (sm_var 4) (sma_cons (sm_var 4) (sma_cons (sm_op (f1 := false) (f2 := false) (opd_I0 (g' := fun i j => .int (i - j)) fun _ _ => rfl) (sm_var 2) (sm_var 4)) (sma_cons (sm_var 4) sma_nil)))))))
 sms_next)
 (sms_ret (sm_tup (sma_cons (sm_var 4) (sma_cons (sm_var 5) (sma_cons (sm_var 6) (sma_cons (sm_var 7) sma_nil))))))))))))))), ?_⟩
  rintro rs Φ (⟨w, x, rfl, h1, hw, hlt, h⟩ | ⟨w, a, rfl, h1, hw, ha, h⟩)
  · refine seq_op fun N hN => ?_
    simp [startD, ri]
    refine hN _ ?_
    clear hN N
    refine seq_op fun N hN => ?_
    simp
    refine ⟨cp1 (by omega) (by omega), hN _ ?_⟩
    clear hN N
    refine seq_op fun N hN => ?_
    simp [hlt]
    exact h
  refine seq_op fun N hN => ?_
  simp [startD, rg]
  refine hN _ ?_
  clear hN N
  refine seq_op fun N hN => ?_
  simp
  rw [pw_nat]
  refine ⟨cp1 (by omega) (by omega), hN _ ?_⟩
  clear hN N
  refine seq_op fun N hN => ?_
  refine dIfS_two (fun b => b = decide (a.h < a.l ∨ a.z &&& a.o ≠ 0)) (fun Ψ hΨ => ?_) (fun hb => ?_) (fun hb => ?_)
  · simp [bA]
    by_cases c1 : a.h < a.l
    · simp [c1] at hΨ ⊢
      exact hΨ
    · simp only [if_neg c1]
      by_cases c2 : a.z &&& a.o = 0
      · exact .inl ⟨c2, hΨ _ (by simp [c1, c2])⟩
      · exact .inr ⟨c2, hΨ _ (by simp [c1, c2])⟩
  · have hb : a.h < a.l ∨ a.z &&& a.o ≠ 0 := by simpa using hb
    unfold tgt at h
    rw [if_pos hb] at h
    simpa [rgO] using h
  have hb : ¬ (a.h < a.l ∨ a.z &&& a.o ≠ 0) := by simpa using hb
  simp only [dNext]
  refine hN _ ?_
  clear hN N
  refine seq_op fun N hN => ?_
  obtain ⟨I, hI⟩ : ∃ I : Nat → Dl → Prop, ∀ k δ, I k δ ↔ ∃ (z o : Nat) (y7 : Option R), Zk a k z ∧ Ok a k o ∧ δ = [some (.d (rg a)), some (.d (.int w)), some (.d (.int ((2 ^ w - 1 : Nat) : Int))), y7, some (.d (.int a.l)), some (.d (.int a.h)), some (.d (.int z)), some (.d (.int o))] := ⟨_, fun _ _ => Iff.rfl⟩
  refine dFor_n (n := w) (by omega) (fun Ψ h => by simpa [startD] using h) I ((hI _ _).mpr ⟨a.z, a.o, none, fun j => by simp, fun j => by simp, rfl⟩) (fun k δ hk hJ => ?_) (fun δ hJ => ?_)
  · obtain ⟨z, o, y7, hz, ho, rfl⟩ := (hI _ _).mp hJ
    have zs := zk_step hz
    have os := ok_step ho
    refine dIfS_two (fun b => b = decide (bitN (a.l ^^^ a.h) ≤ k)) (fun Ψ hΨ => ?_) (fun hb => ?_) (fun hb => ?_)
    · have hΨ := hΨ _ rfl
      simp
      rw [show decide ((a.l : Int) / 2 ^ k = (a.h : Int) / 2 ^ k) = decide (bitN (a.l ^^^ a.h) ≤ k) from decide_eq_decide.mpr shr_iff]
      exact hΨ
    · have hb : bitN (a.l ^^^ a.h) ≤ k := by simpa using hb
      refine dIfS_two (fun b => b = a.l.testBit k) (fun Ψ hΨ => ?_) (fun hb2 => ?_) (fun hb2 => ?_)
      · have hΨ := hΨ _ rfl
        simp
        refine cast (congrArg Ψ ?_) hΨ
        refine Eq.symm ?_
        rw [Bool.eq_iff_iff, decide_eq_true_iff]
        show (a.l : Int) / 2 ^ k % 2 = 1 ↔ _
        rw [bit_at]
        cases a.l.testBit k <;> simp
      · rw [if_neg (fun q => by rw [← hb2] at q; cases q.2)] at zs
        rw [if_pos ⟨hb, hb2.symm⟩] at os
        simp
        rw [pw_nat', bO]
        exact ⟨cp1 (by omega) (by omega), (hI _ _).mpr ⟨_, _, _, zs, os, rfl⟩⟩
      · rw [if_neg (fun q => by rw [← hb2] at q; cases q.2)] at os
        rw [if_pos ⟨hb, hb2.symm⟩] at zs
        simp
        rw [pw_nat', bO]
        exact ⟨cp1 (by omega) (by omega), (hI _ _).mpr ⟨_, _, _, zs, os, rfl⟩⟩
    · have hb : ¬ bitN (a.l ^^^ a.h) ≤ k := by simpa using hb
      simp only [dNext]
      rw [if_neg (fun q => hb q.1)] at zs os
      exact (hI _ _).mpr ⟨z, o, _, zs, os, rfl⟩
  obtain ⟨z, o, y7, hz, ho, rfl⟩ := (hI _ _).mp hJ
  obtain rfl := zk_end ha hz
  obtain rfl := ok_end ha ho
  refine hN _ ?_
  clear hN N hI hJ I hz ho
  have zl := z_lt ha
  have ol := o_lt ha
  unfold tgt at h
  rw [if_neg hb] at h
  refine seq_op fun N hN => ?_
  refine dIfS_two (fun b => b = decide (zOf w a &&& oOf w a ≠ 0)) (fun Ψ hΨ => ?_) (fun hb => ?_) (fun hb => ?_)
  · simp [bA]
    by_cases c2 : zOf w a &&& oOf w a = 0
    · exact .inl ⟨c2, hΨ _ (by simp [c2])⟩
    · exact .inr ⟨c2, hΨ _ (by simp [c2])⟩
  · have hb : zOf w a &&& oOf w a ≠ 0 := by simpa using hb
    rw [if_pos hb] at h
    simpa [rgO] using h
  have hb2 : ¬ zOf w a &&& oOf w a ≠ 0 := by simpa using hb
  rw [if_neg hb2] at h
  simp only [dNext]
  refine hN _ ?_
  clear hN N
  have al := ha.1
  have ah := ha.2.1
  have emax : (if a.l < oOf w a then ((oOf w a : Nat) : Int) else (a.l : Int)) = ((max a.l (oOf w a) : Nat) : Int) := by split <;> omega
  have emin : (if ((2 ^ w - 1 : Nat) : Int) - ((zOf w a : Nat) : Int) < (a.h : Int) then ((2 ^ w - 1 : Nat) : Int) - ((zOf w a : Nat) : Int) else (a.h : Int)) = ((min a.h (2 ^ w - 1 - zOf w a) : Nat) : Int) := by split <;> omega
  refine seq_op fun N hN => ?_
  simp
  rw [emax]
  refine hN _ ?_
  clear hN N
  refine seq_op fun N hN => ?_
  simp [emin]
  refine hN _ ?_
  clear hN N
  have lw : max a.l (oOf w a) < 2 ^ w := by omega
  have hwv : min a.h (2 ^ w - 1 - zOf w a) < 2 ^ w := by omega
  generalize max a.l (oOf w a) = l at lw h
  generalize min a.h (2 ^ w - 1 - zOf w a) = u at hwv h
  refine seq_op fun N hN => ?_
  refine dIfS_two (fun b => b = decide (u < l)) (fun Ψ hΨ => ?_) (fun hb => ?_) (fun hb => ?_)
  · simp
    exact hΨ _ rfl
  · have hb : u < l := by simpa using hb
    rw [if_pos hb] at h
    simpa [rgO] using h
  have hb3 : ¬ u < l := by simpa using hb
  rw [if_neg hb3] at h
  simp only [dNext]
  refine hN _ ?_
  clear hN N
  refine seq_op fun N hN => ?_
  refine dIfS_two (fun b => b = decide (l = u)) (fun Ψ hΨ => ?_) (fun hb => ?_) (fun hb => ?_)
  · simp
    refine hΨ _ ?_
    rw [Bool.eq_iff_iff]
    simp
    omega
  · have hb : l = u := by simpa using hb
    rw [if_pos hb] at h
    refine seq_op fun M hM => ?_
    refine dIfS_two (fun b => b = decide (l &&& zOf w a ≠ 0 ∨ l &&& oOf w a ≠ oOf w a)) (fun Ψ hΨ => ?_) (fun hb => ?_) (fun hb => ?_)
    · simp [bA]
      by_cases c1 : l &&& zOf w a = 0
      · refine .inl ⟨c1, ?_⟩
        by_cases c2 : l &&& oOf w a = oOf w a
        · exact .inl ⟨by rw [c2], hΨ _ (by simp [c1, c2])⟩
        · exact .inr ⟨fun e => c2 (Int.ofNat_inj.mp e), hΨ _ (by simp [c1, c2])⟩
      · exact .inr ⟨c1, hΨ _ (by simp [c1])⟩
    · have hb : l &&& zOf w a ≠ 0 ∨ l &&& oOf w a ≠ oOf w a := by simpa using hb
      rw [if_pos hb] at h
      simpa [rgO] using h
    have hb4 : ¬ (l &&& zOf w a ≠ 0 ∨ l &&& oOf w a ≠ oOf w a) := by simpa using hb
    rw [if_neg hb4] at h
    simp only [dNext]
    refine hM _ ?_
    have ez : ((2 ^ w - 1 : Nat) : Int) - (l : Int) = ((2 ^ w - 1 - l : Nat) : Int) := by omega
    simp [le_size, lt_size, cmul_l, cpow_l, cdiv_l, ez]
    exact h
  have hb4 : ¬ l = u := by simpa using hb
  rw [if_neg hb4] at h
  simp only [dNext]
  refine hN _ ?_
  simp [le_size, lt_size, cmul_l, cpow_l, cdiv_l]
  exact h


def unkN : Nat → Nat → Nat
  | 0, _ => 0
  | w + 1, m => (if m.testBit w = true then 0 else 1) + unkN w m
theorem unk_le (m : Nat) : ∀ w, unkN w m ≤ w
  | 0 => Nat.le_refl _
  | w + 1 => by
    have := unk_le m w
    unfold unkN
    split <;> omega
theorem unk_mono {m n : Nat} (h : ∀ j, m.testBit j = true → n.testBit j = true) : ∀ w, unkN w n ≤ unkN w m
  | 0 => Nat.le_refl _
  | w + 1 => by
    have := unk_mono h w
    unfold unkN
    by_cases c : m.testBit w = true
    · rw [if_pos c, if_pos (h w c)]; omega
    · rw [if_neg c]; split <;> omega
theorem unk_lt {m n : Nat} (h : ∀ j, m.testBit j = true → n.testBit j = true) {j : Nat} (hm : m.testBit j = false) (hn : n.testBit j = true) : ∀ w, j < w → unkN w n < unkN w m
  | 0, q => absurd q (Nat.not_lt_zero _)
  | w + 1, q => by
    unfold unkN
    by_cases e : j = w
    · subst e
      have := unk_mono h j
      rw [if_pos hn, if_neg (by rw [hm]; decide)]
      omega
    · have := unk_lt h hm hn w (by omega)
      by_cases c : m.testBit w = true
      · rw [if_pos c, if_pos (h w c)]; omega
      · rw [if_neg c]; split <;> omega
def Setl (w : Nat) (c : Rg) : Prop := c.o ≤ c.l ∧ c.h ≤ 2 ^ w - 1 - c.z
theorem tgt_setl {w : Nat} {a b : Rg} (ha : InW w a) (h : tgt w a = some b) : Setl w b := by
  have al := ha.1
  have ol := o_lt ha
  unfold tgt at h
  split at h
  · cases h
  split at h
  · cases h
  split at h
  · cases h
  split at h
  · split at h
    · cases h
    cases h
    refine ⟨Nat.le_refl _, ?_⟩
    show max a.l (oOf w a) ≤ 2 ^ w - 1 - (2 ^ w - 1 - max a.l (oOf w a))
    omega
  · cases h
    exact ⟨by show oOf w a ≤ max a.l (oOf w a); omega, by show min a.h (2 ^ w - 1 - zOf w a) ≤ 2 ^ w - 1 - zOf w a; omega⟩
theorem tgt_same {w : Nat} {c b : Rg} (hc : InW w c) (hs : Setl w c) (h : tgt w c = some b) (ez : b.z = c.z) (eo : b.o = c.o) : b = c := by
  obtain ⟨s1, s2⟩ := hs
  have al := hc.1
  have ol := o_lt hc
  unfold tgt at h
  split at h
  · cases h
  split at h
  · cases h
  split at h
  · cases h
  split at h
  · rename_i e
    split at h
    · cases h
    cases h
    have ez : 2 ^ w - 1 - max c.l (oOf w c) = c.z := ez
    have eo : max c.l (oOf w c) = c.o := eo
    obtain ⟨l, u, z, o⟩ := c
    simp only at *
    generalize oOf w _ = p at *
    have e1 : max l p = l := by omega
    have e2 : u = l := by omega
    rw [e1] at ez eo ⊢
    rw [e2, ez, ← eo]
  · cases h
    have ez : zOf w c = c.z := ez
    have eo : oOf w c = c.o := eo
    rw [ez, eo]
    obtain ⟨l, u, z, o⟩ := c
    simp only at *
    rw [show max l o = l by omega, show min u (2 ^ w - 1 - z) = u by omega]
theorem ne_bit {x y : Nat} (h : ¬ x = y) (hs : x &&& y = y) : ∃ j, x.testBit j = true ∧ y.testBit j = false := by
  refine Classical.byContradiction fun c => h (Nat.eq_of_testBit_eq fun j => ?_)
  cases e : y.testBit j with
  | true => exact sup_iff.mp hs j e
  | false =>
    cases e2 : x.testBit j with
    | false => rfl
    | true => exact absurd ⟨j, e2, e⟩ c
theorem unk_step {w : Nat} {c b : Rg} (hc : InW w c) (hs : Setl w c) (h : tgt w c = some b) (n : b ≠ c) : unkN w (b.z ||| b.o) < unkN w (c.z ||| c.o) := by
  obtain ⟨cl, gd, _⟩ := tgt_some hc h
  have up : ∀ j, (c.z ||| c.o).testBit j = true → (b.z ||| b.o).testBit j = true := fun j hj => by
    rw [Nat.testBit_or, Bool.or_eq_true] at hj ⊢
    rcases hj with hj | hj
    · exact .inl (sup_iff.mp cl.z j hj)
    · exact .inr (sup_iff.mp cl.o j hj)
  have lt : ∀ {x j : Nat}, x < 2 ^ w → x.testBit j = true → j < w := fun {x j} hx hj => by
    refine Nat.lt_of_not_le fun q => ?_
    rw [Nat.testBit_lt_two_pow (Nat.lt_of_lt_of_le hx (Nat.pow_le_pow_right (by decide) q))] at hj
    cases hj
  by_cases ez : b.z = c.z
  · by_cases eo : b.o = c.o
    · exact absurd (tgt_same hc hs h ez eo) n
    · obtain ⟨j, j1, j2⟩ := ne_bit eo cl.o
      refine unk_lt up (j := j) ?_ (by rw [Nat.testBit_or, j1, Bool.or_true]) w (lt cl.i.2.2.2 j1)
      rw [Nat.testBit_or, j2, Bool.or_false]
      cases e : c.z.testBit j with
      | false => rfl
      | true =>
        have := dis_iff.mp gd.dis j (sup_iff.mp cl.z j e)
        rw [j1] at this
        cases this
  · obtain ⟨j, j1, j2⟩ := ne_bit ez cl.z
    refine unk_lt up (j := j) ?_ (by rw [Nat.testBit_or, j1, Bool.true_or]) w (lt cl.i.2.2.1 j1)
    rw [Nat.testBit_or, j2, Bool.false_or]
    cases e : c.o.testBit j with
    | false => rfl
    | true =>
      have := dis_iff.mp gd.dis j j1
      rw [sup_iff.mp cl.o j e] at this
      cases this
def vp__law_normal : VSp := fun rs Φ => ∃ (w : Nat) (x : Ri), rs = [.d (ri x), .d (.int w)] ∧ 1 ≤ w ∧ w ≤ 64 ∧ NXok w x ∧ ∀ r, NX w x r → Φ (.d (rgO r))
theorem len__law_normal : ∀ rs Φ, vp__law_normal rs Φ → rs.length = 2 := fun rs Φ ⟨_, _, e, _⟩ => by rw [e]; rfl
theorem G__law_normal (T : Txt K mg w) : FnOk P w K mg base CX0 2 T.f__law_normal T.fd__law_normal ["bounds", "w"] (toSp K 2 vp__law_normal) := by
  refine fn_ok T.F__law_normal sc__law_normal fun cdv A outer s H E hr => ⟨_, (pss_cons (ps_for PassesOwn.never rfl (pi_range1 rfl T.range (pa_cons (pe_op op_add (pe_op op_mul pe_int (pv 1)) pe_int) pa_nil)) (pg_name (i := 2) sc__law_normal.nd rfl (Or.inl rfl)) (pss_cons (ps_set (i := 3) sc__law_normal.nd rfl (Or.inl rfl) (pe_call (G__law_turn T) hr (by rfl) T.g__law_turn T.F__law_turn.kp T.b__law_turn .nil pass0 (pa_cons (pv 0) (pa_cons (pv 1) pa_nil))))
 (pss_cons (ps_if (PW.pt (pw_or (pt_cmpR op_isN (pv 3) pe_non (nomark _)) (pw_or1 (pt_cmpR (kx_eqD (K := K) rfl hr.units) (pv 3) (pv 0) (nomark _))))) (pss_one (ps_ret (pv 3))) pss_nil)
 (pss_one (ps_set (i := 0) sc__law_normal.nd rfl (Or.inl rfl) (pv 3))))))
 (pss_one (ps_ret (pv 0)))), _, fun ex He Hf => (sms_seq (sms_for (smi_rng1 (f1 := false) (sm_op (f1 := false) (f2 := false) (opd_I0 (g' := fun i j => .int (i + j)) fun _ _ => rfl) (sm_op (f1 := false) (f2 := false) (opd_I (g' := fun i j => .int (i * j)) fun _ _ => rfl) (sm_int _) (sm_var 1)) (sm_int _))) (smg_name 2)
 (sms_seq (sms_asg (sm_call len__law_turn (smq_cons (sm_var 0) (smq_cons (sm_var 1) smq_nil))) (smg_name 3))
 (sms_seq (sms_if (smt_or (smt_t (f1 := false) (sm_op (f1 := false) (f2 := false) opd_isN (sm_var 3) sm_non)) (smt_t (f1 := false) (sm_op (f1 := false) (f2 := false) opd_eqD (sm_var 3) (sm_var 0))))
 (sms_ret (sm_var 3))
 sms_next)
 (sms_asg (sm_var 3) (smg_name 0)))))
 (sms_ret (sm_var 0))), ?_⟩
  rintro rs Φ ⟨w, x, rfl, h1, hw, ok, h⟩
  refine seq_op fun N hN => ?_
  obtain ⟨I, hI⟩ : ∃ I : Nat → Dl → Prop, ∀ k δ, I k δ ↔ ∃ y2 y3 : Option R, (k = 0 ∧ δ = [some (.d (ri x)), some (.d (.int w)), y2, y3]) ∨ ∃ c : Rg, InW w c ∧ Setl w c ∧ (∀ r, Nm w c r → NX w x r) ∧ unkN w (c.z ||| c.o) + k ≤ w + 1 ∧ δ = [some (.d (rg c)), some (.d (.int w)), y2, y3] := ⟨_, fun _ _ => Iff.rfl⟩
  refine dFor_n (n := 3 * w + 3) (by omega) (fun Ψ h => by
    simp [startD] at h ⊢
    exact ⟨.inl ⟨by omega, by omega⟩, h⟩) I ((hI _ _).mpr ⟨none, none, .inl ⟨rfl, rfl⟩⟩) (fun k δ hk hJ => ?_) (fun δ hJ => ?_)
  · refine seq_op fun M hM => ?_
    have step : ∀ (c : Rg), InW w c → (∀ r, Nm w c r → NX w x r) → (∀ b, tgt w c = some b → b ≠ c → unkN w (b.z ||| b.o) + (k + 1) ≤ w + 1) → M [some (.d (rg c)), some (.d (.int w)), some (.d (.int k)), some (.d (rgO (tgt w c)))] := by
      intro c ci cn cu
      refine hM _ ?_
      clear hM M
      refine seq_op fun M hM => ?_
      cases ht : tgt w c with
      | none =>
        simp [rgO]
        exact h none (cn _ (.none ht))
      | some b =>
        refine dIfS_two (fun q => q = decide (b = c)) (fun Ψ hΨ => ?_) (fun hq => ?_) (fun hq => ?_)
        · have s1 := rg_sh b
          have s2 := rg_sh c
          have e := rg_eqv b c
          simp only [rg] at s1 s2 e
          simp [rgO, rg, s1, s2, e]
          exact hΨ _ rfl
        · have hq : b = c := by simpa using hq
          subst hq
          simp [rgO]
          exact h (some b) (cn _ (.fix ht))
        · have hq : b ≠ c := by simpa using hq
          simp only [dNext]
          refine hM _ ?_
          simp [rgO]
          exact (hI _ _).mpr ⟨_, _, .inr ⟨b, (tgt_some ci ht).1.i, tgt_setl ci ht, fun r hr => cn r (.step ht hq hr), cu b ht hq, rfl⟩⟩
    obtain ⟨y2, y3, ⟨rfl, rfl⟩ | ⟨c, ci, cs, cn, cu, rfl⟩⟩ := (hI _ _).mp hJ
    · rcases ok with hx | ⟨a, ha, rfl⟩
      · clear step
        simp
        refine .inl ⟨w, x, rfl, h1, hw, hx, hM _ ?_⟩
        clear hM M
        refine seq_op fun M hM => ?_
        simp
        exact h none (.inl ⟨hx, rfl⟩)
      · simp
        refine .inr ⟨w, a, rfl, h1, hw, ha, ?_⟩
        have := step a ha (fun r hr => .inr ⟨a, ha, rfl, hr⟩) (fun b _ _ => by have := unk_le (b.z ||| b.o) w; omega)
        simpa [ri_rg] using this
    · simp
      refine .inr ⟨w, c, rfl, h1, hw, ci, ?_⟩
      have := step c ci cn (fun b hb n => by have := unk_step ci cs hb n; omega)
      simpa using this
  · obtain ⟨y2, y3, ⟨e, rfl⟩ | ⟨c, ci, cs, cn, cu, rfl⟩⟩ := (hI _ _).mp hJ
    · omega
    · omega


theorem bit1 (x k : Nat) : Builtin.bitAnd ((x : Int) / 2 ^ k) 1 = if x.testBit k = true then 1 else 0 := by
  rw [show (x : Int) / 2 ^ k = ((x / 2 ^ k : Nat) : Int) by push_cast; rfl, show (1 : Int) = ((1 : Nat) : Int) from rfl, bA, Nat.and_one_is_mod, Nat.testBit_eq_decide_div_mod_eq]
  rcases Nat.mod_two_eq_zero_or_one (x / 2 ^ k) with h | h <;> rw [h] <;> rfl
theorem bit1z (x k : Nat) : decide (Builtin.bitAnd ((x : Int) / 2 ^ k) 1 = 0) = decide (x &&& 2 ^ k = 0) := by
  rw [bit1]
  by_cases c : x.testBit k = true
  · have n : ¬ x &&& 2 ^ k = 0 := by rw [bit_zero, c]; decide
    rw [if_pos c, decide_eq_false n]; rfl
  · have n : x &&& 2 ^ k = 0 := by rw [bit_zero]; simpa using c
    rw [if_neg c, decide_eq_true n]; rfl
def vp__law_low : VSp := fun rs Φ => ∃ (w : Nat) (a b : Rg), rs = [.d (rg a), .d (rg b), .d (.int w)] ∧ w ≤ 64 ∧ ∀ j, LowK w (knM a b) j → Φ (.d (.int j))
theorem len__law_low : ∀ rs Φ, vp__law_low rs Φ → rs.length = 3 := fun rs Φ ⟨_, _, _, e, _⟩ => by rw [e]; rfl
theorem G__law_low (T : Txt K mg w) : FnOk P w K mg base CX0 1 T.f__law_low T.fd__law_low ["a", "b", "w"] (toSp K 3 vp__law_low) := by
  refine fn_ok T.F__law_low sc__law_low fun cdv A outer s H E hr => ⟨_, (pss_cons (ps_set (i := 3) sc__law_low.nd rfl (Or.inl rfl) pe_int)
 (pss_cons (ps_while PassesOwn.never (PW.pt (pw_and (pt_cmpR op_lt (pv 3) (pv 2) (nomark _)) (pw_and1 (pt_cmpR op_eq (pe_op op_and (pe_op op_shr (pe_op op_and (pe_op op_or (pe_ix (kx_seq (K := K) rfl) (pv 0) pe_int (fun _ _ => rfl)) (pe_ix (kx_seq (K := K) rfl) (pv 0) pe_int (fun _ _ => rfl))) (pe_op op_or (pe_ix (kx_seq (K := K) rfl) (pv 1) pe_int (fun _ _ => rfl)) (pe_ix (kx_seq (K := K) rfl) (pv 1) pe_int (fun _ _ => rfl)))) (pv 3)) pe_int) pe_int (nomark _))))) (pss_one (ps_set (i := 3) sc__law_low.nd rfl (Or.inl rfl) (pe_op op_add (pv 3) pe_int))))
 (pss_one (ps_ret (pv 3))))), _, fun ex He Hf => (sms_seq (sms_asg (sm_int _) (smg_name 3))
 (sms_seq (sms_while (smt_and (smt_t (f1 := false) (sm_op (f1 := false) (f2 := false) (opd_I0 (g' := fun i j => .bool (decide (i < j))) fun _ _ => rfl) (sm_var 3) (sm_var 2))) (smt_t (f1 := false) (sm_op (f1 := false) (f2 := false) opd_eq (sm_op (f1 := false) (f2 := false) (opd_I0 (g' := fun i j => .int (Builtin.bitAnd i j)) fun _ _ => rfl) (sm_op (f1 := false) (f2 := false) (opd_I (g' := fun i j => .int (i / 2 ^ j.toNat)) fun _ _ => rfl) (sm_op (f1 := false) (f2 := false) (opd_I0 (g' := fun i j => .int (Builtin.bitAnd i j)) fun _ _ => rfl) (sm_op (f1 := false) (f2 := false) (opd_I0 (g' := fun i j => .int (Builtin.bitOr i j)) fun _ _ => rfl) (sm_ix (f2 := false) (sm_var 0) (sm_int _)) (sm_ix (f2 := false) (sm_var 0) (sm_int _))) (sm_op (f1 := false) (f2 := false) (opd_I0 (g' := fun i j => .int (Builtin.bitOr i j)) fun _ _ => rfl) (sm_ix (f2 := false) (sm_var 1) (sm_int _)) (sm_ix (f2 := false) (sm_var 1) (sm_int _)))) (sm_var 3)) (sm_int _)) (sm_int _))))
 (sms_asg (sm_op (f1 := false) (f2 := false) (opd_I0 (g' := fun i j => .int (i + j)) fun _ _ => rfl) (sm_var 3) (sm_int _)) (smg_name 3)))
 (sms_ret (sm_var 3)))), ?_⟩
  rintro rs Φ ⟨w, a, b, rfl, hw, h⟩
  refine seq_op fun N hN => ?_
  simp [startD]
  refine hN _ ?_
  clear hN N
  refine seq_op fun N hN => ?_
  obtain ⟨I, hI⟩ : ∃ I : Nat → Dl → Prop, ∀ m δ, I m δ ↔ ∃ c : Nat, c + m = w ∧ (∀ j, j < c → (knM a b).testBit j = true) ∧ δ = [some (.d (rg a)), some (.d (rg b)), some (.d (.int w)), some (.d (.int c))] := ⟨_, fun _ _ => Iff.rfl⟩
  refine dWhile_by I ⟨w, (hI _ _).mpr ⟨0, by omega, fun j hj => absurd hj (Nat.not_lt_zero _), rfl⟩⟩ fun m δ hJ => ?_
  obtain ⟨c, hc, hb, rfl⟩ := (hI _ _).mp hJ
  refine ⟨fun q => q = decide (c < w ∧ (knM a b).testBit c = true), fun Ψ hΨ => ?_, fun hq => ?_, fun hq => ?_⟩
  · have hΨ := hΨ _ rfl
    simp
    by_cases c1 : c < w
    · simp [c1, rg, bO, bA]
      have e := bit1 ((a.z ||| a.o) &&& (b.z ||| b.o)) c
      rw [e]
      unfold knM at hΨ
      cases e2 : ((a.z ||| a.o) &&& (b.z ||| b.o)).testBit c <;> simpa [c1, e2] using hΨ
    · simpa [c1] using hΨ
  · have hq := of_decide_eq_true hq.symm
    simp
    refine ⟨m - 1, by omega, (hI _ _).mpr ⟨c + 1, by omega, fun j hj => ?_, rfl⟩⟩
    by_cases e : j = c
    · rw [e]; exact hq.2
    · exact hb j (by omega)
  · have hq := of_decide_eq_false hq.symm
    refine hN _ ?_
    simp
    refine h c ⟨by omega, hb, ?_⟩
    by_cases c1 : c < w
    · refine .inr ?_
      cases e2 : (knM a b).testBit c with
      | false => rfl
      | true => exact absurd ⟨c1, e2⟩ hq
    · exact .inl (by omega)

def vp__law_sum_row : VSp := fun rs Φ => ∃ (op : Str) (w : Nat) (a b : Rg), rs = [.d (.str op), .d (.int w), .d (rg a), .d (rg b)] ∧ isAr op ∧ w ≤ 64 ∧ InW w a ∧ InW w b ∧ a.l ≤ a.h ∧ b.l ≤ b.h ∧
  ∀ j, LowK w (knM a b) j → Φ (.d (ri (arR op w j a b)))
theorem len__law_sum_row : ∀ rs Φ, vp__law_sum_row rs Φ → rs.length = 4 := fun rs Φ ⟨_, _, _, _, e, _⟩ => by rw [e]; rfl
theorem arN_mod {op : Str} {w j x y : Nat} (hj : j ≤ w) (yw : y < 2 ^ w) (ho : isAr op) : ((arN op w x y % 2 ^ j : Nat) : Int) = (if op = "add" then (x : Int) + y else if op = "sub" then (x : Int) - y else (x : Int) * y) % 2 ^ j := by
  have pj := pow_pos2 j
  rw [← PySem.W.kbt_cast]
  rcases ho with rfl | rfl | rfl
  · simp only [arN, if_pos, mod_low hj]
    push_cast; rfl
  · simp only [arN, if_neg (show ¬ ("sub" : Str) = "add" by decide), if_pos]
    unfold subN
    rw [mod_low hj]
    obtain ⟨d, hd⟩ := Nat.pow_dvd_pow 2 hj
    have e : ((x + (2 ^ w - y) : Nat) : Int) = ((x : Int) - y) + ((2 ^ j : Nat) : Int) * (d : Int) := by
      rw [← Int.natCast_mul, ← hd]
      omega
    rw [Int.natCast_emod, e, Int.add_mul_emod_self_left]
  · simp only [arN, if_neg (show ¬ ("mul" : Str) = "add" by decide), if_neg (show ¬ ("mul" : Str) = "sub" by decide), mod_low hj]
    push_cast; rfl
theorem G__law_sum_row (T : Txt K mg w) : FnOk P w K mg base CX0 2 T.f__law_sum_row T.fd__law_sum_row ["op", "w", "a", "b"] (toSp K 4 vp__law_sum_row) := by
  refine fn_ok T.F__law_sum_row sc__law_sum_row fun cdv A outer s H E hr => ⟨_, (pss_cons (ps_set (i := 4) sc__law_sum_row.nd rfl (Or.inl rfl) (pe_op op_shl pe_int (pv 1)))
 (pss_cons (ps_if (pt_cmpR op_eq (pv 0) pe_str (nomark _)) (pss_one (ps_par3 (by rfl) sc__law_sum_row.nd rfl rfl rfl (by decide) (by decide) (by decide) rfl rfl rfl (pa_cons (pe_op op_add (pe_ix (kx_seq (K := K) rfl) (pv 2) pe_int (fun _ _ => rfl)) (pe_ix (kx_seq (K := K) rfl) (pv 3) pe_int (fun _ _ => rfl))) (pa_cons (pe_op op_add (pe_ix (kx_seq (K := K) rfl) (pv 2) pe_int (fun _ _ => rfl)) (pe_ix (kx_seq (K := K) rfl) (pv 3) pe_int (fun _ _ => rfl))) (pa_cons (pe_op op_add (pe_ix (kx_seq (K := K) rfl) (pv 2) pe_int (fun _ _ => rfl)) (pe_ix (kx_seq (K := K) rfl) (pv 3) pe_int (fun _ _ => rfl))) pa_nil))) (by rfl))) (pss_one (ps_if (pt_cmpR op_eq (pv 0) pe_str (nomark _)) (pss_one (ps_par3 (by rfl) sc__law_sum_row.nd rfl rfl rfl (by decide) (by decide) (by decide) rfl rfl rfl (pa_cons (pe_op op_sub (pe_ix (kx_seq (K := K) rfl) (pv 2) pe_int (fun _ _ => rfl)) (pe_ix (kx_seq (K := K) rfl) (pv 3) pe_int (fun _ _ => rfl))) (pa_cons (pe_op op_sub (pe_ix (kx_seq (K := K) rfl) (pv 2) pe_int (fun _ _ => rfl)) (pe_ix (kx_seq (K := K) rfl) (pv 3) pe_int (fun _ _ => rfl))) (pa_cons (pe_op op_sub (pe_ix (kx_seq (K := K) rfl) (pv 2) pe_int (fun _ _ => rfl)) (pe_ix (kx_seq (K := K) rfl) (pv 3) pe_int (fun _ _ => rfl))) pa_nil))) (by rfl))) (pss_one (ps_par3 (by rfl) sc__law_sum_row.nd rfl rfl rfl (by decide) (by decide) (by decide) rfl rfl rfl (pa_cons (pe_op op_mul (pe_ix (kx_seq (K := K) rfl) (pv 2) pe_int (fun _ _ => rfl)) (pe_ix (kx_seq (K := K) rfl) (pv 3) pe_int (fun _ _ => rfl))) (pa_cons (pe_op op_mul (pe_ix (kx_seq (K := K) rfl) (pv 2) pe_int (fun _ _ => rfl)) (pe_ix (kx_seq (K := K) rfl) (pv 3) pe_int (fun _ _ => rfl))) (pa_cons (pe_op op_mul (pe_ix (kx_seq (K := K) rfl) (pv 2) pe_int (fun _ _ => rfl)) (pe_ix (kx_seq (K := K) rfl) (pv 3) pe_int (fun _ _ => rfl))) pa_nil))) (by rfl))))))
 (pss_cons (ps_if (PW.pt (pw_and (pt_cmpR op_eq (pv 0) pe_str (nomark _)) (pw_and1 (pt_cmpR op_ge (pv 7) (pv 4) (nomark _))))) (pss_one (ps_par (by rfl) sc__law_sum_row.nd rfl rfl (by decide) rfl rfl (pa_cons (pe_op op_sub (pv 7) (pv 4)) (pa_cons (pe_op op_sub (pv 8) (pv 4)) pa_nil)) (by rfl))) (pss_one (ps_if (PW.pt (pw_and (pt_cmpR op_eq (pv 0) pe_str (nomark _)) (pw_and1 (pt_cmpR op_lt (pv 8) pe_int (nomark _))))) (pss_one (ps_par (by rfl) sc__law_sum_row.nd rfl rfl (by decide) rfl rfl (pa_cons (pe_op op_add (pv 7) (pv 4)) (pa_cons (pe_op op_add (pv 8) (pv 4)) pa_nil)) (by rfl))) (pss_one (ps_if (PW.pt (pw_or (pt_cmpR op_lt (pv 7) pe_int (nomark _)) (pw_or1 (pt_cmpR op_ge (pv 8) (pv 4) (nomark _))))) (pss_one (ps_par (by rfl) sc__law_sum_row.nd rfl rfl (by decide) rfl rfl (pa_cons pe_int (pa_cons (pe_op op_sub (pv 4) pe_int) pa_nil)) (by rfl))) pss_nil)))))
 (pss_cons (ps_set (i := 5) sc__law_sum_row.nd rfl (Or.inl rfl) (pe_op op_sub (pe_op op_shl pe_int (pe_call (G__law_low T) hr (by rfl) T.g__law_low T.F__law_low.kp T.b__law_low .nil pass0 (pa_cons (pv 2) (pa_cons (pv 3) (pa_cons (pv 1) pa_nil))))) pe_int))
 (pss_cons (ps_set (i := 6) sc__law_sum_row.nd rfl (Or.inl rfl) (pe_op op_and (pv 9) (pv 5)))
 (pss_one (ps_ret (pe_tup (pa_cons (pv 7) (pa_cons (pv 8) (pa_cons (pe_op op_sub (pv 5) (pv 6)) (pa_cons (pv 6) pa_nil)))))))))))), _, fun ex He Hf => (sms_seq (sms_asg (sm_op (f1 := false) (f2 := false) (opd_I (g' := fun i j => .int (i * 2 ^ j.toNat)) fun _ _ => rfl) (sm_int _) (sm_var 1)) (smg_name 4))
 (sms_seq (sms_if (smt_t (f1 := false) (sm_op (f1 := false) (f2 := false) opd_eq (sm_var 0) (sm_str _)))
 (sms_par3 7 8 9 (sm_op (f1 := false) (f2 := false) (opd_I0 (g' := fun i j => .int (i + j)) fun _ _ => rfl) (sm_ix (f2 := false) (sm_var 2) (sm_int _)) (sm_ix (f2 := false) (sm_var 3) (sm_int _))) (sm_op (f1 := false) (f2 := false) (opd_I0 (g' := fun i j => .int (i + j)) fun _ _ => rfl) (sm_ix (f2 := false) (sm_var 2) (sm_int _)) (sm_ix (f2 := false) (sm_var 3) (sm_int _))) (sm_op (f1 := false) (f2 := false) (opd_I0 (g' := fun i j => .int (i + j)) fun _ _ => rfl) (sm_ix (f2 := false) (sm_var 2) (sm_int _)) (sm_ix (f2 := false) (sm_var 3) (sm_int _))))
 (sms_if (smt_t (f1 := false) (sm_op (f1 := false) (f2 := false) opd_eq (sm_var 0) (sm_str _)))
 (sms_par3 7 8 9 (sm_op (f1 := false) (f2 := false) (opd_I0 (g' := fun i j => .int (i - j)) fun _ _ => rfl) (sm_ix (f2 := false) (sm_var 2) (sm_int _)) (sm_ix (f2 := false) (sm_var 3) (sm_int _))) (sm_op (f1 := false) (f2 := false) (opd_I0 (g' := fun i j => .int (i - j)) fun _ _ => rfl) (sm_ix (f2 := false) (sm_var 2) (sm_int _)) (sm_ix (f2 := false) (sm_var 3) (sm_int _))) (sm_op (f1 := false) (f2 := false) (opd_I0 (g' := fun i j => .int (i - j)) fun _ _ => rfl) (sm_ix (f2 := false) (sm_var 2) (sm_int _)) (sm_ix (f2 := false) (sm_var 3) (sm_int _))))
 (sms_par3 7 8 9 (sm_op (f1 := false) (f2 := false) (opd_I (g' := fun i j => .int (i * j)) fun _ _ => rfl) (sm_ix (f2 := false) (sm_var 2) (sm_int _)) (sm_ix (f2 := false) (sm_var 3) (sm_int _))) (sm_op (f1 := false) (f2 := false) (opd_I (g' := fun i j => .int (i * j)) fun _ _ => rfl) (sm_ix (f2 := false) (sm_var 2) (sm_int _)) (sm_ix (f2 := false) (sm_var 3) (sm_int _))) (sm_op (f1 := false) (f2 := false) (opd_I (g' := fun i j => .int (i * j)) fun _ _ => rfl) (sm_ix (f2 := false) (sm_var 2) (sm_int _)) (sm_ix (f2 := false) (sm_var 3) (sm_int _))))))
 (sms_seq (sms_if (smt_and (smt_t (f1 := false) (sm_op (f1 := false) (f2 := false) opd_eq (sm_var 0) (sm_str _))) (smt_t (f1 := false) (sm_op (f1 := false) (f2 := false) (opd_I0 (g' := fun i j => .bool (decide (j ≤ i))) fun _ _ => rfl) (sm_var 7) (sm_var 4))))
 (sms_par 7 8 (sm_op (f1 := false) (f2 := false) (opd_I0 (g' := fun i j => .int (i - j)) fun _ _ => rfl) (sm_var 7) (sm_var 4)) (sm_op (f1 := false) (f2 := false) (opd_I0 (g' := fun i j => .int (i - j)) fun _ _ => rfl) (sm_var 8) (sm_var 4)))
 (sms_if (smt_and (smt_t (f1 := false) (sm_op (f1 := false) (f2 := false) opd_eq (sm_var 0) (sm_str _))) (smt_t (f1 := false) (sm_op (f1 := false) (f2 := false) (opd_I0 (g' := fun i j => .bool (decide (i < j))) fun _ _ => rfl) (sm_var 8) (sm_int _))))
 (sms_par 7 8 (sm_op (f1 := false) (f2 := false) (opd_I0 (g' := fun i j => .int (i + j)) fun _ _ => rfl) (sm_var 7) (sm_var 4)) (sm_op (f1 := false) (f2 := false) (opd_I0 (g' := fun i j => .int (i + j)) fun _ _ => rfl) (sm_var 8) (sm_var 4)))
 (sms_if (smt_or (smt_t (f1 := false) (sm_op (f1 := false) (f2 := false) (opd_I0 (g' := fun i j => .bool (decide (i < j))) fun _ _ => rfl) (sm_var 7) (sm_int _))) (smt_t (f1 := false) (sm_op (f1 := false) (f2 := false) (opd_I0 (g' := fun i j => .bool (decide (j ≤ i))) fun _ _ => rfl) (sm_var 8) (sm_var 4))))
 (sms_par 7 8 (sm_int _) (sm_op (f1 := false) (f2 := false) (opd_I0 (g' := fun i j => .int (i - j)) fun _ _ => rfl) (sm_var 4) (sm_int _)))
 sms_next)))
 (sms_seq (sms_asg (sm_op (f1 := false) (f2 := false) (opd_I0 (g' := fun i j => .int (i - j)) fun _ _ => rfl) (sm_op (f1 := false) (f2 := false) (opd_I (g' := fun i j => .int (i * 2 ^ j.toNat)) fun _ _ => rfl) (sm_int _) (sm_call len__law_low (smq_cons (sm_var 2) (smq_cons (sm_var 3) (smq_cons (sm_var 1) smq_nil))))) (sm_int _)) (smg_name 5))
 (sms_seq (sms_asg (sm_op (f1 := false) (f2 := false) (opd_I0 (g' := fun i j => .int (Builtin.bitAnd i j)) fun _ _ => rfl) (sm_var 9) (sm_var 5)) (smg_name 6))
 (sms_ret (sm_tup (sma_cons (sm_var 7) (sma_cons (sm_var 8) (sma_cons (sm_op (f1 := false) (f2 := false) (opd_I0 (g' := fun i j => .int (i - j)) fun _ _ => rfl) (sm_var 5) (sm_var 6)) (sma_cons (sm_var 6) sma_nil))))))))))), ?_⟩
  rintro rs Φ ⟨op, w, a, b, rfl, ho, hw, ha, hb, al, bl, h⟩
  have l4 : (4 : Nat) ≤ sizeLine := by decide
  have hp := Nat.two_pow_pos w
  have p64 := Nat.pow_le_pow_right (n := 2) (by decide) hw
  have ho' := ho
  obtain ⟨a1, a2, a3, a4⟩ := ha
  obtain ⟨b1, b2, b3, b4⟩ := hb
  refine seq_op fun N hN => ?_
  simp [startD]
  refine ⟨cp1 (by omega) (by omega), hN _ ?_⟩
  clear hN N
  rw [pwI]
  -- what stands behind the bounds
  have fin : ∀ j, LowK w (knM a b) j → ∀ (l u : Int), (l, u) = boR op w a b → ∀ (z t : Int), t = ((arN op w a.o b.o % 2 ^ j : Nat) : Int) → z = ((2 ^ j - 1 : Nat) : Int) - t → Φ (.d (.tuple [.int l, .int u, .int z, .int t])) := by
    intro j hj l u e z t et ez
    have h := h j hj
    have hpj := Nat.two_pow_pos j
    have hlt := Nat.mod_lt (arN op w a.o b.o) hpj
    obtain ⟨e1, e2⟩ := Prod.mk.inj e
    rw [et] at ez
    rw [show ((2 ^ j - 1 : Nat) : Int) - ((arN op w a.o b.o % 2 ^ j : Nat) : Int) = ((2 ^ j - 1 - arN op w a.o b.o % 2 ^ j : Nat) : Int) by omega] at ez
    rw [et, ez, e1, e2]
    exact h
  generalize hT : 2 ^ w = W at *
  -- from the bounds on
  refine seq_op fun N1 k1 => ?_
  have s1 : ∀ l u t : Int, (∃ l' u' : Int, boR op w a b = (l', u') ∧ (if op = "add" ∧ (W : Int) ≤ l then (l', u') = (l - W, u - W) else if op = "sub" ∧ u < 0 then (l', u') = (l + W, u + W) else if l < 0 ∨ (W : Int) ≤ u then (l', u') = (0, (W : Int) - 1) else (l', u') = (l, u))) →
      t = (if op = "add" then (a.o : Int) + b.o else if op = "sub" then (a.o : Int) - b.o else (a.o : Int) * b.o) →
      N1 [some (.d (.str op)), some (.d (.int w)), some (.d (rg a)), some (.d (rg b)), some (.d (.int W)), none, none, some (.d (.int l)), some (.d (.int u)), some (.d (.int t))] := by
    rintro l u t ⟨l', u', eb, hl⟩ ht
    refine k1 _ ?_
    clear k1 N1
    refine seq_op fun N2 k2 => ?_
    have s2 : N2 [some (.d (.str op)), some (.d (.int w)), some (.d (rg a)), some (.d (rg b)), some (.d (.int W)), none, none, some (.d (.int l')), some (.d (.int u')), some (.d (.int t))] := by
      refine k2 _ ?_
      clear k2 N2
      refine seq_op fun N3 k3 => ?_
      simp
      refine ⟨w, a, b, rfl, hw, fun j hj => ?_⟩
      have hjw := hj.1
      simp
      refine ⟨cp1 (by omega) (by omega), k3 _ ?_⟩
      clear k3 N3
      refine seq_op fun N3 k3 => ?_
      simp
      refine k3 _ ?_
      clear k3 N3
      rw [PySem.W.kbt_mask]
      simp [l4]
      refine fin j hj l' u' eb.symm _ _ ?_ ?_
      · rw [arN_mod hjw (by rw [hT]; exact b4) ho, ht]
      · rw [pwI]
        have := Nat.two_pow_pos j
        omega
    refine dIfS_two (fun c => c = decide (op = "add" ∧ (W : Int) ≤ l)) (fun Ψ hΨ => ?_) (fun hc => ?_) (fun hc => ?_)
    · have hΨ' := hΨ _ rfl
      simp
      by_cases c1 : op = "add" <;> simpa [c1] using hΨ'
    · have hc := of_decide_eq_true hc.symm
      rw [if_pos hc] at hl
      obtain ⟨rfl, rfl⟩ := Prod.mk.inj hl
      simp
      exact s2
    have hc := of_decide_eq_false hc.symm
    rw [if_neg hc] at hl
    refine dIfS_two (fun c => c = decide (op = "sub" ∧ u < 0)) (fun Ψ hΨ => ?_) (fun hc => ?_) (fun hc => ?_)
    · have hΨ' := hΨ _ rfl
      simp
      by_cases c1 : op = "sub" <;> simpa [c1] using hΨ'
    · have hc := of_decide_eq_true hc.symm
      rw [if_pos hc] at hl
      obtain ⟨rfl, rfl⟩ := Prod.mk.inj hl
      simp
      exact s2
    have hc := of_decide_eq_false hc.symm
    rw [if_neg hc] at hl
    refine dIfS_two (fun c => c = decide (l < 0 ∨ (W : Int) ≤ u)) (fun Ψ hΨ => ?_) (fun hc => ?_) (fun hc => ?_)
    · have hΨ' := hΨ _ rfl
      simp
      by_cases c1 : l < 0
      · simpa [c1] using hΨ'
      · by_cases c2 : (W : Int) ≤ u <;> simpa [c1, c2] using hΨ'
    · have hc := of_decide_eq_true hc.symm
      rw [if_pos hc] at hl
      obtain ⟨rfl, rfl⟩ := Prod.mk.inj hl
      simp
      exact s2
    have hc := of_decide_eq_false hc.symm
    rw [if_neg hc] at hl
    obtain ⟨rfl, rfl⟩ := Prod.mk.inj hl
    simp only [dNext]
    exact s2
  clear k1
  have et : ((W - 1 : Nat) : Int) = (W : Int) - 1 := by omega
  rcases ho' with rfl | rfl | rfl
  · simp [rg]
    refine s1 _ _ _ ?_ (by simp)
    unfold boR
    rw [if_pos rfl, hT]
    by_cases c1 : W ≤ a.l + b.l
    · rw [if_pos c1]
      refine ⟨_, _, rfl, ?_⟩
      rw [if_pos ⟨rfl, by omega⟩, Int.natCast_add, Int.natCast_add]
    · rw [if_neg c1]
      by_cases c2 : a.h + b.h < W
      · rw [if_pos c2]
        refine ⟨_, _, rfl, ?_⟩
        rw [if_neg (by omega), if_neg (by omega), if_neg (by omega), Int.natCast_add, Int.natCast_add]
      · rw [if_neg c2]
        refine ⟨_, _, rfl, ?_⟩
        rw [if_neg (by omega), if_neg (by omega), if_pos (by omega), et]
  · simp [rg]
    refine s1 _ _ _ ?_ (by simp)
    unfold boR
    rw [if_neg (by decide), if_pos rfl, hT]
    by_cases c1 : a.h < b.l
    · rw [if_pos c1]
      refine ⟨_, _, rfl, ?_⟩
      rw [if_neg (by simp), if_pos ⟨rfl, by omega⟩]
    · rw [if_neg c1]
      by_cases c2 : b.h ≤ a.l
      · rw [if_pos c2]
        refine ⟨_, _, rfl, ?_⟩
        rw [if_neg (by simp), if_neg (by omega), if_neg (by omega)]
      · rw [if_neg c2]
        refine ⟨_, _, rfl, ?_⟩
        rw [if_neg (by simp), if_neg (by omega), if_pos (by omega), et]
  · simp [rg]
    refine ⟨.inl ⟨by omega, by omega⟩, .inl ⟨by omega, by omega⟩, .inl ⟨by omega, by omega⟩, s1 _ _ _ ?_ (by simp)⟩
    unfold boR
    rw [if_neg (by decide), if_neg (by decide), hT]
    have m1 : (a.l : Int) * b.l = ((a.l * b.l : Nat) : Int) := (Int.natCast_mul _ _).symm
    have m2 : (a.h : Int) * b.h = ((a.h * b.h : Nat) : Int) := (Int.natCast_mul _ _).symm
    rw [m1, m2]
    by_cases c2 : a.h * b.h < W
    · rw [if_pos c2]
      refine ⟨_, _, rfl, ?_⟩
      rw [if_neg (by simp), if_neg (by simp), if_neg (by omega)]
    · rw [if_neg c2]
      refine ⟨_, _, rfl, ?_⟩
      rw [if_neg (by simp), if_neg (by simp), if_pos (by omega), et]


theorem if_skip {dt : DT} {d1 rest : DS} {E : DEnds} {δ : Dl} (h : ∀ Ψ : Bool → Prop, Ψ false → dt δ Ψ) (hr : rest E δ) : dSeq (dIfS dt d1 dNext) rest E δ :=
  seq_op fun N hN => dIfS_two (fun c => c = false) (fun Ψ hΨ => h Ψ (hΨ _ rfl)) (fun hc => by cases hc) fun _ => hN _ hr
theorem if_take {dt : DT} {d1 d2 rest : DS} {E : DEnds} {δ : Dl} (h : ∀ Ψ : Bool → Prop, Ψ true → dt δ Ψ) (h1 : ∀ N, (∀ δ', rest E δ' → N δ') → d1 { E with nx := N } δ) : dSeq (dIfS dt d1 d2) rest E δ :=
  seq_op fun N hN => dIfS_two (fun c => c = true) (fun Ψ hΨ => h Ψ (hΨ _ rfl)) (fun _ => h1 N hN) fun hc => by cases hc

def vp__law_shift_row : VSp := fun rs Φ => ∃ (op : Str) (w : Nat) (a b : Rg), rs = [.d (.str op), .d (.int w), .d (rg a), .d (rg b)] ∧ 1 ≤ w ∧ w ≤ 64 ∧ InW w a ∧ Φ (.d (ri (shiftR op w a b)))
theorem len__law_shift_row : ∀ rs Φ, vp__law_shift_row rs Φ → rs.length = 4 := fun rs Φ ⟨_, _, _, _, e, _⟩ => by rw [e]; rfl
theorem G__law_shift_row (T : Txt K mg w) : FnOk P w K mg base CX0 1 T.f__law_shift_row T.fd__law_shift_row ["op", "w", "a", "b"] (toSp K 4 vp__law_shift_row) := by
  refine fn_ok T.F__law_shift_row sc__law_shift_row fun cdv A outer s H E hr => ⟨_, (pss_cons (ps_set (i := 4) sc__law_shift_row.nd rfl (Or.inl rfl) (pe_op op_sub (pe_op op_shl pe_int (pv 1)) pe_int))
 (pss_cons (ps_if (PW.pt (pw_or (pt_cmpR op_ne (pe_ix (kx_seq (K := K) rfl) (pv 3) pe_int (fun _ _ => rfl)) (pe_ix (kx_seq (K := K) rfl) (pv 3) pe_int (fun _ _ => rfl)) (nomark _)) (pw_or1 (PW.pt (pw_and (pt_cmpR op_eq (pv 0) pe_str (nomark _)) (pw_and1 (pt_cmpR op_eq (pe_op op_and (pe_op op_shr (pe_ix (kx_seq (K := K) rfl) (pv 2) pe_int (fun _ _ => rfl)) (pe_op op_sub (pv 1) pe_int)) pe_int) pe_int (nomark _)))))))) (pss_one (ps_ret (pe_tup (pa_cons pe_int (pa_cons (pv 4) (pa_cons pe_int (pa_cons pe_int pa_nil))))))) pss_nil)
 (pss_cons (ps_set (i := 5) sc__law_shift_row.nd rfl (Or.inl rfl) (pe_ix (kx_seq (K := K) rfl) (pv 3) pe_int (fun _ _ => rfl)))
 (pss_cons (ps_if (pt_cmpR op_ge (pv 5) (pv 1) (nomark _)) (pss_one (ps_ret (pe_tup (pa_cons pe_int (pa_cons pe_int (pa_cons (pv 4) (pa_cons pe_int pa_nil))))))) pss_nil)
 (pss_cons (ps_if (pt_cmpR op_eq (pv 0) pe_str (nomark _)) (pss_cons (ps_set (i := 6) sc__law_shift_row.nd rfl (Or.inl rfl) (pe_op op_or (pe_op op_and (pe_op op_shl (pe_ix (kx_seq (K := K) rfl) (pv 2) pe_int (fun _ _ => rfl)) (pv 5)) (pv 4)) (pe_op op_sub (pe_op op_shl pe_int (pv 5)) pe_int)))
 (pss_cons (ps_if (pt_cmpR op_gt (pe_op op_shl (pe_ix (kx_seq (K := K) rfl) (pv 2) pe_int (fun _ _ => rfl)) (pv 5)) (pv 4) (nomark _)) (pss_one (ps_ret (pe_tup (pa_cons pe_int (pa_cons (pv 4) (pa_cons (pv 6) (pa_cons (pe_op op_and (pe_op op_shl (pe_ix (kx_seq (K := K) rfl) (pv 2) pe_int (fun _ _ => rfl)) (pv 5)) (pv 4)) pa_nil))))))) pss_nil)
 (pss_one (ps_ret (pe_tup (pa_cons (pe_op op_shl (pe_ix (kx_seq (K := K) rfl) (pv 2) pe_int (fun _ _ => rfl)) (pv 5)) (pa_cons (pe_op op_shl (pe_ix (kx_seq (K := K) rfl) (pv 2) pe_int (fun _ _ => rfl)) (pv 5)) (pa_cons (pv 6) (pa_cons (pe_op op_and (pe_op op_shl (pe_ix (kx_seq (K := K) rfl) (pv 2) pe_int (fun _ _ => rfl)) (pv 5)) (pv 4)) pa_nil))))))))) pss_nil)
 (pss_one (ps_ret (pe_tup (pa_cons (pe_op op_shr (pe_ix (kx_seq (K := K) rfl) (pv 2) pe_int (fun _ _ => rfl)) (pv 5)) (pa_cons (pe_op op_shr (pe_ix (kx_seq (K := K) rfl) (pv 2) pe_int (fun _ _ => rfl)) (pv 5)) (pa_cons (pe_op op_or (pe_op op_shr (pe_ix (kx_seq (K := K) rfl) (pv 2) pe_int (fun _ _ => rfl)) (pv 5)) (pe_op op_sub (pv 4) (pe_op op_shr (pv 4) (pv 5)))) (pa_cons (pe_op op_shr (pe_ix (kx_seq (K := K) rfl) (pv 2) pe_int (fun _ _ => rfl)) (pv 5)) pa_nil)))))))))))), _, fun ex He Hf => (sms_seq (sms_asg (sm_op (f1 := false) (f2 := false) (opd_I0 (g' := fun i j => .int (i - j)) fun _ _ => rfl) (sm_op (f1 := false) (f2 := false) (opd_I (g' := fun i j => .int (i * 2 ^ j.toNat)) fun _ _ => rfl) (sm_int _) (sm_var 1)) (sm_int _)) (smg_name 4))
 (sms_seq (sms_if (smt_or (smt_t (f1 := false) (sm_op (f1 := false) (f2 := false) opd_ne (sm_ix (f2 := false) (sm_var 3) (sm_int _)) (sm_ix (f2 := false) (sm_var 3) (sm_int _)))) (smt_and (smt_t (f1 := false) (sm_op (f1 := false) (f2 := false) opd_eq (sm_var 0) (sm_str _))) (smt_t (f1 := false) (sm_op (f1 := false) (f2 := false) opd_eq (sm_op (f1 := false) (f2 := false) (opd_I0 (g' := fun i j => .int (Builtin.bitAnd i j)) fun _ _ => rfl) (sm_op (f1 := false) (f2 := false) (opd_I (g' := fun i j => .int (i / 2 ^ j.toNat)) fun _ _ => rfl) (sm_ix (f2 := false) (sm_var 2) (sm_int _)) (sm_op (f1 := false) (f2 := false) (opd_I0 (g' := fun i j => .int (i - j)) fun _ _ => rfl) (sm_var 1) (sm_int _))) (sm_int _)) (sm_int _)))))
 (sms_ret (sm_tup (sma_cons (sm_int _) (sma_cons (sm_var 4) (sma_cons (sm_int _) (sma_cons (sm_int _) sma_nil))))))
 sms_next)
 (sms_seq (sms_asg (sm_ix (f2 := false) (sm_var 3) (sm_int _)) (smg_name 5))
 (sms_seq (sms_if (smt_t (f1 := false) (sm_op (f1 := false) (f2 := false) (opd_I0 (g' := fun i j => .bool (decide (j ≤ i))) fun _ _ => rfl) (sm_var 5) (sm_var 1)))
 (sms_ret (sm_tup (sma_cons (sm_int _) (sma_cons (sm_int _) (sma_cons (sm_var 4) (sma_cons (sm_int _) sma_nil))))))
 sms_next)
 (sms_seq (sms_if (smt_t (f1 := false) (sm_op (f1 := false) (f2 := false) opd_eq (sm_var 0) (sm_str _)))
 (sms_seq (sms_asg (sm_op (f1 := false) (f2 := false) (opd_I0 (g' := fun i j => .int (Builtin.bitOr i j)) fun _ _ => rfl) (sm_op (f1 := false) (f2 := false) (opd_I0 (g' := fun i j => .int (Builtin.bitAnd i j)) fun _ _ => rfl) (sm_op (f1 := false) (f2 := false) (opd_I (g' := fun i j => .int (i * 2 ^ j.toNat)) fun _ _ => rfl) (sm_ix (f2 := false) (sm_var 2) (sm_int _)) (sm_var 5)) (sm_var 4)) (sm_op (f1 := false) (f2 := false) (opd_I0 (g' := fun i j => .int (i - j)) fun _ _ => rfl) (sm_op (f1 := false) (f2 := false) (opd_I (g' := fun i j => .int (i * 2 ^ j.toNat)) fun _ _ => rfl) (sm_int _) (sm_var 5)) (sm_int _))) (smg_name 6))
 (sms_seq (sms_if (smt_t (f1 := false) (sm_op (f1 := false) (f2 := false) (opd_I0 (g' := fun i j => .bool (decide (j < i))) fun _ _ => rfl) (sm_op (f1 := false) (f2 := false) (opd_I (g' := fun i j => .int (i * 2 ^ j.toNat)) fun _ _ => rfl) (sm_ix (f2 := false) (sm_var 2) (sm_int _)) (sm_var 5)) (sm_var 4)))
 (sms_ret (sm_tup (sma_cons (sm_int _) (sma_cons (sm_var 4) (sma_cons (sm_var 6) (sma_cons (sm_op (f1 := false) (f2 := false) (opd_I0 (g' := fun i j => .int (Builtin.bitAnd i j)) fun _ _ => rfl) (sm_op (f1 := false) (f2 := false) (opd_I (g' := fun i j => .int (i * 2 ^ j.toNat)) fun _ _ => rfl) (sm_ix (f2 := false) (sm_var 2) (sm_int _)) (sm_var 5)) (sm_var 4)) sma_nil))))))
 sms_next)
 (sms_ret (sm_tup (sma_cons (sm_op (f1 := false) (f2 := false) (opd_I (g' := fun i j => .int (i * 2 ^ j.toNat)) fun _ _ => rfl) (sm_ix (f2 := false) (sm_var 2) (sm_int _)) (sm_var 5)) (sma_cons (sm_op (f1 := false) (f2 := false) (opd_I (g' := fun i j => .int (i * 2 ^ j.toNat)) fun _ _ => rfl) (sm_ix (f2 := false) (sm_var 2) (sm_int _)) (sm_var 5)) (sma_cons (sm_var 6) (sma_cons (sm_op (f1 := false) (f2 := false) (opd_I0 (g' := fun i j => .int (Builtin.bitAnd i j)) fun _ _ => rfl) (sm_op (f1 := false) (f2 := false) (opd_I (g' := fun i j => .int (i * 2 ^ j.toNat)) fun _ _ => rfl) (sm_ix (f2 := false) (sm_var 2) (sm_int _)) (sm_var 5)) (sm_var 4)) sma_nil))))))))
 sms_next)
 (sms_ret (sm_tup (sma_cons (sm_op (f1 := false) (f2 := false) (opd_I (g' := fun i j => .int (i / 2 ^ j.toNat)) fun _ _ => rfl) (sm_ix (f2 := false) (sm_var 2) (sm_int _)) (sm_var 5)) (sma_cons (sm_op (f1 := false) (f2 := false) (opd_I (g' := fun i j => .int (i / 2 ^ j.toNat)) fun _ _ => rfl) (sm_ix (f2 := false) (sm_var 2) (sm_int _)) (sm_var 5)) (sma_cons (sm_op (f1 := false) (f2 := false) (opd_I0 (g' := fun i j => .int (Builtin.bitOr i j)) fun _ _ => rfl) (sm_op (f1 := false) (f2 := false) (opd_I (g' := fun i j => .int (i / 2 ^ j.toNat)) fun _ _ => rfl) (sm_ix (f2 := false) (sm_var 2) (sm_int _)) (sm_var 5)) (sm_op (f1 := false) (f2 := false) (opd_I0 (g' := fun i j => .int (i - j)) fun _ _ => rfl) (sm_var 4) (sm_op (f1 := false) (f2 := false) (opd_I (g' := fun i j => .int (i / 2 ^ j.toNat)) fun _ _ => rfl) (sm_var 4) (sm_var 5)))) (sma_cons (sm_op (f1 := false) (f2 := false) (opd_I (g' := fun i j => .int (i / 2 ^ j.toNat)) fun _ _ => rfl) (sm_ix (f2 := false) (sm_var 2) (sm_int _)) (sm_var 5)) sma_nil))))))))))), ?_⟩
  rintro rs Φ ⟨op, w, a, b, rfl, h1, hw, ha, h⟩
  have l4 : (4 : Nat) ≤ sizeLine := by decide
  have hp := Nat.two_pow_pos w
  have inj : ∀ x y : Nat, ((x : Int) = (y : Int)) = (x = y) := fun x y => propext Int.ofNat_inj
  have e1 : ((w : Int) - 1).toNat = w - 1 := by omega
  refine seq_op fun N hN => ?_
  simp [startD]
  rw [pw_nat]
  refine ⟨cp1 (by omega) (by omega), hN _ ?_⟩
  clear hN N
  refine seq_op fun N hN => ?_
  unfold shiftR at h
  refine dIfS_two (fun c => c = decide (¬ b.l = b.h ∨ op = "ashr" ∧ a.z &&& 2 ^ (w - 1) = 0)) (fun Ψ hΨ => ?_) (fun hc => ?_) (fun hc => ?_)
  · have hΨ' := hΨ _ rfl
    clear hΨ hN h
    have bz := bit1z a.z (w - 1)
    generalize 2 ^ w - 1 = top
    by_cases c1 : b.l = b.h
    · by_cases c2 : op = "ashr"
      · have e : decide (¬ b.l = b.h ∨ op = "ashr" ∧ a.z &&& 2 ^ (w - 1) = 0) = decide (a.z &&& 2 ^ (w - 1) = 0) := decide_eq_decide.mpr ⟨fun q => q.elim (fun q => absurd c1 q) fun q => q.2, fun q => .inr ⟨c2, q⟩⟩
        rw [e, ← bz] at hΨ'
        simp [rg, c1, c2, e1]
        exact ⟨by omega, hΨ'⟩
      · have e : decide (¬ b.l = b.h ∨ op = "ashr" ∧ a.z &&& 2 ^ (w - 1) = 0) = false := decide_eq_false fun q => q.elim (fun q => q c1) fun q => c2 q.1
        rw [e] at hΨ'
        simpa [rg, c1, c2] using hΨ'
    · have e : decide (¬ b.l = b.h ∨ op = "ashr" ∧ a.z &&& 2 ^ (w - 1) = 0) = true := decide_eq_true (.inl c1)
      rw [e] at hΨ'
      simpa [rg, c1, inj] using hΨ'
  · have hc := of_decide_eq_true hc.symm
    rw [if_pos hc] at h
    simp only [ri] at h
    generalize 2 ^ w - 1 = top at h ⊢
    simp [l4]
    exact h
  have hc := of_decide_eq_false hc.symm
  rw [if_neg hc] at h
  simp only [dNext]
  refine hN _ ?_
  clear hN N
  refine seq_op fun N hN => ?_
  simp [rg]
  refine hN _ ?_
  clear hN N
  refine seq_op fun N hN => ?_
  by_cases c0 : w ≤ b.l
  · rw [if_pos c0] at h
    simp only [ri] at h
    refine dIfS_two (fun c => c = true) (fun Ψ hΨ => ?_) (fun _ => ?_) (fun hc => by cases hc)
    · have hΨ := hΨ _ rfl
      generalize 2 ^ w - 1 = top
      simp
      simpa [c0] using hΨ
    generalize 2 ^ w - 1 = top at h ⊢
    simp [l4]
    exact h
  rw [if_neg c0] at h
  refine dIfS_two (fun c => c = false) (fun Ψ hΨ => ?_) (fun hc => by cases hc) (fun _ => ?_)
  · have hΨ := hΨ _ rfl
    generalize 2 ^ w - 1 = top
    simp
    simpa [c0] using hΨ
  simp only [dNext]
  refine hN _ ?_
  clear hN N
  have es : ∀ x : Nat, (x : Int) * ((2 ^ b.l : Nat) : Int) = ((x * 2 ^ b.l : Nat) : Int) := fun x => (Int.natCast_mul _ _).symm
  have ed : ∀ x : Nat, (x : Int) / ((2 ^ b.l : Nat) : Int) = ((x / 2 ^ b.l : Nat) : Int) := fun x => rfl
  have hpb := Nat.two_pow_pos b.l
  have em : ((2 ^ b.l : Nat) : Int) - 1 = ((2 ^ b.l - 1 : Nat) : Int) := by omega
  have cz : ∀ x : Nat, x < 2 ^ w → CPow (x : Int) (b.l : Int) := fun x hx => ⟨by omega, by omega, by
    have := Nat.pow_le_pow_right (n := 2) (by decide) hw
    rw [Int.natAbs_natCast]
    omega⟩
  have c1 : CPow 1 (b.l : Int) := cp1 (by omega) (by omega)
  have et : ((2 ^ w - 1 : Nat) : Int) - (((2 ^ w - 1) / 2 ^ b.l : Nat) : Int) = ((2 ^ w - 1 - (2 ^ w - 1) / 2 ^ b.l : Nat) : Int) := by
    have := Nat.div_le_self (2 ^ w - 1) (2 ^ b.l)
    omega
  refine seq_op fun N hN => ?_
  by_cases c2 : op = "shl"
  · rw [if_pos c2] at h
    refine dIfS_two (fun c => c = true) (fun Ψ hΨ => ?_) (fun _ => ?_) (fun hc => by cases hc)
    · have hΨ := hΨ _ rfl
      simpa [c2] using hΨ
    unfold shlR at h
    refine seq_op fun M hM => ?_
    simp only [dAsg, dOp, dVar, dC, gIx, gI, gI0, dgName]
    simp
    rw [pwI, es, bA, em, bO]
    refine ⟨cz _ ha.2.2.1, c1, hM _ ?_⟩
    clear hM M
    generalize ((a.z * 2 ^ b.l) &&& (2 ^ w - 1) ||| (2 ^ b.l - 1)) = Z at h ⊢
    refine seq_op fun M hM => ?_
    by_cases c3 : 2 ^ w - 1 < a.h * 2 ^ b.l
    · simp only [if_pos c3, ri] at h
      refine dIfS_two (fun c => c = true) (fun Ψ hΨ => ?_) (fun _ => ?_) (fun hc => by cases hc)
      · have hΨ := hΨ _ rfl
        generalize 2 ^ w - 1 = top at c3 ⊢
        simp
        have c4 : (top : Int) < (a.h : Int) * 2 ^ b.l := by rw [pwI, es]; exact Int.ofNat_lt.mpr c3
        refine ⟨cz _ ha.2.1, cast (congrArg Ψ ?_) hΨ⟩
        exact (decide_eq_true c4).symm
      · generalize 2 ^ w - 1 = top at h ⊢
        simp
        rw [pwI, es, bA]
        exact ⟨cz _ ha.2.2.2, l4, h⟩
    · simp only [if_neg c3, ri] at h
      refine dIfS_two (fun c => c = false) (fun Ψ hΨ => ?_) (fun hc => by cases hc) (fun _ => ?_)
      · have hΨ := hΨ _ rfl
        generalize 2 ^ w - 1 = top at c3 ⊢
        simp
        have c4 : ¬ (top : Int) < (a.h : Int) * 2 ^ b.l := by rw [pwI, es]; exact fun q => c3 (Int.ofNat_lt.mp q)
        refine ⟨cz _ ha.2.1, cast (congrArg Ψ ?_) hΨ⟩
        exact (decide_eq_false c4).symm
      simp only [dNext]
      refine hM _ ?_
      generalize 2 ^ w - 1 = top at h ⊢
      simp
      rw [pwI, es, es, es, bA]
      exact ⟨cz _ ha.1, cz _ ha.2.1, cz _ ha.2.2.2, l4, h⟩
  · rw [if_neg c2] at h
    simp only [shrR, ri] at h
    refine dIfS_two (fun c => c = false) (fun Ψ hΨ => ?_) (fun hc => by cases hc) (fun _ => ?_)
    · have hΨ := hΨ _ rfl
      simpa [c2] using hΨ
    simp only [dNext]
    refine hN _ ?_
    clear hN N
    generalize 2 ^ w - 1 = top at h et ⊢
    simp
    rw [pwI, ed, ed, ed, ed, ed, et, bO]
    exact ⟨l4, h⟩


def vp__law_binary_row : VSp := fun rs Φ => ∃ (op : Str) (w : Nat) (a b : Rg), rs = [.d (.str op), .d (.int w), .d (rg a), .d (rg b)] ∧ op ∈ ops ∧ 1 ≤ w ∧ w ≤ 64 ∧ InW w a ∧ InW w b ∧ a.l ≤ a.h ∧ b.l ≤ b.h ∧ ∀ x, RowR w a b op x → Φ (.d (riO x))
theorem len__law_binary_row : ∀ rs Φ, vp__law_binary_row rs Φ → rs.length = 4 := fun rs Φ ⟨_, _, _, _, e, _⟩ => by rw [e]; rfl
theorem G__law_binary_row (T : Txt K mg w) : FnOk P w K mg base CX0 3 T.f__law_binary_row T.fd__law_binary_row ["op", "w", "a", "b"] (toSp K 4 vp__law_binary_row) := by
  refine fn_ok T.F__law_binary_row sc__law_binary_row fun cdv A outer s H E hr => ⟨_, (pss_cons (ps_set (i := 4) sc__law_binary_row.nd rfl (Or.inl rfl) (pe_op op_sub (pe_op op_shl pe_int (pv 1)) pe_int))
 (pss_cons (ps_if (pt_cmpR (kx_in (K := K) rfl) (pv 0) (pe_tup (pa_cons pe_str (pa_cons pe_str (pa_cons pe_str pa_nil)))) (by rfl)) (pss_one (ps_ret (pe_call (G__law_sum_row T) hr (by rfl) T.g__law_sum_row T.F__law_sum_row.kp T.b__law_sum_row .nil pass0 (pa_cons (pv 0) (pa_cons (pv 1) (pa_cons (pv 2) (pa_cons (pv 3) pa_nil))))))) pss_nil)
 (pss_cons (ps_if (pt_cmpR op_eq (pv 0) pe_str (nomark _)) (pss_one (ps_ret (pe_tup (pa_cons pe_int (pa_cons (pe_callB (call_min2 rfl) (by rfl) T.min (by decide +kernel) (pa_cons (pe_ix (kx_seq (K := K) rfl) (pv 2) pe_int (fun _ _ => rfl)) (pa_cons (pe_ix (kx_seq (K := K) rfl) (pv 3) pe_int (fun _ _ => rfl)) pa_nil))) (pa_cons (pe_op op_or (pe_ix (kx_seq (K := K) rfl) (pv 2) pe_int (fun _ _ => rfl)) (pe_ix (kx_seq (K := K) rfl) (pv 3) pe_int (fun _ _ => rfl))) (pa_cons (pe_op op_and (pe_ix (kx_seq (K := K) rfl) (pv 2) pe_int (fun _ _ => rfl)) (pe_ix (kx_seq (K := K) rfl) (pv 3) pe_int (fun _ _ => rfl))) pa_nil))))))) pss_nil)
 (pss_cons (ps_if (pt_cmpR op_eq (pv 0) pe_str (nomark _)) (pss_one (ps_ret (pe_tup (pa_cons (pe_callB (call_max2 rfl) (by rfl) T.max (by decide +kernel) (pa_cons (pe_ix (kx_seq (K := K) rfl) (pv 2) pe_int (fun _ _ => rfl)) (pa_cons (pe_ix (kx_seq (K := K) rfl) (pv 3) pe_int (fun _ _ => rfl)) pa_nil))) (pa_cons (pv 4) (pa_cons (pe_op op_and (pe_ix (kx_seq (K := K) rfl) (pv 2) pe_int (fun _ _ => rfl)) (pe_ix (kx_seq (K := K) rfl) (pv 3) pe_int (fun _ _ => rfl))) (pa_cons (pe_op op_or (pe_ix (kx_seq (K := K) rfl) (pv 2) pe_int (fun _ _ => rfl)) (pe_ix (kx_seq (K := K) rfl) (pv 3) pe_int (fun _ _ => rfl))) pa_nil))))))) pss_nil)
 (pss_cons (ps_if (pt_cmpR op_eq (pv 0) pe_str (nomark _)) (pss_one (ps_ret (pe_tup (pa_cons pe_int (pa_cons (pv 4) (pa_cons (pe_op op_or (pe_op op_and (pe_ix (kx_seq (K := K) rfl) (pv 2) pe_int (fun _ _ => rfl)) (pe_ix (kx_seq (K := K) rfl) (pv 3) pe_int (fun _ _ => rfl))) (pe_op op_and (pe_ix (kx_seq (K := K) rfl) (pv 2) pe_int (fun _ _ => rfl)) (pe_ix (kx_seq (K := K) rfl) (pv 3) pe_int (fun _ _ => rfl)))) (pa_cons (pe_op op_or (pe_op op_and (pe_ix (kx_seq (K := K) rfl) (pv 2) pe_int (fun _ _ => rfl)) (pe_ix (kx_seq (K := K) rfl) (pv 3) pe_int (fun _ _ => rfl))) (pe_op op_and (pe_ix (kx_seq (K := K) rfl) (pv 2) pe_int (fun _ _ => rfl)) (pe_ix (kx_seq (K := K) rfl) (pv 3) pe_int (fun _ _ => rfl)))) pa_nil))))))) pss_nil)
 (pss_cons (ps_if (pt_cmpR (kx_in (K := K) rfl) (pv 0) (pe_tup (pa_cons pe_str (pa_cons pe_str (pa_cons pe_str pa_nil)))) (by rfl)) (pss_one (ps_ret (pe_call (G__law_shift_row T) (hr.mono (by decide)) (by rfl) T.g__law_shift_row T.F__law_shift_row.kp T.b__law_shift_row .nil pass0 (pa_cons (pv 0) (pa_cons (pv 1) (pa_cons (pv 2) (pa_cons (pv 3) pa_nil))))))) pss_nil)
 (pss_cons (ps_if (PW.pt (pw_and (pt_cmpR (kx_in (K := K) rfl) (pv 0) (pe_tup (pa_cons pe_str (pa_cons pe_str pa_nil))) (by rfl)) (pw_and1 (pt_cmpR op_eq (pe_ix (kx_seq (K := K) rfl) (pv 3) pe_int (fun _ _ => rfl)) pe_int (nomark _))))) (pss_one (ps_ret pe_non)) pss_nil)
 (pss_cons (ps_if (pt_cmpR op_eq (pv 0) pe_str (nomark _)) (pss_one (ps_ret (pe_ifExp (pt_cmpR op_eq (pe_ix (kx_seq (K := K) rfl) (pv 3) pe_int (fun _ _ => rfl)) (pe_ix (kx_seq (K := K) rfl) (pv 3) pe_int (fun _ _ => rfl)) (nomark _)) (pe_tup (pa_cons (pe_op op_fdivW (pe_ix (kx_seq (K := K) rfl) (pv 2) pe_int (fun _ _ => rfl)) (pe_ix (kx_seq (K := K) rfl) (pv 3) pe_int (fun _ _ => rfl))) (pa_cons (pe_op op_fdivW (pe_ix (kx_seq (K := K) rfl) (pv 2) pe_int (fun _ _ => rfl)) (pe_ix (kx_seq (K := K) rfl) (pv 3) pe_int (fun _ _ => rfl))) (pa_cons pe_int (pa_cons pe_int pa_nil))))) (pe_tup (pa_cons pe_int (pa_cons (pe_ix (kx_seq (K := K) rfl) (pv 2) pe_int (fun _ _ => rfl)) (pa_cons pe_int (pa_cons pe_int pa_nil)))))))) pss_nil)
 (pss_cons (ps_if (PW.pt (pw_and (pt_cmpR op_eq (pv 0) pe_str (nomark _)) (pw_and1 (pt_cmpR op_eq (pe_ix (kx_seq (K := K) rfl) (pv 3) pe_int (fun _ _ => rfl)) (pe_ix (kx_seq (K := K) rfl) (pv 3) pe_int (fun _ _ => rfl)) (nomark _))))) (pss_one (ps_ret (pe_ifExp (pt_cmpR op_lt (pe_ix (kx_seq (K := K) rfl) (pv 2) pe_int (fun _ _ => rfl)) (pe_ix (kx_seq (K := K) rfl) (pv 3) pe_int (fun _ _ => rfl)) (nomark _)) (pe_tup (pa_cons (pe_ix (kx_seq (K := K) rfl) (pv 2) pe_int (fun _ _ => rfl)) (pa_cons (pe_ix (kx_seq (K := K) rfl) (pv 2) pe_int (fun _ _ => rfl)) (pa_cons pe_int (pa_cons pe_int pa_nil))))) (pe_tup (pa_cons pe_int (pa_cons (pe_op op_sub (pe_ix (kx_seq (K := K) rfl) (pv 3) pe_int (fun _ _ => rfl)) pe_int) (pa_cons pe_int (pa_cons pe_int pa_nil)))))))) pss_nil)
 (pss_cons (ps_if (pt_cmpR op_eq (pv 0) pe_str (nomark _)) (pss_one (ps_ret (pe_tup (pa_cons pe_int (pa_cons (pe_callB (call_min2 rfl) (by rfl) T.min (by decide +kernel) (pa_cons (pe_ix (kx_seq (K := K) rfl) (pv 2) pe_int (fun _ _ => rfl)) (pa_cons (pe_op op_sub (pe_ix (kx_seq (K := K) rfl) (pv 3) pe_int (fun _ _ => rfl)) pe_int) pa_nil))) (pa_cons pe_int (pa_cons pe_int pa_nil))))))) pss_nil)
 (pss_one (ps_ret (pe_tup (pa_cons pe_int (pa_cons (pv 4) (pa_cons pe_int (pa_cons pe_int pa_nil))))))))))))))))), _, fun ex He Hf => (sms_seq (sms_asg (sm_op (f1 := false) (f2 := false) (opd_I0 (g' := fun i j => .int (i - j)) fun _ _ => rfl) (sm_op (f1 := false) (f2 := false) (opd_I (g' := fun i j => .int (i * 2 ^ j.toNat)) fun _ _ => rfl) (sm_int _) (sm_var 1)) (sm_int _)) (smg_name 4))
 (sms_seq (sms_if (smt_t (f1 := false) (sm_op (f1 := false) (f2 := false) (opd_in false) (sm_var 0) (sm_tup (sma_cons (sm_str _) (sma_cons (sm_str _) (sma_cons (sm_str _) sma_nil))))))
 (sms_ret (sm_call len__law_sum_row (smq_cons (sm_var 0) (smq_cons (sm_var 1) (smq_cons (sm_var 2) (smq_cons (sm_var 3) smq_nil))))))
 sms_next)
 (sms_seq (sms_if (smt_t (f1 := false) (sm_op (f1 := false) (f2 := false) opd_eq (sm_var 0) (sm_str _)))
 (sms_ret (sm_tup (sma_cons (sm_int _) (sma_cons (sm_cb (f1 := false) cbd_min (sma_cons (sm_ix (f2 := false) (sm_var 2) (sm_int _)) (sma_cons (sm_ix (f2 := false) (sm_var 3) (sm_int _)) sma_nil))) (sma_cons (sm_op (f1 := false) (f2 := false) (opd_I0 (g' := fun i j => .int (Builtin.bitOr i j)) fun _ _ => rfl) (sm_ix (f2 := false) (sm_var 2) (sm_int _)) (sm_ix (f2 := false) (sm_var 3) (sm_int _))) (sma_cons (sm_op (f1 := false) (f2 := false) (opd_I0 (g' := fun i j => .int (Builtin.bitAnd i j)) fun _ _ => rfl) (sm_ix (f2 := false) (sm_var 2) (sm_int _)) (sm_ix (f2 := false) (sm_var 3) (sm_int _))) sma_nil))))))
 sms_next)
 (sms_seq (sms_if (smt_t (f1 := false) (sm_op (f1 := false) (f2 := false) opd_eq (sm_var 0) (sm_str _)))
 (sms_ret (sm_tup (sma_cons (sm_cb (f1 := false) cbd_max (sma_cons (sm_ix (f2 := false) (sm_var 2) (sm_int _)) (sma_cons (sm_ix (f2 := false) (sm_var 3) (sm_int _)) sma_nil))) (sma_cons (sm_var 4) (sma_cons (sm_op (f1 := false) (f2 := false) (opd_I0 (g' := fun i j => .int (Builtin.bitAnd i j)) fun _ _ => rfl) (sm_ix (f2 := false) (sm_var 2) (sm_int _)) (sm_ix (f2 := false) (sm_var 3) (sm_int _))) (sma_cons (sm_op (f1 := false) (f2 := false) (opd_I0 (g' := fun i j => .int (Builtin.bitOr i j)) fun _ _ => rfl) (sm_ix (f2 := false) (sm_var 2) (sm_int _)) (sm_ix (f2 := false) (sm_var 3) (sm_int _))) sma_nil))))))
 sms_next)
 (sms_seq (sms_if (smt_t (f1 := false) (sm_op (f1 := false) (f2 := false) opd_eq (sm_var 0) (sm_str _)))
 (sms_ret (sm_tup (sma_cons (sm_int _) (sma_cons (sm_var 4) (sma_cons (sm_op (f1 := false) (f2 := false) (opd_I0 (g' := fun i j => .int (Builtin.bitOr i j)) fun _ _ => rfl) (sm_op (f1 := false) (f2 := false) (opd_I0 (g' := fun i j => .int (Builtin.bitAnd i j)) fun _ _ => rfl) (sm_ix (f2 := false) (sm_var 2) (sm_int _)) (sm_ix (f2 := false) (sm_var 3) (sm_int _))) (sm_op (f1 := false) (f2 := false) (opd_I0 (g' := fun i j => .int (Builtin.bitAnd i j)) fun _ _ => rfl) (sm_ix (f2 := false) (sm_var 2) (sm_int _)) (sm_ix (f2 := false) (sm_var 3) (sm_int _)))) (sma_cons (sm_op (f1 := false) (f2 := false) (opd_I0 (g' := fun i j => .int (Builtin.bitOr i j)) fun _ _ => rfl) (sm_op (f1 := false) (f2 := false) (opd_I0 (g' := fun i j => .int (Builtin.bitAnd i j)) fun _ _ => rfl) (sm_ix (f2 := false) (sm_var 2) (sm_int _)) (sm_ix (f2 := false) (sm_var 3) (sm_int _))) (sm_op (f1 := false) (f2 := false) (opd_I0 (g' := fun i j => .int (Builtin.bitAnd i j)) fun _ _ => rfl) (sm_ix (f2 := false) (sm_var 2) (sm_int _)) (sm_ix (f2 := false) (sm_var 3) (sm_int _)))) sma_nil))))))
 sms_next)
 (sms_seq (sms_if (smt_t (f1 := false) (sm_op (f1 := false) (f2 := false) (opd_in false) (sm_var 0) (sm_tup (sma_cons (sm_str _) (sma_cons (sm_str _) (sma_cons (sm_str _) sma_nil))))))
 (sms_ret (sm_call len__law_shift_row (smq_cons (sm_var 0) (smq_cons (sm_var 1) (smq_cons (sm_var 2) (smq_cons (sm_var 3) smq_nil))))))
 sms_next)
 (sms_seq (sms_if (smt_and (smt_t (f1 := false) (sm_op (f1 := false) (f2 := false) (opd_in false) (sm_var 0) (sm_tup (sma_cons (sm_str _) (sma_cons (sm_str _) sma_nil))))) (smt_t (f1 := false) (sm_op (f1 := false) (f2 := false) opd_eq (sm_ix (f2 := false) (sm_var 3) (sm_int _)) (sm_int _))))
 (sms_ret sm_non)
 sms_next)
 (sms_seq (sms_if (smt_t (f1 := false) (sm_op (f1 := false) (f2 := false) opd_eq (sm_var 0) (sm_str _)))
 (sms_ret (sm_if (smt_t (f1 := false) (sm_op (f1 := false) (f2 := false) opd_eq (sm_ix (f2 := false) (sm_var 3) (sm_int _)) (sm_ix (f2 := false) (sm_var 3) (sm_int _)))) (sm_tup (sma_cons (sm_op (f1 := false) (f2 := false) (opd_I (g' := fun i j => .int (i / j)) fun _ _ => rfl) (sm_ix (f2 := false) (sm_var 2) (sm_int _)) (sm_ix (f2 := false) (sm_var 3) (sm_int _))) (sma_cons (sm_op (f1 := false) (f2 := false) (opd_I (g' := fun i j => .int (i / j)) fun _ _ => rfl) (sm_ix (f2 := false) (sm_var 2) (sm_int _)) (sm_ix (f2 := false) (sm_var 3) (sm_int _))) (sma_cons (sm_int _) (sma_cons (sm_int _) sma_nil))))) (sm_tup (sma_cons (sm_int _) (sma_cons (sm_ix (f2 := false) (sm_var 2) (sm_int _)) (sma_cons (sm_int _) (sma_cons (sm_int _) sma_nil)))))))
 sms_next)
 (sms_seq (sms_if (smt_and (smt_t (f1 := false) (sm_op (f1 := false) (f2 := false) opd_eq (sm_var 0) (sm_str _))) (smt_t (f1 := false) (sm_op (f1 := false) (f2 := false) opd_eq (sm_ix (f2 := false) (sm_var 3) (sm_int _)) (sm_ix (f2 := false) (sm_var 3) (sm_int _)))))
 (sms_ret (sm_if (smt_t (f1 := false) (sm_op (f1 := false) (f2 := false) (opd_I0 (g' := fun i j => .bool (decide (i < j))) fun _ _ => rfl) (sm_ix (f2 := false) (sm_var 2) (sm_int _)) (sm_ix (f2 := false) (sm_var 3) (sm_int _)))) (sm_tup (sma_cons (sm_ix (f2 := false) (sm_var 2) (sm_int _)) (sma_cons (sm_ix (f2 := false) (sm_var 2) (sm_int _)) (sma_cons (sm_int _) (sma_cons (sm_int _) sma_nil))))) (sm_tup (sma_cons (sm_int _) (sma_cons (sm_op (f1 := false) (f2 := false) (opd_I0 (g' := fun i j => .int (i - j)) fun _ _ => rfl) (sm_ix (f2 := false) (sm_var 3) (sm_int _)) (sm_int _)) (sma_cons (sm_int _) (sma_cons (sm_int _) sma_nil)))))))
 sms_next)
 (sms_seq (sms_if (smt_t (f1 := false) (sm_op (f1 := false) (f2 := false) opd_eq (sm_var 0) (sm_str _)))
 (sms_ret (sm_tup (sma_cons (sm_int _) (sma_cons (sm_cb (f1 := false) cbd_min (sma_cons (sm_ix (f2 := false) (sm_var 2) (sm_int _)) (sma_cons (sm_op (f1 := false) (f2 := false) (opd_I0 (g' := fun i j => .int (i - j)) fun _ _ => rfl) (sm_ix (f2 := false) (sm_var 3) (sm_int _)) (sm_int _)) sma_nil))) (sma_cons (sm_int _) (sma_cons (sm_int _) sma_nil))))))
 sms_next)
 (sms_ret (sm_tup (sma_cons (sm_int _) (sma_cons (sm_var 4) (sma_cons (sm_int _) (sma_cons (sm_int _) sma_nil)))))))))))))))), ?_⟩
  rintro rs Φ ⟨op, w, a, b, rfl, ho, h1, hw, ha, hb, al, bl, h⟩
  have l4 : (4 : Nat) ≤ sizeLine := by decide
  have l3 : (3 : Nat) ≤ sizeLine := by decide
  have l2 : (2 : Nat) ≤ sizeLine := by decide
  have hp := Nat.two_pow_pos w
  have p64 := Nat.pow_le_pow_right (n := 2) (by decide) hw
  have inj : ∀ x y : Nat, ((x : Int) = (y : Int)) = (x = y) := fun x y => propext Int.ofNat_inj
  refine seq_op fun N hN => ?_
  simp [startD]
  rw [pw_nat]
  refine ⟨cp1 (by omega) (by omega), hN _ ?_⟩
  clear hN N
  generalize hT : 2 ^ w - 1 = top at h ⊢
  rcases ops_grp ho with rfl | rfl | rfl | hg | hg | hg | hg
  · have h := h _ .and
    have an : (if b.h < a.h then (b.h : Int) else (a.h : Int)) = ((min a.h b.h : Nat) : Int) := by split <;> omega
    have hin : inD (.str "and") [.str "add", .str "sub", .str "mul"] = false := by decide +kernel
    simp only [riO, andR, ri] at h
    refine if_skip (fun Ψ hΨ => by simpa [hin, l3] using hΨ) ?_
    refine if_take (fun Ψ hΨ => by simpa using hΨ) fun N hN => ?_
    simp [rg, bA, bO, an, l4]
    exact h
  · have h := h _ .or
    have am : (if a.l < b.l then (b.l : Int) else (a.l : Int)) = ((max a.l b.l : Nat) : Int) := by split <;> omega
    have hin : inD (.str "or") [.str "add", .str "sub", .str "mul"] = false := by decide +kernel
    simp only [riO, orR, ri, hT] at h
    refine if_skip (fun Ψ hΨ => by simpa [hin, l3] using hΨ) ?_
    refine if_skip (fun Ψ hΨ => by simpa using hΨ) ?_
    refine if_take (fun Ψ hΨ => by simpa using hΨ) fun N hN => ?_
    simp [rg, bA, bO, am, l4]
    exact h
  · have h := h _ .xor
    have hin : inD (.str "xor") [.str "add", .str "sub", .str "mul"] = false := by decide +kernel
    simp only [riO, xorR, ri, hT] at h
    refine if_skip (fun Ψ hΨ => by simpa [hin, l3] using hΨ) ?_
    refine if_skip (fun Ψ hΨ => by simpa using hΨ) ?_
    refine if_skip (fun Ψ hΨ => by simpa using hΨ) ?_
    refine if_take (fun Ψ hΨ => by simpa using hΨ) fun N hN => ?_
    simp (maxSteps := 2000000) [rg, bA, bO, l4]
    exact h
  · have hin : inD (.str op) [.str "add", .str "sub", .str "mul"] = true := by rcases hg with rfl | rfl | rfl <;> decide +kernel
    refine if_take (fun Ψ hΨ => by simpa [hin, l3] using hΨ) fun N hN => ?_
    simp
    exact ⟨op, w, a, b, rfl, hg, hw, ha, hb, al, bl, fun j hj => h _ (.ar hg hj)⟩
  · have h := h _ (.sh hg)
    have hin : inD (.str op) [.str "add", .str "sub", .str "mul"] = false := by rcases hg with rfl | rfl | rfl <;> decide +kernel
    have hin2 : inD (.str op) [.str "shl", .str "lshr", .str "ashr"] = true := by rcases hg with rfl | rfl | rfl <;> decide +kernel
    have n1 : ¬ op = "and" := by rcases hg with rfl | rfl | rfl <;> decide
    have n2 : ¬ op = "or" := by rcases hg with rfl | rfl | rfl <;> decide
    have n3 : ¬ op = "xor" := by rcases hg with rfl | rfl | rfl <;> decide
    refine if_skip (fun Ψ hΨ => by simpa [hin, l3] using hΨ) ?_
    refine if_skip (fun Ψ hΨ => by simpa [n1] using hΨ) ?_
    refine if_skip (fun Ψ hΨ => by simpa [n2] using hΨ) ?_
    refine if_skip (fun Ψ hΨ => by simpa [n3] using hΨ) ?_
    refine if_take (fun Ψ hΨ => by simpa [hin2, l3] using hΨ) fun N hN => ?_
    simp
    exact ⟨op, w, a, b, rfl, h1, hw, ha, h⟩
  · have h := h _ (.dv hg)
    have hin : inD (.str op) [.str "add", .str "sub", .str "mul"] = false := by rcases hg with rfl | rfl <;> decide +kernel
    have hin2 : inD (.str op) [.str "shl", .str "lshr", .str "ashr"] = false := by rcases hg with rfl | rfl <;> decide +kernel
    have hin3 : inD (.str op) [.str "udiv", .str "urem"] = true := by rcases hg with rfl | rfl <;> decide +kernel
    have n1 : ¬ op = "and" := by rcases hg with rfl | rfl <;> decide
    have n2 : ¬ op = "or" := by rcases hg with rfl | rfl <;> decide
    have n3 : ¬ op = "xor" := by rcases hg with rfl | rfl <;> decide
    have b2 := hb.2.1
    have a2 := ha.2.1
    refine if_skip (fun Ψ hΨ => by simpa [hin, l3] using hΨ) ?_
    refine if_skip (fun Ψ hΨ => by simpa [n1] using hΨ) ?_
    refine if_skip (fun Ψ hΨ => by simpa [n2] using hΨ) ?_
    refine if_skip (fun Ψ hΨ => by simpa [n3] using hΨ) ?_
    refine if_skip (fun Ψ hΨ => by simpa [hin2, l3] using hΨ) ?_
    unfold divR at h
    by_cases c0 : b.h = 0
    · rw [if_pos c0] at h
      refine if_take (fun Ψ hΨ => by simpa [hin3, l2, rg, c0] using hΨ) fun N hN => ?_
      simp
      exact h
    rw [if_neg c0] at h
    refine if_skip (fun Ψ hΨ => by simpa [hin3, l2, rg, c0] using hΨ) ?_
    rcases hg with rfl | rfl
    · rw [if_pos rfl] at h
      refine if_take (fun Ψ hΨ => by simpa using hΨ) fun N hN => ?_
      by_cases c1 : b.l = b.h
      · simp only [riO, if_pos c1, ri] at h
        rw [c1] at h
        simp [rg, l4, c1]
        exact ⟨cdw (by omega) (by omega), cdw (by omega) (by omega), h⟩
      · simp only [riO, if_neg c1, ri] at h
        simp [rg, l4, inj, c1]
        exact h
    · rw [if_neg (by decide)] at h
      refine if_skip (fun Ψ hΨ => by simpa using hΨ) ?_
      by_cases c1 : b.l = b.h
      · refine if_take (fun Ψ hΨ => by simpa [rg, c1] using hΨ) fun N hN => ?_
        by_cases c3 : a.h < b.l
        · simp only [riO, if_pos c1, if_pos c3, ri] at h
          simp [rg, l4, c3]
          exact h
        · simp only [riO, if_pos c1, if_neg c3, ri] at h
          simp [rg, l4, c3]
          exact h
      · have an : (if (b.h : Int) - 1 < (a.h : Int) then (b.h : Int) - 1 else (a.h : Int)) = ((min a.h (b.h - 1) : Nat) : Int) := by split <;> omega
        simp only [riO, if_neg c1, ri] at h
        refine if_skip (fun Ψ hΨ => by simpa [rg, inj, c1] using hΨ) ?_
        refine if_take (fun Ψ hΨ => by simpa using hΨ) fun N hN => ?_
        simp [rg, l4, an]
        exact h
  · have h := h _ (.sd hg)
    have hin : inD (.str op) [.str "add", .str "sub", .str "mul"] = false := by rcases hg with rfl | rfl <;> decide +kernel
    have hin2 : inD (.str op) [.str "shl", .str "lshr", .str "ashr"] = false := by rcases hg with rfl | rfl <;> decide +kernel
    have hin3 : inD (.str op) [.str "udiv", .str "urem"] = false := by rcases hg with rfl | rfl <;> decide +kernel
    have n1 : ¬ op = "and" := by rcases hg with rfl | rfl <;> decide
    have n2 : ¬ op = "or" := by rcases hg with rfl | rfl <;> decide
    have n3 : ¬ op = "xor" := by rcases hg with rfl | rfl <;> decide
    have n4 : ¬ op = "udiv" := by rcases hg with rfl | rfl <;> decide
    have n5 : ¬ op = "urem" := by rcases hg with rfl | rfl <;> decide
    simp only [riO, ri, hT] at h
    refine if_skip (fun Ψ hΨ => by simpa [hin, l3] using hΨ) ?_
    refine if_skip (fun Ψ hΨ => by simpa [n1] using hΨ) ?_
    refine if_skip (fun Ψ hΨ => by simpa [n2] using hΨ) ?_
    refine if_skip (fun Ψ hΨ => by simpa [n3] using hΨ) ?_
    refine if_skip (fun Ψ hΨ => by simpa [hin2, l3] using hΨ) ?_
    refine if_skip (fun Ψ hΨ => by simpa [hin3, l2] using hΨ) ?_
    refine if_skip (fun Ψ hΨ => by simpa [n4] using hΨ) ?_
    refine if_skip (fun Ψ hΨ => by simpa [n5] using hΨ) ?_
    refine if_skip (fun Ψ hΨ => by simpa [n5] using hΨ) ?_
    simp [l4]
    exact h


def sgP (p : Str) : Bool := decide (p = "slt" ∨ p = "sle" ∨ p = "sgt" ∨ p = "sge")
def swP (p : Str) : Bool := decide (p = "ugt" ∨ p = "ule" ∨ p = "sgt" ∨ p = "sle")
def ngP (p : Str) : Bool := decide (p = "ule" ∨ p = "uge" ∨ p = "sle" ∨ p = "sge")
def mkD (p : Str) (w : Nat) (a b : Rg) : Option Bool := if ngP p = true then (lessD (sgP p) w a b).map not else lessD (sgP p) w a b
theorem dec_mk {p : Str} {w : Nat} {a b : Rg} (hp : p ∈ preds) (n1 : p ≠ "eq") (n2 : p ≠ "ne") : dec p w a b = if swP p = true then mkD p w b a else mkD p w a b := by
  rcases preds_cases hp with rfl | rfl | rfl | rfl | rfl | rfl | rfl | rfl | rfl | rfl
  · exact absurd rfl n1
  · exact absurd rfl n2
  all_goals simp [dec, mkD, swP, ngP, sgP]
def vp__law_order : VSp := fun rs Φ => ∃ (p : Str) (w : Nat) (a b : Rg), rs = [.d (.str p), .d (.int w), .d (rg a), .d (rg b)] ∧ p ∈ preds ∧ p ≠ "eq" ∧ p ≠ "ne" ∧ 1 ≤ w ∧ w ≤ 64 ∧ Φ (.d (oD (dec p w a b)))
theorem len__law_order : ∀ rs Φ, vp__law_order rs Φ → rs.length = 4 := fun rs Φ ⟨_, _, _, _, e, _⟩ => by rw [e]; rfl
theorem G__law_order (T : Txt K mg w) : FnOk P w K mg base CX0 1 T.f__law_order T.fd__law_order ["predicate", "w", "a", "b"] (toSp K 4 vp__law_order) := by
  refine fn_ok T.F__law_order sc__law_order fun cdv A outer s H E hr => ⟨_, (pss_cons (ps_if (pt_cmpR (kx_in (K := K) rfl) (pe_slice sl_str (pv 0) (po_some pe_int) po_none) (pe_tup (pa_cons pe_str (pa_cons pe_str pa_nil))) (by rfl)) (pss_one (ps_par (by rfl) sc__law_order.nd rfl rfl (by decide) rfl rfl (pa_cons (pv 3) (pa_cons (pv 2) pa_nil)) (by rfl))) pss_nil)
 (pss_cons (ps_set (i := 4) sc__law_order.nd rfl (Or.inl rfl) pe_non)
 (pss_cons (ps_if (pt_cmpR op_lt (pe_ix (kx_seq (K := K) rfl) (pv 2) pe_int (fun _ _ => rfl)) (pe_ix (kx_seq (K := K) rfl) (pv 3) pe_int (fun _ _ => rfl)) (nomark _)) (pss_one (ps_set (i := 4) sc__law_order.nd rfl (Or.inl rfl) pe_int)) (pss_one (ps_if (pt_cmpR op_ge (pe_ix (kx_seq (K := K) rfl) (pv 2) pe_int (fun _ _ => rfl)) (pe_ix (kx_seq (K := K) rfl) (pv 3) pe_int (fun _ _ => rfl)) (nomark _)) (pss_one (ps_set (i := 4) sc__law_order.nd rfl (Or.inl rfl) pe_int)) pss_nil)))
 (pss_cons (ps_if (pt_cmpR op_eq (pe_ix (kx_seq (K := K) rfl) (pv 0) pe_int (fun _ _ => rfl)) pe_str (nomark _)) (pss_cons (ps_if (PW.pt (pw_or (pt_cmpR op_eq (pe_op op_and (pe_op op_shr (pe_op op_or (pe_ix (kx_seq (K := K) rfl) (pv 2) pe_int (fun _ _ => rfl)) (pe_ix (kx_seq (K := K) rfl) (pv 2) pe_int (fun _ _ => rfl))) (pe_op op_sub (pv 1) pe_int)) pe_int) pe_int (nomark _)) (pw_or1 (pt_cmpR op_eq (pe_op op_and (pe_op op_shr (pe_op op_or (pe_ix (kx_seq (K := K) rfl) (pv 3) pe_int (fun _ _ => rfl)) (pe_ix (kx_seq (K := K) rfl) (pv 3) pe_int (fun _ _ => rfl))) (pe_op op_sub (pv 1) pe_int)) pe_int) pe_int (nomark _))))) (pss_one (ps_ret pe_non)) pss_nil)
 (pss_one (ps_if (pt_cmpR op_ne (pe_op op_and (pe_op op_shr (pe_ix (kx_seq (K := K) rfl) (pv 2) pe_int (fun _ _ => rfl)) (pe_op op_sub (pv 1) pe_int)) pe_int) (pe_op op_and (pe_op op_shr (pe_ix (kx_seq (K := K) rfl) (pv 3) pe_int (fun _ _ => rfl)) (pe_op op_sub (pv 1) pe_int)) pe_int) (nomark _)) (pss_one (ps_set (i := 4) sc__law_order.nd rfl (Or.inl rfl) (pe_op op_and (pe_op op_shr (pe_ix (kx_seq (K := K) rfl) (pv 2) pe_int (fun _ _ => rfl)) (pe_op op_sub (pv 1) pe_int)) pe_int))) pss_nil))) pss_nil)
 (pss_cons (ps_if (PW.pt (pw_and (pt_cmpR op_notN (pv 4) pe_non (nomark _)) (pw_and1 (pt_cmpR (kx_in (K := K) rfl) (pe_slice sl_str (pv 0) (po_some pe_int) po_none) (pe_tup (pa_cons pe_str (pa_cons pe_str pa_nil))) (by rfl))))) (pss_one (ps_ret (pe_op op_sub pe_int (pv 4)))) pss_nil)
 (pss_one (ps_ret (pv 4)))))))), _, fun ex He Hf => (sms_seq (sms_if (smt_t (f1 := false) (sm_op (f1 := false) (f2 := false) (opd_in false) (sm_sl_str (f1 := false) (sm_var 0) (smp_some (f1 := false) (sm_int _)) smp_none) (sm_tup (sma_cons (sm_str _) (sma_cons (sm_str _) sma_nil)))))
 (sms_par 2 3 (sm_var 3) (sm_var 2))
 sms_next)
 (sms_seq (sms_asg sm_non (smg_name 4))
 (sms_seq (sms_if (smt_t (f1 := false) (sm_op (f1 := false) (f2 := false) (opd_I0 (g' := fun i j => .bool (decide (i < j))) fun _ _ => rfl) (sm_ix (f2 := false) (sm_var 2) (sm_int _)) (sm_ix (f2 := false) (sm_var 3) (sm_int _))))
 (sms_asg (sm_int _) (smg_name 4))
 (sms_if (smt_t (f1 := false) (sm_op (f1 := false) (f2 := false) (opd_I0 (g' := fun i j => .bool (decide (j ≤ i))) fun _ _ => rfl) (sm_ix (f2 := false) (sm_var 2) (sm_int _)) (sm_ix (f2 := false) (sm_var 3) (sm_int _))))
 (sms_asg (sm_int _) (smg_name 4))
 sms_next))
 (sms_seq (sms_if (smt_t (f1 := false) (sm_op (f1 := false) (f2 := false) opd_eq (sm_ix (f2 := false) (sm_var 0) (sm_int _)) (sm_str _)))
 (sms_seq (sms_if (smt_or (smt_t (f1 := false) (sm_op (f1 := false) (f2 := false) opd_eq (sm_op (f1 := false) (f2 := false) (opd_I0 (g' := fun i j => .int (Builtin.bitAnd i j)) fun _ _ => rfl) (sm_op (f1 := false) (f2 := false) (opd_I (g' := fun i j => .int (i / 2 ^ j.toNat)) fun _ _ => rfl) (sm_op (f1 := false) (f2 := false) (opd_I0 (g' := fun i j => .int (Builtin.bitOr i j)) fun _ _ => rfl) (sm_ix (f2 := false) (sm_var 2) (sm_int _)) (sm_ix (f2 := false) (sm_var 2) (sm_int _))) (sm_op (f1 := false) (f2 := false) (opd_I0 (g' := fun i j => .int (i - j)) fun _ _ => rfl) (sm_var 1) (sm_int _))) (sm_int _)) (sm_int _))) (smt_t (f1 := false) (sm_op (f1 := false) (f2 := false) opd_eq (sm_op (f1 := false) (f2 := false) (opd_I0 (g' := fun i j => .int (Builtin.bitAnd i j)) fun _ _ => rfl) (sm_op (f1 := false) (f2 := false) (opd_I (g' := fun i j => .int (i / 2 ^ j.toNat)) fun _ _ => rfl) (sm_op (f1 := false) (f2 := false) (opd_I0 (g' := fun i j => .int (Builtin.bitOr i j)) fun _ _ => rfl) (sm_ix (f2 := false) (sm_var 3) (sm_int _)) (sm_ix (f2 := false) (sm_var 3) (sm_int _))) (sm_op (f1 := false) (f2 := false) (opd_I0 (g' := fun i j => .int (i - j)) fun _ _ => rfl) (sm_var 1) (sm_int _))) (sm_int _)) (sm_int _))))
 (sms_ret sm_non)
 sms_next)
 (sms_if (smt_t (f1 := false) (sm_op (f1 := false) (f2 := false) opd_ne (sm_op (f1 := false) (f2 := false) (opd_I0 (g' := fun i j => .int (Builtin.bitAnd i j)) fun _ _ => rfl) (sm_op (f1 := false) (f2 := false) (opd_I (g' := fun i j => .int (i / 2 ^ j.toNat)) fun _ _ => rfl) (sm_ix (f2 := false) (sm_var 2) (sm_int _)) (sm_op (f1 := false) (f2 := false) (opd_I0 (g' := fun i j => .int (i - j)) fun _ _ => rfl) (sm_var 1) (sm_int _))) (sm_int _)) (sm_op (f1 := false) (f2 := false) (opd_I0 (g' := fun i j => .int (Builtin.bitAnd i j)) fun _ _ => rfl) (sm_op (f1 := false) (f2 := false) (opd_I (g' := fun i j => .int (i / 2 ^ j.toNat)) fun _ _ => rfl) (sm_ix (f2 := false) (sm_var 3) (sm_int _)) (sm_op (f1 := false) (f2 := false) (opd_I0 (g' := fun i j => .int (i - j)) fun _ _ => rfl) (sm_var 1) (sm_int _))) (sm_int _))))
 (sms_asg (sm_op (f1 := false) (f2 := false) (opd_I0 (g' := fun i j => .int (Builtin.bitAnd i j)) fun _ _ => rfl) (sm_op (f1 := false) (f2 := false) (opd_I (g' := fun i j => .int (i / 2 ^ j.toNat)) fun _ _ => rfl) (sm_ix (f2 := false) (sm_var 2) (sm_int _)) (sm_op (f1 := false) (f2 := false) (opd_I0 (g' := fun i j => .int (i - j)) fun _ _ => rfl) (sm_var 1) (sm_int _))) (sm_int _)) (smg_name 4))
 sms_next))
 sms_next)
 (sms_seq (sms_if (smt_and (smt_t (f1 := false) (sm_op (f1 := false) (f2 := false) opd_notN (sm_var 4) sm_non)) (smt_t (f1 := false) (sm_op (f1 := false) (f2 := false) (opd_in false) (sm_sl_str (f1 := false) (sm_var 0) (smp_some (f1 := false) (sm_int _)) smp_none) (sm_tup (sma_cons (sm_str _) (sma_cons (sm_str _) sma_nil))))))
 (sms_ret (sm_op (f1 := false) (f2 := false) (opd_I0 (g' := fun i j => .int (i - j)) fun _ _ => rfl) (sm_int _) (sm_var 4)))
 sms_next)
 (sms_ret (sm_var 4))))))), ?_⟩
  rintro rs Φ ⟨p, w, a, b, rfl, hp, n1, n2, h1, hw, h⟩
  have l2 : (2 : Nat) ≤ sizeLine := by decide
  have e1 : ((w : Int) - 1).toNat = w - 1 := by omega
  rw [dec_mk hp n1 n2] at h
  refine seq_op fun N hN => ?_
  have s1 : ∀ a b : Rg, Φ (.d (oD (mkD p w a b))) → N [some (.d (.str p)), some (.d (.int w)), some (.d (rg a)), some (.d (rg b)), none] := by
    clear h a b
    intro a b h
    refine hN _ ?_
    clear hN N
    refine seq_op fun N hN => ?_
    simp
    refine hN _ ?_
    clear hN N
    refine seq_op fun N hN => ?_
    have s2 : N [some (.d (.str p)), some (.d (.int w)), some (.d (rg a)), some (.d (rg b)), some (.d (oD (if a.h < b.l then some true else if b.h ≤ a.l then some false else none)))] := by
      refine hN _ ?_
      clear hN N
      refine seq_op fun N hN => ?_
      have s3 : N [some (.d (.str p)), some (.d (.int w)), some (.d (rg a)), some (.d (rg b)), some (.d (oD (lessD (sgP p) w a b)))] := by
        refine hN _ ?_
        clear hN N
        unfold mkD at h
        generalize lessD (sgP p) w a b = r at h ⊢
        refine seq_op fun N hN => ?_
        refine dIfS_two (fun c => c = (r.isSome && ngP p)) (fun Ψ hΨ => ?_) (fun hc => ?_) (fun hc => ?_)
        · have hΨ := hΨ _ rfl
          cases r with
          | none => simpa [oD] using hΨ
          | some c =>
            simp only [Option.isSome_some, Bool.true_and] at hΨ
            rcases preds_cases hp with rfl | rfl | rfl | rfl | rfl | rfl | rfl | rfl | rfl | rfl
            · exact absurd rfl n1
            · exact absurd rfl n2
            · have hin : inD (.str "lt") [.str "le", .str "ge"] = false := by decide +kernel
              simpa [oD, p1_ult, hin, l2, ngP] using hΨ
            · have hin : inD (.str "le") [.str "le", .str "ge"] = true := by decide +kernel
              simpa [oD, p1_ule, hin, l2, ngP] using hΨ
            · have hin : inD (.str "gt") [.str "le", .str "ge"] = false := by decide +kernel
              simpa [oD, p1_ugt, hin, l2, ngP] using hΨ
            · have hin : inD (.str "ge") [.str "le", .str "ge"] = true := by decide +kernel
              simpa [oD, p1_uge, hin, l2, ngP] using hΨ
            · have hin : inD (.str "lt") [.str "le", .str "ge"] = false := by decide +kernel
              simpa [oD, p1_slt, hin, l2, ngP] using hΨ
            · have hin : inD (.str "le") [.str "le", .str "ge"] = true := by decide +kernel
              simpa [oD, p1_sle, hin, l2, ngP] using hΨ
            · have hin : inD (.str "gt") [.str "le", .str "ge"] = false := by decide +kernel
              simpa [oD, p1_sgt, hin, l2, ngP] using hΨ
            · have hin : inD (.str "ge") [.str "le", .str "ge"] = true := by decide +kernel
              simpa [oD, p1_sge, hin, l2, ngP] using hΨ
        · cases r with
          | none => simp at hc
          | some c =>
            have hc : ngP p = true := by simpa using hc.symm
            rw [if_pos hc] at h
            cases c <;> simpa [oD] using h
        · have h : Φ (.d (oD r)) := by
            cases r with
            | none => simpa [oD] using h
            | some c =>
              have hc : ngP p = false := by simpa using hc.symm
              rw [if_neg (by rw [hc]; decide)] at h
              exact h
          simp only [dNext]
          refine hN _ ?_
          simp
          exact h
      refine dIfS_two (fun c => c = sgP p) (fun Ψ hΨ => ?_) (fun hc => ?_) (fun hc => ?_)
      · have hΨ := hΨ _ rfl
        rcases preds_cases hp with rfl | rfl | rfl | rfl | rfl | rfl | rfl | rfl | rfl | rfl
        · exact absurd rfl n1
        · exact absurd rfl n2
        · simpa [pl_ult, pc_ult, nos_u, sgP] using hΨ
        · simpa [pl_ule, pc_ule, nos_u, sgP] using hΨ
        · simpa [pl_ugt, pc_ugt, nos_u, sgP] using hΨ
        · simpa [pl_uge, pc_uge, nos_u, sgP] using hΨ
        · simpa [pl_slt, pc_slt, yes_s, sgP] using hΨ
        · simpa [pl_sle, pc_sle, yes_s, sgP] using hΨ
        · simpa [pl_sgt, pc_sgt, yes_s, sgP] using hΨ
        · simpa [pl_sge, pc_sge, yes_s, sgP] using hΨ
      · have hI : (1 : Int) ≤ (w : Int) := by omega
        rw [← hc] at s3
        unfold mkD at h
        rw [← hc] at h
        clear hN
        refine seq_op fun M hM => ?_
        refine dIfS_two (fun c => c = (unk w a || unk w b)) (fun Ψ hΨ => ?_) (fun hu => ?_) (fun hu => ?_)
        · have hΨ := hΨ _ rfl
          have za := bit1z (a.z ||| a.o) (w - 1)
          have zb := bit1z (b.z ||| b.o) (w - 1)
          unfold unk at hΨ
          rw [← za, ← zb] at hΨ
          generalize hx : Builtin.bitAnd (((a.z ||| a.o : Nat) : Int) / 2 ^ (w - 1)) 1 = x at hΨ
          generalize hy : Builtin.bitAnd (((b.z ||| b.o : Nat) : Int) / 2 ^ (w - 1)) 1 = y at hΨ
          simp [rg, bO, e1, hx, hy]
          by_cases c1 : x = 0
          · simpa [c1, hI] using hΨ
          · by_cases c2 : y = 0 <;> simpa [c1, c2, hI] using hΨ
        · have hu : unk w a = true ∨ unk w b = true := by
            have := hu.symm
            rwa [Bool.or_eq_true] at this
          have hl : lessD true w a b = none := by unfold lessD; rw [if_pos ⟨rfl, hu⟩]
          rw [hl] at h
          simp
          simpa [oD] using h
        have hu : ¬ (unk w a = true ∨ unk w b = true) := by
          have := hu.symm
          rw [Bool.or_eq_false_iff] at this
          rw [this.1, this.2]
          decide
        unfold lessD at s3
        rw [if_neg (fun q => hu q.2)] at s3
        simp only [dNext]
        refine hM _ ?_
        clear hM M
        refine dIfS_two (fun c => c = decide (a.o &&& 2 ^ (w - 1) ≠ b.o &&& 2 ^ (w - 1))) (fun Ψ hΨ => ?_) (fun hu => ?_) (fun hu => ?_)
        · have hΨ := hΨ _ rfl
          have ba := bit1 a.o (w - 1)
          have bb := bit1 b.o (w - 1)
          have e : decide (a.o &&& 2 ^ (w - 1) ≠ b.o &&& 2 ^ (w - 1)) = decide (¬ a.o.testBit (w - 1) = b.o.testBit (w - 1)) := decide_eq_decide.mpr (not_congr (bit_same a.o b.o (w - 1)))
          rw [e] at hΨ
          simp [rg, e1, ba, bb]
          cases q1 : a.o.testBit (w - 1) <;> cases q2 : b.o.testBit (w - 1) <;> simpa [q1, q2, hI] using hΨ
        · have hu := of_decide_eq_true hu.symm
          rw [if_pos ⟨rfl, hu⟩] at s3
          have ba := bit1 a.o (w - 1)
          simp [rg, e1, ba]
          refine ⟨by omega, ?_⟩
          have bz := bit_zero a.o (w - 1)
          cases q1 : a.o.testBit (w - 1) with
          | false =>
            have z0 := bz.mpr q1
            simpa [oD, rg, z0] using s3
          | true =>
            have z0 : ¬ a.o &&& 2 ^ (w - 1) = 0 := fun z => by rw [bz.mp z] at q1; cases q1
            simpa [oD, rg, z0] using s3
        · have hu := of_decide_eq_false hu.symm
          rw [if_neg (fun q => hu q.2)] at s3
          simp only [dNext]
          exact s3
      · rw [← hc] at s3
        unfold lessD at s3
        rw [if_neg (fun q => by cases q.1), if_neg (fun q => by cases q.1)] at s3
        simp only [dNext]
        exact s3
    clear hN
    refine dIfS_two (fun c => c = decide (a.h < b.l)) (fun Ψ hΨ => ?_) (fun hc => ?_) (fun hc => ?_)
    · have hΨ := hΨ _ rfl
      simpa [rg] using hΨ
    · have hc := of_decide_eq_true hc.symm
      rw [if_pos hc] at s2
      simp
      exact s2
    have hc := of_decide_eq_false hc.symm
    rw [if_neg hc] at s2
    refine dIfS_two (fun c => c = decide (b.h ≤ a.l)) (fun Ψ hΨ => ?_) (fun hc => ?_) (fun hc => ?_)
    · have hΨ := hΨ _ rfl
      simpa [rg] using hΨ
    · have hc := of_decide_eq_true hc.symm
      rw [if_pos hc] at s2
      simp
      exact s2
    have hc := of_decide_eq_false hc.symm
    rw [if_neg hc] at s2
    simp only [dNext]
    exact s2
  clear hN
  refine dIfS_two (fun c => c = swP p) (fun Ψ hΨ => ?_) (fun hc => ?_) (fun hc => ?_)
  · have hΨ := hΨ _ rfl
    rcases preds_cases hp with rfl | rfl | rfl | rfl | rfl | rfl | rfl | rfl | rfl | rfl
    · exact absurd rfl n1
    · exact absurd rfl n2
    · have hin : inD (.str "lt") [.str "gt", .str "le"] = false := by decide +kernel
      simpa [startD, p1_ult, hin, l2, swP] using hΨ
    · have hin : inD (.str "le") [.str "gt", .str "le"] = true := by decide +kernel
      simpa [startD, p1_ule, hin, l2, swP] using hΨ
    · have hin : inD (.str "gt") [.str "gt", .str "le"] = true := by decide +kernel
      simpa [startD, p1_ugt, hin, l2, swP] using hΨ
    · have hin : inD (.str "ge") [.str "gt", .str "le"] = false := by decide +kernel
      simpa [startD, p1_uge, hin, l2, swP] using hΨ
    · have hin : inD (.str "lt") [.str "gt", .str "le"] = false := by decide +kernel
      simpa [startD, p1_slt, hin, l2, swP] using hΨ
    · have hin : inD (.str "le") [.str "gt", .str "le"] = true := by decide +kernel
      simpa [startD, p1_sle, hin, l2, swP] using hΨ
    · have hin : inD (.str "gt") [.str "gt", .str "le"] = true := by decide +kernel
      simpa [startD, p1_sgt, hin, l2, swP] using hΨ
    · have hin : inD (.str "ge") [.str "gt", .str "le"] = false := by decide +kernel
      simpa [startD, p1_sge, hin, l2, swP] using hΨ
  · rw [if_pos hc.symm] at h
    simp [startD]
    exact s1 b a h
  · rw [if_neg (by rw [← hc]; decide)] at h
    simp only [dNext]
    exact s1 a b h
def vp__law_decided : VSp := fun rs Φ => ∃ (p : Str) (w : Nat) (a b : Rg), rs = [.d (.str p), .d (.int w), .d (rg a), .d (rg b)] ∧ p ∈ preds ∧ 1 ≤ w ∧ w ≤ 64 ∧ Φ (.d (oD (dec p w a b)))
theorem len__law_decided : ∀ rs Φ, vp__law_decided rs Φ → rs.length = 4 := fun rs Φ ⟨_, _, _, _, e, _⟩ => by rw [e]; rfl
theorem G__law_decided (T : Txt K mg w) : FnOk P w K mg base CX0 2 T.f__law_decided T.fd__law_decided ["predicate", "w", "a", "b"] (toSp K 4 vp__law_decided) := by
  refine fn_ok T.F__law_decided sc__law_decided fun cdv A outer s H E hr => ⟨_, (pss_cons (ps_if (pt_cmpR (kx_notIn (K := K) rfl) (pv 0) (pe_tup (pa_cons pe_str (pa_cons pe_str pa_nil))) (by rfl)) (pss_one (ps_ret (pe_call (G__law_order T) hr (by rfl) T.g__law_order T.F__law_order.kp T.b__law_order .nil pass0 (pa_cons (pv 0) (pa_cons (pv 1) (pa_cons (pv 2) (pa_cons (pv 3) pa_nil))))))) pss_nil)
 (pss_cons (ps_set (i := 4) sc__law_decided.nd rfl (Or.inl rfl) pe_non)
 (pss_cons (ps_if (PW.pt (pw_or (pt_cmpR op_lt (pe_ix (kx_seq (K := K) rfl) (pv 2) pe_int (fun _ _ => rfl)) (pe_ix (kx_seq (K := K) rfl) (pv 3) pe_int (fun _ _ => rfl)) (nomark _)) (pw_or (pt_cmpR op_lt (pe_ix (kx_seq (K := K) rfl) (pv 3) pe_int (fun _ _ => rfl)) (pe_ix (kx_seq (K := K) rfl) (pv 2) pe_int (fun _ _ => rfl)) (nomark _)) (pw_or (pt_cmpR op_ne (pe_op op_and (pe_ix (kx_seq (K := K) rfl) (pv 2) pe_int (fun _ _ => rfl)) (pe_ix (kx_seq (K := K) rfl) (pv 3) pe_int (fun _ _ => rfl))) pe_int (nomark _)) (pw_or1 (pt_cmpR op_ne (pe_op op_and (pe_ix (kx_seq (K := K) rfl) (pv 2) pe_int (fun _ _ => rfl)) (pe_ix (kx_seq (K := K) rfl) (pv 3) pe_int (fun _ _ => rfl))) pe_int (nomark _))))))) (pss_one (ps_set (i := 4) sc__law_decided.nd rfl (Or.inl rfl) pe_int)) (pss_one (ps_if (PW.pt (pw_and (pt_cmpR op_eq (pe_ix (kx_seq (K := K) rfl) (pv 2) pe_int (fun _ _ => rfl)) (pe_ix (kx_seq (K := K) rfl) (pv 2) pe_int (fun _ _ => rfl)) (nomark _)) (pw_and1 (pt_cmpR op_eq (pe_ix (kx_seq (K := K) rfl) (pv 3) pe_int (fun _ _ => rfl)) (pe_ix (kx_seq (K := K) rfl) (pv 3) pe_int (fun _ _ => rfl)) (nomark _))))) (pss_one (ps_set (i := 4) sc__law_decided.nd rfl (Or.inl rfl) pe_int)) pss_nil)))
 (pss_cons (ps_if (PW.pt (pw_and (pt_cmpR op_notN (pv 4) pe_non (nomark _)) (pw_and1 (pt_cmpR op_eq (pv 0) pe_str (nomark _))))) (pss_one (ps_ret (pe_op op_sub pe_int (pv 4)))) pss_nil)
 (pss_one (ps_ret (pv 4))))))), _, fun ex He Hf => (sms_seq (sms_if (smt_t (f1 := false) (sm_op (f1 := false) (f2 := false) (opd_in true) (sm_var 0) (sm_tup (sma_cons (sm_str _) (sma_cons (sm_str _) sma_nil)))))
 (sms_ret (sm_call len__law_order (smq_cons (sm_var 0) (smq_cons (sm_var 1) (smq_cons (sm_var 2) (smq_cons (sm_var 3) smq_nil))))))
 sms_next)
 (sms_seq (sms_asg sm_non (smg_name 4))
 (sms_seq (sms_if (smt_or (smt_t (f1 := false) (sm_op (f1 := false) (f2 := false) (opd_I0 (g' := fun i j => .bool (decide (i < j))) fun _ _ => rfl) (sm_ix (f2 := false) (sm_var 2) (sm_int _)) (sm_ix (f2 := false) (sm_var 3) (sm_int _)))) (smt_or (smt_t (f1 := false) (sm_op (f1 := false) (f2 := false) (opd_I0 (g' := fun i j => .bool (decide (i < j))) fun _ _ => rfl) (sm_ix (f2 := false) (sm_var 3) (sm_int _)) (sm_ix (f2 := false) (sm_var 2) (sm_int _)))) (smt_or (smt_t (f1 := false) (sm_op (f1 := false) (f2 := false) opd_ne (sm_op (f1 := false) (f2 := false) (opd_I0 (g' := fun i j => .int (Builtin.bitAnd i j)) fun _ _ => rfl) (sm_ix (f2 := false) (sm_var 2) (sm_int _)) (sm_ix (f2 := false) (sm_var 3) (sm_int _))) (sm_int _))) (smt_t (f1 := false) (sm_op (f1 := false) (f2 := false) opd_ne (sm_op (f1 := false) (f2 := false) (opd_I0 (g' := fun i j => .int (Builtin.bitAnd i j)) fun _ _ => rfl) (sm_ix (f2 := false) (sm_var 2) (sm_int _)) (sm_ix (f2 := false) (sm_var 3) (sm_int _))) (sm_int _))))))
 (sms_asg (sm_int _) (smg_name 4))
 (sms_if (smt_and (smt_t (f1 := false) (sm_op (f1 := false) (f2 := false) opd_eq (sm_ix (f2 := false) (sm_var 2) (sm_int _)) (sm_ix (f2 := false) (sm_var 2) (sm_int _)))) (smt_t (f1 := false) (sm_op (f1 := false) (f2 := false) opd_eq (sm_ix (f2 := false) (sm_var 3) (sm_int _)) (sm_ix (f2 := false) (sm_var 3) (sm_int _)))))
 (sms_asg (sm_int _) (smg_name 4))
 sms_next))
 (sms_seq (sms_if (smt_and (smt_t (f1 := false) (sm_op (f1 := false) (f2 := false) opd_notN (sm_var 4) sm_non)) (smt_t (f1 := false) (sm_op (f1 := false) (f2 := false) opd_eq (sm_var 0) (sm_str _))))
 (sms_ret (sm_op (f1 := false) (f2 := false) (opd_I0 (g' := fun i j => .int (i - j)) fun _ _ => rfl) (sm_int _) (sm_var 4)))
 sms_next)
 (sms_ret (sm_var 4)))))), ?_⟩
  rintro rs Φ ⟨p, w, a, b, rfl, hp, h1, hw, h⟩
  have l2 : (2 : Nat) ≤ sizeLine := by decide
  have inj : ∀ x y : Nat, ((x : Int) = (y : Int)) = (x = y) := fun x y => propext Int.ofNat_inj
  by_cases hq : p = "eq" ∨ p = "ne"
  · have hin : inD (.str p) [.str "eq", .str "ne"] = true := by rcases hq with rfl | rfl <;> decide +kernel
    refine if_skip (fun Ψ hΨ => by simpa [startD, hin, l2] using hΨ) ?_
    refine seq_op fun N hN => ?_
    simp [startD]
    refine hN _ ?_
    clear hN N
    refine seq_op fun N hN => ?_
    have s1 : N [some (.d (.str p)), some (.d (.int w)), some (.d (rg a)), some (.d (rg b)), some (.d (oD (eqR a b)))] := by
      refine hN _ ?_
      clear hN N
      have h : Φ (.d (oD (if p = "ne" then (eqR a b).map not else eqR a b))) := by
        rcases hq with rfl | rfl
        · simpa [dec] using h
        · simpa [dec] using h
      generalize eqR a b = r at h ⊢
      refine seq_op fun N hN => ?_
      refine dIfS_two (fun c => c = (r.isSome && decide (p = "ne"))) (fun Ψ hΨ => ?_) (fun hc => ?_) (fun hc => ?_)
      · have hΨ := hΨ _ rfl
        cases r with
        | none => simpa [oD] using hΨ
        | some c => simpa [oD] using hΨ
      · cases r with
        | none => simp at hc
        | some c =>
          have hc : p = "ne" := by simpa using hc.symm
          rw [if_pos hc] at h
          cases c <;> simpa [oD] using h
      · have h : Φ (.d (oD r)) := by
          cases r with
          | none => simpa [oD] using h
          | some c =>
            have hc : ¬ p = "ne" := by simpa using hc.symm
            rw [if_neg hc] at h
            exact h
        simp only [dNext]
        refine hN _ ?_
        simp
        exact h
    clear hN
    unfold eqR at s1
    refine dIfS_two (fun c => c = decide (a.h < b.l ∨ b.h < a.l ∨ a.o &&& b.z ≠ 0 ∨ a.z &&& b.o ≠ 0)) (fun Ψ hΨ => ?_) (fun hc => ?_) (fun hc => ?_)
    · have hΨ' := hΨ _ rfl
      clear hΨ s1 h
      simp [rg, bA]
      by_cases c1 : a.h < b.l
      · simpa [c1] using hΨ'
      by_cases c2 : b.h < a.l
      · simpa [c1, c2] using hΨ'
      simp only [if_neg c1, if_neg c2]
      by_cases c4 : a.z &&& b.o = 0
      · refine .inl ⟨c4, ?_⟩
        by_cases c3 : a.o &&& b.z = 0
        · simpa [c1, c2, c3, c4] using hΨ'
        · simpa [c1, c2, c3, c4] using hΨ'
      · exact .inr ⟨c4, by simpa [c1, c2, c4] using hΨ'⟩
    · have hc := of_decide_eq_true hc.symm
      rw [if_pos hc] at s1
      simp
      exact s1
    have hc := of_decide_eq_false hc.symm
    rw [if_neg hc] at s1
    refine dIfS_two (fun c => c = decide (a.l = a.h ∧ b.l = b.h)) (fun Ψ hΨ => ?_) (fun hc => ?_) (fun hc => ?_)
    · have hΨ := hΨ _ rfl
      simp [rg, inj]
      by_cases c1 : a.l = a.h
      · by_cases c2 : b.l = b.h <;> simpa [c1, c2] using hΨ
      · simpa [c1] using hΨ
    · have hc := of_decide_eq_true hc.symm
      rw [if_pos hc] at s1
      simp
      exact s1
    have hc := of_decide_eq_false hc.symm
    rw [if_neg hc] at s1
    simp only [dNext]
    exact s1
  · have hin : inD (.str p) [.str "eq", .str "ne"] = false := by
      rcases preds_cases hp with rfl | rfl | rfl | rfl | rfl | rfl | rfl | rfl | rfl | rfl
      · exact absurd (.inl rfl) hq
      · exact absurd (.inr rfl) hq
      all_goals decide +kernel
    refine if_take (fun Ψ hΨ => by simpa [startD, hin, l2] using hΨ) fun N hN => ?_
    simp [startD]
    exact ⟨p, w, a, b, rfl, hp, fun e => hq (.inl e), fun e => hq (.inr e), h1, hw, h⟩


theorem castI_nat {op : Str} {v w x : Nat} (hop : op = "trunc" ∨ op = "zext" ∨ op = "sext") (hvw : op ≠ "trunc" → v ≤ w) (hx : x < 2 ^ v) : ∃ n : Nat, (n : Int) = castI op v w x ∧ n < 2 ^ w := by
  have hpI : (0 : Int) < 2 ^ w := pow_pos2 w
  have m0 : ∀ y : Int, ∃ n : Nat, (n : Int) = y % 2 ^ w ∧ n < 2 ^ w := fun y => by
    obtain ⟨n, hn⟩ := Int.eq_ofNat_of_zero_le (Int.emod_nonneg y (show (2 : Int) ^ w ≠ 0 by omega))
    have hlt := Int.emod_lt_of_pos y hpI
    rw [hn, ← PySem.W.kbt_cast] at hlt
    exact ⟨n, hn.symm, Int.ofNat_lt.mp hlt⟩
  unfold castI
  split
  · exact m0 _
  · rename_i c
    split
    · have := Nat.pow_le_pow_right (n := 2) (by decide) (hvw c)
      exact ⟨x, rfl, by omega⟩
    · exact m0 _
/-- what is due for a row of values -/
def Cs.due (w : Nat) : Cs → List Nat → PyData
  | .bin op, [x, y] => Toy.bin op w x y
  | .icmp p, [x, y] => .int (b2i (cmpI p w x y))
  | .sel, [c, x, y] => .int (if c = 1 then (x : Int) else (y : Int))
  | .cast op _ v, [x] => .int (castI op v w x)
  | _, _ => .none
def Vals : List (Str × Nat) → List Nat → Prop
  | [], [] => True
  | k :: ks, x :: xs => x < 2 ^ k.2 ∧ Vals ks xs
  | _, _ => False
def notSel : Cs → Prop
  | .sel => False
  | _ => True
theorem val_nat {w x : Nat} (h : x < 2 ^ w) : Val w (x : Int) := ⟨Int.natCast_nonneg _, by rw [← PySem.W.kbt_cast]; exact Int.ofNat_lt.mpr h⟩
def vp__law_exact : VSp := fun rs Φ => ∃ (k : Str) (w : Nat) (c : Cs) (xs : List Nat), rs = [.d (.str c.op), .d (.str k), .d c.data, .d (ksD (c.ks k w)), .d (.list (nl xs))] ∧ KW k w ∧ c.Ok w ∧ notSel c ∧ Vals (c.ks k w) xs ∧ Φ (.d (c.due w xs))
theorem len__law_exact : ∀ rs Φ, vp__law_exact rs Φ → rs.length = 5 := fun rs Φ ⟨_, _, _, _, e, _⟩ => by rw [e]; rfl
theorem cast_in {op : Str} (hop : op = "trunc" ∨ op = "zext" ∨ op = "sext") : inD (.str op) [.str "trunc", .str "zext", .str "sext"] = true := by rcases hop with rfl | rfl | rfl <;> decide +kernel
theorem cast_not {op : Str} (hop : op = "trunc" ∨ op = "zext" ∨ op = "sext") : ¬ op = "icmp" ∧ ¬ op = "select" := by rcases hop with rfl | rfl | rfl <;> decide
theorem G__law_exact (T : Txt K mg w) : FnOk P w K mg base CX0 4 T.f__law_exact T.fd__law_exact ["op", "kind", "data", "kinds", "row"] (toSp K 5 vp__law_exact) := by
  refine fn_ok T.F__law_exact sc__law_exact fun cdv A outer s H E hr => ⟨_, (pss_cons (ps_set (i := 5) sc__law_exact.nd rfl (Or.inl rfl) (pe_call (G__law_width T) (hr.mono (by decide)) (by rfl) T.g__law_width T.F__law_width.kp T.b__law_width .nil pass0 (pa_cons (pe_ix (kx_seq (K := K) rfl) (pv 3) pe_int (fun _ _ => rfl)) pa_nil)))
 (pss_cons (ps_if (pt_cmpR op_eq (pv 0) pe_str (nomark _)) (pss_one (ps_ret (pe_call (G__law_compare T) (hr.mono (by decide)) (by rfl) T.g__law_compare T.F__law_compare.kp T.b__law_compare .nil pass0 (pa_cons (pe_ix (kx_seq (K := K) rfl) (pv 2) pe_int (fun _ _ => rfl)) (pa_cons (pv 5) (pa_cons (pe_ix (kx_seq (K := K) rfl) (pv 4) pe_int (fun _ _ => rfl)) (pa_cons (pe_ix (kx_seq (K := K) rfl) (pv 4) pe_int (fun _ _ => rfl)) pa_nil))))))) pss_nil)
 (pss_cons (ps_if (pt_cmpR (kx_in (K := K) rfl) (pv 0) (pe_tup (pa_cons pe_str (pa_cons pe_str (pa_cons pe_str pa_nil)))) (by rfl)) (pss_one (ps_ret (pe_call (G__law_cast T) (hr.mono (by decide)) (by rfl) T.g__law_cast T.F__law_cast.kp T.b__law_cast .nil pass0 (pa_cons (pv 0) (pa_cons (pv 5) (pa_cons (pe_call (G__law_width T) (hr.mono (by decide)) (by rfl) T.g__law_width T.F__law_width.kp T.b__law_width .nil pass0 (pa_cons (pv 1) pa_nil)) (pa_cons (pe_ix (kx_seq (K := K) rfl) (pv 4) pe_int (fun _ _ => rfl)) pa_nil))))))) pss_nil)
 (pss_one (ps_ret (pe_call (G__law_binary T) hr (by rfl) T.g__law_binary T.F__law_binary.kp T.b__law_binary .nil pass0 (pa_cons (pv 0) (pa_cons (pv 5) (pa_cons (pe_ix (kx_seq (K := K) rfl) (pv 4) pe_int (fun _ _ => rfl)) (pa_cons (pe_ix (kx_seq (K := K) rfl) (pv 4) pe_int (fun _ _ => rfl)) pa_nil)))))))))), _, fun ex He Hf => (sms_seq (sms_asg (sm_call len__law_width (smq_cons (sm_ix (f2 := false) (sm_var 3) (sm_int _)) smq_nil)) (smg_name 5))
 (sms_seq (sms_if (smt_t (f1 := false) (sm_op (f1 := false) (f2 := false) opd_eq (sm_var 0) (sm_str _)))
 (sms_ret (sm_call len__law_compare (smq_cons (sm_ix (f2 := false) (sm_var 2) (sm_int _)) (smq_cons (sm_var 5) (smq_cons (sm_ix (f2 := false) (sm_var 4) (sm_int _)) (smq_cons (sm_ix (f2 := false) (sm_var 4) (sm_int _)) smq_nil))))))
 sms_next)
 (sms_seq (sms_if (smt_t (f1 := false) (sm_op (f1 := false) (f2 := false) (opd_in false) (sm_var 0) (sm_tup (sma_cons (sm_str _) (sma_cons (sm_str _) (sma_cons (sm_str _) sma_nil))))))
 (sms_ret (sm_call len__law_cast (smq_cons (sm_var 0) (smq_cons (sm_var 5) (smq_cons (sm_call len__law_width (smq_cons (sm_var 1) smq_nil)) (smq_cons (sm_ix (f2 := false) (sm_var 4) (sm_int _)) smq_nil))))))
 sms_next)
 (sms_ret (sm_call len__law_binary (smq_cons (sm_var 0) (smq_cons (sm_var 5) (smq_cons (sm_ix (f2 := false) (sm_var 4) (sm_int _)) (smq_cons (sm_ix (f2 := false) (sm_var 4) (sm_int _)) smq_nil))))))))), ?_⟩
  rintro rs Φ ⟨k, w, c, xs, rfl, hk, hc, hs, hv, h⟩
  have l3 : (3 : Nat) ≤ sizeLine := by decide
  cases c with
  | sel => exact hs.elim
  | bin op =>
    match xs, hv, h with
    | [x, y], ⟨hx, hy, _⟩, h =>
      have hc : op ∈ ops := hc
      obtain ⟨n1, n2, n3, n4, n5⟩ := ops_not hc
      refine seq_op fun N hN => ?_
      simp [startD, ksD, Cs.ks]
      refine ⟨k, _, rfl, hk.1, hN _ ?_⟩
      clear hN N
      simp only [data_d]
      refine if_skip (fun Ψ hΨ => by simpa [Cs.op, n2] using hΨ) ?_
      refine if_skip (fun Ψ hΨ => by simpa [Cs.op, l3, ops_nin hc] using hΨ) ?_
      simp [nl]
      exact ⟨op, w, x, y, rfl, hc, hk.2.1, hk.2.2, val_nat hx, val_nat hy, h⟩
  | icmp p =>
    match xs, hv, h with
    | [x, y], ⟨hx, hy, _⟩, h =>
      refine seq_op fun N hN => ?_
      simp [startD, ksD, Cs.ks]
      refine ⟨k, _, rfl, hk.1, hN _ ?_⟩
      clear hN N
      simp only [data_d]
      refine if_take (fun Ψ hΨ => by simpa [Cs.op] using hΨ) fun N hN => ?_
      simp [nl, Cs.data]
      exact ⟨p, w, x, y, rfl, hc, hk.2.1, hk.2.2, h⟩
  | cast op old v =>
    obtain ⟨ho, hop, hvw⟩ := hc
    match xs, hv, h with
    | [x], ⟨hx, _⟩, h =>
      refine seq_op fun N hN => ?_
      simp [startD, ksD, Cs.ks]
      refine ⟨old, _, rfl, ho.1, hN _ ?_⟩
      clear hN N
      simp only [data_d]
      refine if_skip (fun Ψ hΨ => by simpa [Cs.op, (cast_not hop).1] using hΨ) ?_
      refine if_take (fun Ψ hΨ => by simpa [Cs.op, l3, cast_in hop] using hΨ) fun N hN => ?_
      simp [nl]
      refine ⟨k, _, rfl, hk.1, ?_⟩
      simp only [data_d]
      exact ⟨op, v, w, x, rfl, hop, ho.2.1, ho.2.2, hk.2.2, hx, hvw, h⟩
def caseD (k : Str) (w : Nat) (c : Cs) : PyData := .tuple [.str c.op, .str k, c.data, ksD (c.ks k w)]
def vp__law_due : VSp := fun rs Φ => ∃ (k : Str) (w : Nat) (c : Cs) (xs : List Nat), rs = [.d (caseD k w c), .d (.list (nl xs))] ∧ KW k w ∧ c.Ok w ∧ Vals (c.ks k w) xs ∧ Φ (.d (c.due w xs))
theorem len__law_due : ∀ rs Φ, vp__law_due rs Φ → rs.length = 2 := fun rs Φ ⟨_, _, _, _, e, _⟩ => by rw [e]; rfl
theorem G__law_due (T : Txt K mg w) : FnOk P w K mg base CX0 4 T.f__law_due T.fd__law_due ["case", "values"] (toSp K 2 vp__law_due) := by
  refine fn_ok T.F__law_due sc__law_due fun cdv A outer s H E hr => ⟨_, (pss_cons (ps_asg (pv 0) (pg_tup (n := 4) rfl (pgs_cons (pg_name (i := 2) sc__law_due.nd rfl (Or.inl rfl)) (pgs_cons (pg_name (i := 3) sc__law_due.nd rfl (Or.inl rfl)) (pgs_cons (pg_name (i := 4) sc__law_due.nd rfl (Or.inl rfl)) (pgs_cons (pg_name (i := 5) sc__law_due.nd rfl (Or.inl rfl)) pgs_nil))))))
 (pss_cons (ps_if (pt_cmpR op_eq (pv 2) pe_str (nomark _)) (pss_one (ps_ret (pe_call (G__law_compare T) (hr.mono (by decide)) (by rfl) T.g__law_compare T.F__law_compare.kp T.b__law_compare .nil pass0 (pa_cons (pe_ix (kx_seq (K := K) rfl) (pv 4) pe_int (fun _ _ => rfl)) (pa_cons (pe_call (G__law_width T) (hr.mono (by decide)) (by rfl) T.g__law_width T.F__law_width.kp T.b__law_width .nil pass0 (pa_cons (pv 3) pa_nil)) (pa_cons (pe_ix (kx_seq (K := K) rfl) (pv 1) pe_int (fun _ _ => rfl)) (pa_cons (pe_ix (kx_seq (K := K) rfl) (pv 1) pe_int (fun _ _ => rfl)) pa_nil))))))) pss_nil)
 (pss_cons (ps_if (pt_cmpR op_eq (pv 2) pe_str (nomark _)) (pss_one (ps_ret (pe_ix (kx_seq (K := K) rfl) (pv 1) (pe_op op_sub pe_int (pe_ix (kx_seq (K := K) rfl) (pv 1) pe_int (fun _ _ => rfl))) (fun _ _ => rfl)))) pss_nil)
 (pss_cons (ps_if (pt_cmpR (kx_in (K := K) rfl) (pv 2) (pe_tup (pa_cons pe_str (pa_cons pe_str (pa_cons pe_str pa_nil)))) (by rfl)) (pss_one (ps_ret (pe_call (G__law_cast T) (hr.mono (by decide)) (by rfl) T.g__law_cast T.F__law_cast.kp T.b__law_cast .nil pass0 (pa_cons (pv 2) (pa_cons (pe_call (G__law_width T) (hr.mono (by decide)) (by rfl) T.g__law_width T.F__law_width.kp T.b__law_width .nil pass0 (pa_cons (pe_ix (kx_seq (K := K) rfl) (pv 5) pe_int (fun _ _ => rfl)) pa_nil)) (pa_cons (pe_call (G__law_width T) (hr.mono (by decide)) (by rfl) T.g__law_width T.F__law_width.kp T.b__law_width .nil pass0 (pa_cons (pv 3) pa_nil)) (pa_cons (pe_ix (kx_seq (K := K) rfl) (pv 1) pe_int (fun _ _ => rfl)) pa_nil))))))) pss_nil)
 (pss_one (ps_ret (pe_call (G__law_binary T) hr (by rfl) T.g__law_binary T.F__law_binary.kp T.b__law_binary .nil pass0 (pa_cons (pv 2) (pa_cons (pe_call (G__law_width T) (hr.mono (by decide)) (by rfl) T.g__law_width T.F__law_width.kp T.b__law_width .nil pass0 (pa_cons (pv 3) pa_nil)) (pa_cons (pe_ix (kx_seq (K := K) rfl) (pv 1) pe_int (fun _ _ => rfl)) (pa_cons (pe_ix (kx_seq (K := K) rfl) (pv 1) pe_int (fun _ _ => rfl)) pa_nil))))))))))), _, fun ex He Hf => (sms_seq (sms_asg (sm_var 0) (smg_tup (smg_cons (smg_name 2) (smg_cons (smg_name 3) (smg_cons (smg_name 4) (smg_cons (smg_name 5) smg_nil))))))
 (sms_seq (sms_if (smt_t (f1 := false) (sm_op (f1 := false) (f2 := false) opd_eq (sm_var 2) (sm_str _)))
 (sms_ret (sm_call len__law_compare (smq_cons (sm_ix (f2 := false) (sm_var 4) (sm_int _)) (smq_cons (sm_call len__law_width (smq_cons (sm_var 3) smq_nil)) (smq_cons (sm_ix (f2 := false) (sm_var 1) (sm_int _)) (smq_cons (sm_ix (f2 := false) (sm_var 1) (sm_int _)) smq_nil))))))
 sms_next)
 (sms_seq (sms_if (smt_t (f1 := false) (sm_op (f1 := false) (f2 := false) opd_eq (sm_var 2) (sm_str _)))
 (sms_ret (sm_ix (f2 := false) (sm_var 1) (sm_op (f1 := false) (f2 := false) (opd_I0 (g' := fun i j => .int (i - j)) fun _ _ => rfl) (sm_int _) (sm_ix (f2 := false) (sm_var 1) (sm_int _)))))
 sms_next)
 (sms_seq (sms_if (smt_t (f1 := false) (sm_op (f1 := false) (f2 := false) (opd_in false) (sm_var 2) (sm_tup (sma_cons (sm_str _) (sma_cons (sm_str _) (sma_cons (sm_str _) sma_nil))))))
 (sms_ret (sm_call len__law_cast (smq_cons (sm_var 2) (smq_cons (sm_call len__law_width (smq_cons (sm_ix (f2 := false) (sm_var 5) (sm_int _)) smq_nil)) (smq_cons (sm_call len__law_width (smq_cons (sm_var 3) smq_nil)) (smq_cons (sm_ix (f2 := false) (sm_var 1) (sm_int _)) smq_nil))))))
 sms_next)
 (sms_ret (sm_call len__law_binary (smq_cons (sm_var 2) (smq_cons (sm_call len__law_width (smq_cons (sm_var 3) smq_nil)) (smq_cons (sm_ix (f2 := false) (sm_var 1) (sm_int _)) (smq_cons (sm_ix (f2 := false) (sm_var 1) (sm_int _)) smq_nil)))))))))), ?_⟩
  rintro rs Φ ⟨k, w, c, xs, rfl, hk, hc, hv, h⟩
  have l3 : (3 : Nat) ≤ sizeLine := by decide
  refine seq_op fun N hN => ?_
  simp [startD, caseD]
  refine hN _ ?_
  clear hN N
  cases c with
  | sel =>
    match xs, hv, h with
    | [c, x, y], ⟨hc', hx, hy, _⟩, h =>
      refine if_skip (fun Ψ hΨ => by simpa [Cs.op] using hΨ) ?_
      refine if_take (fun Ψ hΨ => by simpa [Cs.op] using hΨ) fun N hN => ?_
      have hc' : c < 2 := hc'
      rcases (show c = 0 ∨ c = 1 by omega) with rfl | rfl
      · simpa [nl, Cs.due, atI, ixN] using h
      · simpa [nl, Cs.due, atI, ixN] using h
  | bin op =>
    match xs, hv, h with
    | [x, y], ⟨hx, hy, _⟩, h =>
      have hc : op ∈ ops := hc
      obtain ⟨n1, n2, n3, n4, n5⟩ := ops_not hc
      refine if_skip (fun Ψ hΨ => by simpa [Cs.op, n2] using hΨ) ?_
      refine if_skip (fun Ψ hΨ => by simpa [Cs.op, n1] using hΨ) ?_
      refine if_skip (fun Ψ hΨ => by simpa [Cs.op, l3, ops_nin hc] using hΨ) ?_
      simp [nl]
      refine ⟨k, _, rfl, hk.1, ?_⟩
      simp only [data_d]
      exact ⟨op, w, x, y, rfl, hc, hk.2.1, hk.2.2, val_nat hx, val_nat hy, h⟩
  | icmp p =>
    match xs, hv, h with
    | [x, y], ⟨hx, hy, _⟩, h =>
      refine if_take (fun Ψ hΨ => by simpa [Cs.op] using hΨ) fun N hN => ?_
      simp [nl, Cs.data]
      refine ⟨k, _, rfl, hk.1, ?_⟩
      simp only [data_d]
      exact ⟨p, w, x, y, rfl, hc, hk.2.1, hk.2.2, h⟩
  | cast op old v =>
    obtain ⟨ho, hop, hvw⟩ := hc
    match xs, hv, h with
    | [x], ⟨hx, _⟩, h =>
      refine if_skip (fun Ψ hΨ => by simpa [Cs.op, (cast_not hop).1] using hΨ) ?_
      refine if_skip (fun Ψ hΨ => by simpa [Cs.op, (cast_not hop).2] using hΨ) ?_
      refine if_take (fun Ψ hΨ => by simpa [Cs.op, l3, cast_in hop] using hΨ) fun N hN => ?_
      simp [nl, ksD, Cs.ks]
      refine ⟨old, _, rfl, ho.1, ?_⟩
      simp only [data_d]
      refine ⟨k, _, rfl, hk.1, ?_⟩
      simp only [data_d]
      exact ⟨op, v, w, x, rfl, hop, ho.2.1, ho.2.2, hk.2.2, hx, hvw, h⟩


def vp__law_transfer : VSp := fun rs Φ => ∃ (k : Str) (w : Nat) (c : Cs) (as : List Rg), rs = [.d (.str c.op), .d (.str k), .d c.data, .d (ksD (c.ks k w)), .d (.list (as.map rg))] ∧ KW k w ∧ c.Ok w ∧ Fits (c.ks k w) as ∧
  ∀ r, c.R w as r → Φ (.d (rgO r))
theorem len__law_transfer : ∀ rs Φ, vp__law_transfer rs Φ → rs.length = 5 := fun rs Φ ⟨_, _, _, _, e, _⟩ => by rw [e]; rfl
theorem rgs_sh (as : List Rg) (h : as.length ≤ 1000000) : SeqAt.shaped (.list (as.map rg)) = true := (Okd.list (n := 1) (fun y hy => by
  obtain ⟨a, _, rfl⟩ := List.mem_map.mp hy
  exact rg_okd a) (by simpa using h)).shaped (by decide)
theorem eqv_nil (as : List Rg) : PyData.eqv (.list (as.map rg)) (.list []) = decide (as = []) := by
  cases as with
  | nil => simp [PyData.eqv, PyData.eqvAll]
  | cons a as => simp [PyData.eqv, PyData.eqvAll]
def allS (as : List Rg) : Bool := as.all fun a => decide (a.l = a.h)
theorem flt_nil (as : List Rg) : decide (as.filter (fun a => decide (¬ a.l = a.h)) = []) = allS as := by
  unfold allS
  rw [Bool.eq_iff_iff, decide_eq_true_iff, List.filter_eq_nil_iff, List.all_eq_true]
  constructor
  · intro h a ha
    have := h a ha
    simpa using this
  · intro h a ha
    have := h a ha
    simpa using this
theorem nl_l (as : List Rg) : as.map (fun a => PyData.int (a.l : Int)) = nl (as.map Rg.l) := by
  unfold nl
  rw [List.map_map, List.map_map]
  rfl
theorem fits_vals : ∀ {ks : List (Str × Nat)} {as : List Rg}, Fits ks as → Vals ks (as.map Rg.l)
  | [], [], _ => True.intro
  | _ :: _, _ :: _, h => ⟨h.1.1.1, fits_vals h.2⟩
  | [], _ :: _, h => h.elim
  | _ :: _, [], h => h.elim
theorem fits_len : ∀ {ks : List (Str × Nat)} {as : List Rg}, Fits ks as → as.length = ks.length
  | [], [], _ => rfl
  | _ :: _, _ :: _, h => by rw [List.length_cons, List.length_cons, fits_len h.2]
  | [], _ :: _, h => h.elim
  | _ :: _, [], h => h.elim
theorem ks_len (k : Str) (w : Nat) (c : Cs) : (c.ks k w).length ≤ 3 := by
  cases c <;> simp [Cs.ks]
theorem G__law_transfer (T : Txt K mg w) : FnOk P w K mg base CX0 5 T.f__law_transfer T.fd__law_transfer ["op", "kind", "data", "kinds", "ranges"] (toSp K 5 vp__law_transfer) := by
  refine fn_ok T.F__law_transfer sc__law_transfer fun cdv A outer s H E hr => ⟨_, (pss_cons (ps_set (i := 5) sc__law_transfer.nd rfl (Or.inl rfl) (pe_call (G__law_width T) (hr.mono (by decide)) (by rfl) T.g__law_width T.F__law_width.kp T.b__law_width .nil pass0 (pa_cons (pv 1) pa_nil)))
 (pss_cons (ps_if (pt_cmpR op_eq (pv 0) pe_str (nomark _)) (pss_cons (ps_if (pt_cmpR op_eq (pe_ix (kx_seq (K := K) rfl) (pe_ix (kx_seq (K := K) rfl) (pv 4) pe_int (fun _ _ => rfl)) pe_int (fun _ _ => rfl)) (pe_ix (kx_seq (K := K) rfl) (pe_ix (kx_seq (K := K) rfl) (pv 4) pe_int (fun _ _ => rfl)) pe_int (fun _ _ => rfl)) (nomark _)) (pss_one (ps_ret (pe_call (G__law_normal T) (hr.mono (by decide)) (by rfl) T.g__law_normal T.F__law_normal.kp T.b__law_normal .nil pass0 (pa_cons (pe_ix (kx_seq (K := K) rfl) (pv 4) (pe_op op_sub pe_int (pe_ix (kx_seq (K := K) rfl) (pe_ix (kx_seq (K := K) rfl) (pv 4) pe_int (fun _ _ => rfl)) pe_int (fun _ _ => rfl))) (fun _ _ => rfl)) (pa_cons (pv 5) pa_nil))))) pss_nil)
 (pss_cons (ps_par (by rfl) sc__law_transfer.nd rfl rfl (by decide) rfl rfl (pa_cons (pe_ix (kx_seq (K := K) rfl) (pv 4) pe_int (fun _ _ => rfl)) (pa_cons (pe_ix (kx_seq (K := K) rfl) (pv 4) pe_int (fun _ _ => rfl)) pa_nil)) (by rfl))
 (pss_one (ps_ret (pe_call (G__law_normal T) (hr.mono (by decide)) (by rfl) T.g__law_normal T.F__law_normal.kp T.b__law_normal .nil pass0 (pa_cons (pe_tup (pa_cons (pe_callB (call_min2 rfl) (by rfl) T.min (by decide +kernel) (pa_cons (pe_ix (kx_seq (K := K) rfl) (pv 6) pe_int (fun _ _ => rfl)) (pa_cons (pe_ix (kx_seq (K := K) rfl) (pv 12) pe_int (fun _ _ => rfl)) pa_nil))) (pa_cons (pe_callB (call_max2 rfl) (by rfl) T.max (by decide +kernel) (pa_cons (pe_ix (kx_seq (K := K) rfl) (pv 6) pe_int (fun _ _ => rfl)) (pa_cons (pe_ix (kx_seq (K := K) rfl) (pv 12) pe_int (fun _ _ => rfl)) pa_nil))) (pa_cons (pe_op op_and (pe_ix (kx_seq (K := K) rfl) (pv 6) pe_int (fun _ _ => rfl)) (pe_ix (kx_seq (K := K) rfl) (pv 12) pe_int (fun _ _ => rfl))) (pa_cons (pe_op op_and (pe_ix (kx_seq (K := K) rfl) (pv 6) pe_int (fun _ _ => rfl)) (pe_ix (kx_seq (K := K) rfl) (pv 12) pe_int (fun _ _ => rfl))) pa_nil))))) (pa_cons (pv 5) pa_nil))))))) pss_nil)
 (pss_cons (ps_if (pt_cmpR (kx_eqD (K := K) rfl hr.units) (pe_lc (own := [("bounds", 13)]) (g := gName 13) rfl sc__law_transfer.nd ((kpi_list (K := K) rfl (pv 4))) (blkOk_by (N := ["op", "kind", "data", "kinds", "ranges", "w", "a", "row", "value", "answer", "top", "v", "b", "bounds", "low", "high"]) (sc := defScope s_law_transfer) (by decide +kernel)) (fun _ _ _ _ _ => pg_name (i := 13) sc__law_transfer.nd rfl (Or.inl rfl)) (fun _ _ _ _ _ => pts_one (pt_cmpR op_ne (pe_ix (kx_seq (K := K) rfl) (pv 13) pe_int (fun _ _ => rfl)) (pe_ix (kx_seq (K := K) rfl) (pv 13) pe_int (fun _ _ => rfl)) (nomark _))) (fun _ _ _ _ _ => (pv 13))) (pe_lst pa_nil) (nomark _)) (pss_cons (ps_set (i := 8) sc__law_transfer.nd rfl (Or.inl rfl) (pe_call (G__law_exact T) hr (by rfl) T.g__law_exact T.F__law_exact.kp T.b__law_exact .nil pass0 (pa_cons (pv 0) (pa_cons (pv 1) (pa_cons (pv 2) (pa_cons (pv 3) (pa_cons (pe_lc (own := [("bounds", 13)]) (g := gName 13) (tt := tYes) rfl sc__law_transfer.nd ((kpi_list (K := K) rfl (pv 4))) (blkOk_by (N := ["op", "kind", "data", "kinds", "ranges", "w", "a", "row", "value", "answer", "top", "v", "b", "bounds", "low", "high"]) (sc := defScope s_law_transfer) (by decide +kernel)) (fun _ _ _ _ _ => pg_name (i := 13) sc__law_transfer.nd rfl (Or.inl rfl)) (fun _ _ _ _ _ => pts_nil) (fun _ _ _ _ _ => (pe_ix (kx_seq (K := K) rfl) (pv 13) pe_int (fun _ _ => rfl)))) pa_nil)))))))
 (pss_cons (ps_if (pt_cmpR op_isN (pv 8) pe_non (nomark _)) (pss_one (ps_ret pe_non)) pss_nil)
 (pss_cons (ps_if (pt_cmpR op_eq (pv 0) pe_str (nomark _)) (pss_one (ps_set (i := 5) sc__law_transfer.nd rfl (Or.inl rfl) pe_int)) pss_nil)
 (pss_one (ps_ret (pe_tup (pa_cons (pv 8) (pa_cons (pv 8) (pa_cons (pe_op op_sub (pe_op op_sub (pe_op op_shl pe_int (pv 5)) pe_int) (pv 8)) (pa_cons (pv 8) pa_nil)))))))))) pss_nil)
 (pss_cons (ps_set (i := 6) sc__law_transfer.nd rfl (Or.inl rfl) (pe_ix (kx_seq (K := K) rfl) (pv 4) pe_int (fun _ _ => rfl)))
 (pss_cons (ps_if (pt_cmpR op_eq (pv 0) pe_str (nomark _)) (pss_cons (ps_set (i := 9) sc__law_transfer.nd rfl (Or.inl rfl) (pe_call (G__law_decided T) (hr.mono (by decide)) (by rfl) T.g__law_decided T.F__law_decided.kp T.b__law_decided .nil pass0 (pa_cons (pe_ix (kx_seq (K := K) rfl) (pv 2) pe_int (fun _ _ => rfl)) (pa_cons (pv 5) (pa_cons (pv 6) (pa_cons (pe_ix (kx_seq (K := K) rfl) (pv 4) pe_int (fun _ _ => rfl)) pa_nil))))))
 (pss_one (ps_ret (pe_ifExp (pt_cmpR op_isN (pv 9) pe_non (nomark _)) (pe_tup (pa_cons pe_int (pa_cons pe_int (pa_cons pe_int (pa_cons pe_int pa_nil))))) (pe_tup (pa_cons (pv 9) (pa_cons (pv 9) (pa_cons (pe_op op_sub pe_int (pv 9)) (pa_cons (pv 9) pa_nil))))))))) pss_nil)
 (pss_cons (ps_if (pt_cmpR (kx_in (K := K) rfl) (pv 0) (pe_tup (pa_cons pe_str (pa_cons pe_str (pa_cons pe_str pa_nil)))) (by rfl)) (pss_cons (ps_set (i := 10) sc__law_transfer.nd rfl (Or.inl rfl) (pe_op op_sub (pe_op op_shl pe_int (pv 5)) pe_int))
 (pss_cons (ps_set (i := 11) sc__law_transfer.nd rfl (Or.inl rfl) (pe_call (G__law_width T) (hr.mono (by decide)) (by rfl) T.g__law_width T.F__law_width.kp T.b__law_width .nil pass0 (pa_cons (pe_ix (kx_seq (K := K) rfl) (pv 3) pe_int (fun _ _ => rfl)) pa_nil)))
 (pss_cons (ps_if (PW.pt (pw_and (pt_cmpR op_eq (pv 0) pe_str (nomark _)) (pw_and1 (pt_cmpR op_eq (pe_op op_and (pe_op op_shr (pe_ix (kx_seq (K := K) rfl) (pv 6) pe_int (fun _ _ => rfl)) (pe_op op_sub (pv 11) pe_int)) pe_int) pe_int (nomark _))))) (pss_one (ps_ret (pe_tup (pa_cons pe_int (pa_cons (pv 10) (pa_cons pe_int (pa_cons pe_int pa_nil))))))) pss_nil)
 (pss_cons (ps_if (pt_cmpR op_eq (pv 0) pe_str (nomark _)) (pss_cons (ps_asg (pe_ifExp (pt_cmpR op_gt (pe_ix (kx_seq (K := K) rfl) (pv 6) pe_int (fun _ _ => rfl)) (pv 10) (nomark _)) (pe_tup (pa_cons pe_int (pa_cons (pv 10) pa_nil))) (pe_tup (pa_cons (pe_ix (kx_seq (K := K) rfl) (pv 6) pe_int (fun _ _ => rfl)) (pa_cons (pe_ix (kx_seq (K := K) rfl) (pv 6) pe_int (fun _ _ => rfl)) pa_nil)))) (pg_tup (n := 2) rfl (pgs_cons (pg_name (i := 14) sc__law_transfer.nd rfl (Or.inl rfl)) (pgs_cons (pg_name (i := 15) sc__law_transfer.nd rfl (Or.inl rfl)) pgs_nil))))
 (pss_one (ps_ret (pe_call (G__law_normal T) (hr.mono (by decide)) (by rfl) T.g__law_normal T.F__law_normal.kp T.b__law_normal .nil pass0 (pa_cons (pe_tup (pa_cons (pv 14) (pa_cons (pv 15) (pa_cons (pe_op op_and (pe_ix (kx_seq (K := K) rfl) (pv 6) pe_int (fun _ _ => rfl)) (pv 10)) (pa_cons (pe_op op_and (pe_ix (kx_seq (K := K) rfl) (pv 6) pe_int (fun _ _ => rfl)) (pv 10)) pa_nil))))) (pa_cons (pv 5) pa_nil)))))) pss_nil)
 (pss_one (ps_ret (pe_call (G__law_normal T) (hr.mono (by decide)) (by rfl) T.g__law_normal T.F__law_normal.kp T.b__law_normal .nil pass0 (pa_cons (pe_tup (pa_cons (pe_ix (kx_seq (K := K) rfl) (pv 6) pe_int (fun _ _ => rfl)) (pa_cons (pe_ix (kx_seq (K := K) rfl) (pv 6) pe_int (fun _ _ => rfl)) (pa_cons (pe_op op_or (pe_ix (kx_seq (K := K) rfl) (pv 6) pe_int (fun _ _ => rfl)) (pe_op op_sub (pv 10) (pe_op op_sub (pe_op op_shl pe_int (pv 11)) pe_int))) (pa_cons (pe_ix (kx_seq (K := K) rfl) (pv 6) pe_int (fun _ _ => rfl)) pa_nil))))) (pa_cons (pv 5) pa_nil))))))))) pss_nil)
 (pss_cons (ps_set (i := 7) sc__law_transfer.nd rfl (Or.inl rfl) (pe_call (G__law_binary_row T) (hr.mono (by decide)) (by rfl) T.g__law_binary_row T.F__law_binary_row.kp T.b__law_binary_row .nil pass0 (pa_cons (pv 0) (pa_cons (pv 5) (pa_cons (pv 6) (pa_cons (pe_ix (kx_seq (K := K) rfl) (pv 4) pe_int (fun _ _ => rfl)) pa_nil))))))
 (pss_cons (ps_if (pt_cmpR op_isN (pv 7) pe_non (nomark _)) (pss_one (ps_ret pe_non)) pss_nil)
 (pss_one (ps_ret (pe_call (G__law_normal T) (hr.mono (by decide)) (by rfl) T.g__law_normal T.F__law_normal.kp T.b__law_normal .nil pass0 (pa_cons (pv 7) (pa_cons (pv 5) pa_nil))))))))))))), _, fun ex He Hf => (sms_seq (sms_asg (sm_call len__law_width (smq_cons (sm_var 1) smq_nil)) (smg_name 5))
 (sms_seq (sms_if (smt_t (f1 := false) (sm_op (f1 := false) (f2 := false) opd_eq (sm_var 0) (sm_str _)))
 (sms_seq (sms_if (smt_t (f1 := false) (sm_op (f1 := false) (f2 := false) opd_eq (sm_ix (f2 := false) (sm_ix (f2 := false) (sm_var 4) (sm_int _)) (sm_int _)) (sm_ix (f2 := false) (sm_ix (f2 := false) (sm_var 4) (sm_int _)) (sm_int _))))
 (sms_ret (sm_call len__law_normal (smq_cons (sm_ix (f2 := false) (sm_var 4) (sm_op (f1 := false) (f2 := false) (opd_I0 (g' := fun i j => .int (i - j)) fun _ _ => rfl) (sm_int _) (sm_ix (f2 := false) (sm_ix (f2 := false) (sm_var 4) (sm_int _)) (sm_int _)))) (smq_cons (sm_var 5) smq_nil))))
 sms_next)
 (sms_seq (sms_par 6 12 (sm_ix (f2 := false) (sm_var 4) (sm_int _)) (sm_ix (f2 := false) (sm_var 4) (sm_int _)))
 (sms_ret (sm_call len__law_normal (smq_cons (sm_tup (sma_cons (sm_cb (f1 := false) cbd_min (sma_cons (sm_ix (f2 := false) (sm_var 6) (sm_int _)) (sma_cons (sm_ix (f2 := false) (sm_var 12) (sm_int _)) sma_nil))) (sma_cons (sm_cb (f1 := false) cbd_max (sma_cons (sm_ix (f2 := false) (sm_var 6) (sm_int _)) (sma_cons (sm_ix (f2 := false) (sm_var 12) (sm_int _)) sma_nil))) (sma_cons (sm_op (f1 := false) (f2 := false) (opd_I0 (g' := fun i j => .int (Builtin.bitAnd i j)) fun _ _ => rfl) (sm_ix (f2 := false) (sm_var 6) (sm_int _)) (sm_ix (f2 := false) (sm_var 12) (sm_int _))) (sma_cons (sm_op (f1 := false) (f2 := false) (opd_I0 (g' := fun i j => .int (Builtin.bitAnd i j)) fun _ _ => rfl) (sm_ix (f2 := false) (sm_var 6) (sm_int _)) (sm_ix (f2 := false) (sm_var 12) (sm_int _))) sma_nil))))) (smq_cons (sm_var 5) smq_nil))))))
 sms_next)
 (sms_seq (sms_if (smt_t (f1 := false) (sm_op (f1 := false) (f2 := false) opd_eqD (SmO.sm (smo_lc (i := 13) (smi_list (sm_var 4)) (smt_t (f1 := false) (sm_op (f1 := false) (f2 := false) opd_ne (sm_ix (f2 := false) (sm_var 13) (sm_int _)) (sm_ix (f2 := false) (sm_var 13) (sm_int _)))) (sm_var 13))) (SmO.sm (smo_lst sma_nil))))
 (sms_seq (sms_asg (sm_call len__law_exact (smq_cons (sm_var 0) (smq_cons (sm_var 1) (smq_cons (sm_var 2) (smq_cons (sm_var 3) (smq_cons (SmO.sm (smo_lc (i := 13) (smi_list (sm_var 4)) smt_yes (sm_ix (f2 := false) (sm_var 13) (sm_int _)))) smq_nil)))))) (smg_name 8))
 (sms_seq (sms_if (smt_t (f1 := false) (sm_op (f1 := false) (f2 := false) opd_isN (sm_var 8) sm_non))
 (sms_ret sm_non)
 sms_next)
 (sms_seq (sms_if (smt_t (f1 := false) (sm_op (f1 := false) (f2 := false) opd_eq (sm_var 0) (sm_str _)))
 (sms_asg (sm_int _) (smg_name 5))
 sms_next)
 (sms_ret (sm_tup (sma_cons (sm_var 8) (sma_cons (sm_var 8) (sma_cons (sm_op (f1 := false) (f2 := false) (opd_I0 (g' := fun i j => .int (i - j)) fun _ _ => rfl) (sm_op (f1 := false) (f2 := false) (opd_I0 (g' := fun i j => .int (i - j)) fun _ _ => rfl) (sm_op (f1 := false) (f2 := false) (opd_I (g' := fun i j => .int (i * 2 ^ j.toNat)) fun _ _ => rfl) (sm_int _) (sm_var 5)) (sm_int _)) (sm_var 8)) (sma_cons (sm_var 8) sma_nil)))))))))
 sms_next)
 (sms_seq (sms_asg (sm_ix (f2 := false) (sm_var 4) (sm_int _)) (smg_name 6))
 (sms_seq (sms_if (smt_t (f1 := false) (sm_op (f1 := false) (f2 := false) opd_eq (sm_var 0) (sm_str _)))
 (sms_seq (sms_asg (sm_call len__law_decided (smq_cons (sm_ix (f2 := false) (sm_var 2) (sm_int _)) (smq_cons (sm_var 5) (smq_cons (sm_var 6) (smq_cons (sm_ix (f2 := false) (sm_var 4) (sm_int _)) smq_nil))))) (smg_name 9))
 (sms_ret (sm_if (smt_t (f1 := false) (sm_op (f1 := false) (f2 := false) opd_isN (sm_var 9) sm_non)) (sm_tup (sma_cons (sm_int _) (sma_cons (sm_int _) (sma_cons (sm_int _) (sma_cons (sm_int _) sma_nil))))) (sm_tup (sma_cons (sm_var 9) (sma_cons (sm_var 9) (sma_cons (sm_op (f1 := false) (f2 := false) (opd_I0 (g' := fun i j => .int (i - j)) fun _ _ => rfl) (sm_int _) (sm_var 9)) (sma_cons (sm_var 9) sma_nil))))))))
 sms_next)
 (sms_seq (sms_if (smt_t (f1 := false) (sm_op (f1 := false) (f2 := false) (opd_in false) (sm_var 0) (sm_tup (sma_cons (sm_str _) (sma_cons (sm_str _) (sma_cons (sm_str _) sma_nil))))))
 (sms_seq (sms_asg (sm_op (f1 := false) (f2 := false) (opd_I0 (g' := fun i j => .int (i - j)) fun _ _ => rfl) (sm_op (f1 := false) (f2 := false) (opd_I (g' := fun i j => .int (i * 2 ^ j.toNat)) fun _ _ => rfl) (sm_int _) (sm_var 5)) (sm_int _)) (smg_name 10))
 (sms_seq (sms_asg (sm_call len__law_width (smq_cons (sm_ix (f2 := false) (sm_var 3) (sm_int _)) smq_nil)) (smg_name 11))
 (sms_seq (sms_if (smt_and (smt_t (f1 := false) (sm_op (f1 := false) (f2 := false) opd_eq (sm_var 0) (sm_str _))) (smt_t (f1 := false) (sm_op (f1 := false) (f2 := false) opd_eq (sm_op (f1 := false) (f2 := false) (opd_I0 (g' := fun i j => .int (Builtin.bitAnd i j)) fun _ _ => rfl) (sm_op (f1 := false) (f2 := false) (opd_I (g' := fun i j => .int (i / 2 ^ j.toNat)) fun _ _ => rfl) (sm_ix (f2 := false) (sm_var 6) (sm_int _)) (sm_op (f1 := false) (f2 := false) (opd_I0 (g' := fun i j => .int (i - j)) fun _ _ => rfl) (sm_var 11) (sm_int _))) (sm_int _)) (sm_int _))))
 (sms_ret (sm_tup (sma_cons (sm_int _) (sma_cons (sm_var 10) (sma_cons (sm_int _) (sma_cons (sm_int _) sma_nil))))))
 sms_next)
 (sms_seq (sms_if (smt_t (f1 := false) (sm_op (f1 := false) (f2 := false) opd_eq (sm_var 0) (sm_str _)))
 (sms_seq (sms_asg (sm_if (smt_t (f1 := false) (sm_op (f1 := false) (f2 := false) (opd_I0 (g' := fun i j => .bool (decide (j < i))) fun _ _ => rfl) (sm_ix (f2 := false) (sm_var 6) (sm_int _)) (sm_var 10))) (sm_tup (sma_cons (sm_int _) (sma_cons (sm_var 10) sma_nil))) (sm_tup (sma_cons (sm_ix (f2 := false) (sm_var 6) (sm_int _)) (sma_cons (sm_ix (f2 := false) (sm_var 6) (sm_int _)) sma_nil)))) (smg_tup (smg_cons (smg_name 14) (smg_cons (smg_name 15) smg_nil))))
 (sms_ret (sm_call len__law_normal (smq_cons (sm_tup (sma_cons (sm_var 14) (sma_cons (sm_var 15) (sma_cons (sm_op (f1 := false) (f2 := false) (opd_I0 (g' := fun i j => .int (Builtin.bitAnd i j)) fun _ _ => rfl) (sm_ix (f2 := false) (sm_var 6) (sm_int _)) (sm_var 10)) (sma_cons (sm_op (f1 := false) (f2 := false) (opd_I0 (g' := fun i j => .int (Builtin.bitAnd i j)) fun _ _ => rfl) (sm_ix (f2 := false) (sm_var 6) (sm_int _)) (sm_var 10)) sma_nil))))) (smq_cons (sm_var 5) smq_nil)))))
 sms_next)
 (sms_ret (sm_call len__law_normal (smq_cons (sm_tup (sma_cons (sm_ix (f2 := false) (sm_var 6) (sm_int _)) (sma_cons (sm_ix (f2 := false) (sm_var 6) (sm_int _)) (sma_cons (sm_op (f1 := false) (f2 := false) (opd_I0 (g' := fun i j => .int (Builtin.bitOr i j)) fun _ _ => rfl) (sm_ix (f2 := false) (sm_var 6) (sm_int _)) (sm_op (f1 := false) (f2 := false) (opd_I0 (g' := fun i j => .int (i - j)) fun _ _ => rfl) (sm_var 10) (sm_op (f1 := false) (f2 := false) (opd_I0 (g' := fun i j => .int (i - j)) fun _ _ => rfl) (sm_op (f1 := false) (f2 := false) (opd_I (g' := fun i j => .int (i * 2 ^ j.toNat)) fun _ _ => rfl) (sm_int _) (sm_var 11)) (sm_int _)))) (sma_cons (sm_ix (f2 := false) (sm_var 6) (sm_int _)) sma_nil))))) (smq_cons (sm_var 5) smq_nil))))))))
 sms_next)
 (sms_seq (sms_asg (sm_call len__law_binary_row (smq_cons (sm_var 0) (smq_cons (sm_var 5) (smq_cons (sm_var 6) (smq_cons (sm_ix (f2 := false) (sm_var 4) (sm_int _)) smq_nil))))) (smg_name 7))
 (sms_seq (sms_if (smt_t (f1 := false) (sm_op (f1 := false) (f2 := false) opd_isN (sm_var 7) sm_non))
 (sms_ret sm_non)
 sms_next)
 (sms_ret (sm_call len__law_normal (smq_cons (sm_var 7) (smq_cons (sm_var 5) smq_nil)))))))))))), ?_⟩
  rintro rs Φ ⟨k, w, c, as, rfl, hk, hc, hf, h⟩
  have l3 : (3 : Nat) ≤ sizeLine := by decide
  have l4 : (4 : Nat) ≤ sizeLine := by decide
  have hp := Nat.two_pow_pos w
  have h1 := hk.2.1
  have hw := hk.2.2
  have cw : CPow 1 (w : Int) := cp1 (by omega) (by omega)
  have inj : ∀ x y : Nat, ((x : Int) = (y : Int)) = (x = y) := fun x y => propext Int.ofNat_inj
  refine seq_op fun N hN => ?_
  simp [startD]
  refine ⟨k, _, rfl, hk.1, hN _ ?_⟩
  clear hN N
  simp only [data_d]
  by_cases hsel : notSel c
  · have hop : ¬ c.op = "select" := by
      cases c with
      | sel => exact hsel.elim
      | bin op => exact (ops_not hc).1
      | icmp p => exact (by decide : ¬ ("icmp" : Str) = "select")
      | cast op old v => exact (cast_not hc.2.1).2
    refine if_skip (fun Ψ hΨ => by simpa [hop] using hΨ) ?_
    have hal : as.length ≤ 3 := by rw [fits_len hf]; exact ks_len k w c
    refine seq_op fun N hN => ?_
    refine dIfS_two (fun q => q = allS as) (fun Ψ hΨ => ?_) (fun hq => ?_) (fun hq => ?_)
    · have hΨ := hΨ _ rfl
      simp only [dB, dOp, dO]
      refine oLc_filter as rg rg (fun a => decide (¬ a.l = a.h)) (by omega) (fun Ψ h => by simpa using h) (fun j a Ψ ha hΨ => ?_) (fun j a Ψ ha _ hΨ => ?_) ?_
      · by_cases c1 : a.l = a.h <;> simpa [rg, inj, c1] using hΨ
      · simpa using hΨ
      · have sh := rgs_sh (as.filter fun a => decide (¬ a.l = a.h)) (Nat.le_trans (List.length_filter_le _ _) (by omega))
        have ev := eqv_nil (as.filter fun a => decide (¬ a.l = a.h))
        rw [flt_nil] at ev
        generalize (as.filter fun a => decide (¬ a.l = a.h)) = fs at sh ev ⊢
        have s0 : SeqAt.shaped (.list []) = true := rgs_sh [] (by decide)
        simp [sh, s0, ev]
        exact hΨ
    · clear hN
      have hq := hq.symm
      refine seq_op fun M hM => ?_
      have s1 : c.due w (as.map Rg.l) = .none ∧ c.R w as none ∨ (∃ n w', c.due w (as.map Rg.l) = .int ((n : Nat) : Int) ∧ n < 2 ^ w' ∧ (w' = if c.op = "icmp" then 1 else w) ∧ c.R w as (some ⟨n, n, 2 ^ w' - 1 - n, n⟩)) := by
        cases c with
        | sel => exact hsel.elim
        | bin op =>
          match as, hf, hq with
          | [a, b], ⟨⟨ha, al⟩, ⟨hb, bl⟩, _⟩, hq =>
            have hc : op ∈ ops := hc
            have hq : a.l = a.h ∧ b.l = b.h := by simpa [allS] using hq
            rcases bin_nat hc h1 hw ha.1 hb.1 with e | ⟨n, hn, e⟩
            · exact .inl ⟨e, .inl ⟨hq.1, hq.2, .inl ⟨e, rfl⟩⟩⟩
            · refine .inr ⟨n, w, e, hn, (if_neg (show ¬ (Cs.bin op).op = "icmp" from (ops_not hc).2.1)).symm, .inl ⟨hq.1, hq.2, .inr ⟨n, e, hn, rfl⟩⟩⟩
        | icmp p =>
          match as, hf, hq with
          | [a, b], ⟨⟨ha, al⟩, ⟨hb, bl⟩, _⟩, hq =>
            have hq : a.l = a.h ∧ b.l = b.h := by simpa [allS] using hq
            refine .inr ⟨if cmpI p w a.l b.l = true then 1 else 0, 1, ?_, by split <;> decide, rfl, ?_⟩
            · show PyData.int (b2i (cmpI p w a.l b.l)) = _
              cases cmpI p w (a.l : Int) (b.l : Int) <;> rfl
            · show some _ = some (icmpR p w a b)
              unfold icmpR
              rw [if_pos hq]
              cases cmpI p w (a.l : Int) (b.l : Int) <;> rfl
        | cast op old v =>
          obtain ⟨ho, hop, hvw⟩ := hc
          match as, hf, hq with
          | [a], ⟨⟨ha, al⟩, _⟩, hq =>
            have hq : a.l = a.h := by simpa [allS] using hq
            obtain ⟨n, n1, n2⟩ := castI_nat hop hvw ha.1
            have e : (PyData.int (castI op v w (a.l : Int))) = .int (n : Int) := by rw [n1]
            refine .inr ⟨n, w, e, n2, (if_neg (show ¬ (Cs.cast op old v).op = "icmp" from (cast_not hop).1)).symm, .inl ⟨hq, .inr ⟨n, e, n2, rfl⟩⟩⟩
      simp only [dAsg, dCall, qCons, dVar, qNil, dgName, dO]
      refine ⟨_, rfl, _, rfl, _, rfl, _, rfl, ?_⟩
      refine oLc_of as rg (fun a => .int (a.l : Int)) (by omega) (fun Ψ h => by simpa using h) (fun j a Ψ ha hΨ => by simpa [rg] using hΨ) ?_
      rw [nl_l]
      refine ⟨k, w, c, _, rfl, hk, hc, hsel, fits_vals hf, hM _ ?_⟩
      clear hM M
      rcases s1 with ⟨e, hr⟩ | ⟨n, w', e, hn, hw', hr⟩
      · have h := h none hr
        simp only [data_d]
        rw [e]
        refine if_take (fun Ψ hΨ => by simpa using hΨ) fun N hN => ?_
        simpa [rgO] using h
      · have h := h _ hr
        simp only [data_d]
        rw [e]
        have w64 : w' ≤ 64 := by rw [hw']; split <;> omega
        refine if_skip (fun Ψ hΨ => by simpa using hΨ) ?_
        refine seq_op fun M hM => ?_
        have s2 : M [some (.d (.str c.op)), some (.d (.str k)), some (.d c.data), some (.d (ksD (c.ks k w))), some (.d (.list (as.map rg))), some (.d (.int w')), none, none, some (.d (.int n)), none, none, none, none, none, none, none] := by
          refine hM _ ?_
          clear hM M
          have et : ((2 ^ w' - 1 : Nat) : Int) - (n : Int) = ((2 ^ w' - 1 - n : Nat) : Int) := by omega
          simp
          rw [pw_nat, et]
          exact ⟨cp1 (by omega) (by omega), l4, h⟩
        clear hM
        refine dIfS_two (fun q => q = decide (c.op = "icmp")) (fun Ψ hΨ => ?_) (fun hq => ?_) (fun hq => ?_)
        · have hΨ := hΨ _ rfl
          simpa using hΨ
        · have hq := of_decide_eq_true hq.symm
          rw [if_pos hq] at hw'
          subst hw'
          simp
          exact s2
        · have hq := of_decide_eq_false hq.symm
          rw [if_neg hq] at hw'
          subst hw'
          simp only [dNext]
          exact s2
    have hq := hq.symm
    simp only [dNext]
    refine hN _ ?_
    clear hN N
    cases c with
    | sel => exact hsel.elim
    | icmp p =>
      match as, hf, hq, h with
      | [a, b], ⟨⟨ha, al⟩, ⟨hb, bl⟩, _⟩, hq, h =>
        have hq : ¬ (a.l = a.h ∧ b.l = b.h) := by simpa [allS] using hq
        have h := h _ rfl
        unfold icmpR at h
        rw [if_neg hq] at h
        refine seq_op fun N hN => ?_
        simp
        refine hN _ ?_
        clear hN N
        refine if_take (fun Ψ hΨ => by simpa [Cs.op] using hΨ) fun N hN => ?_
        clear hN
        refine seq_op fun N hN => ?_
        simp [Cs.data]
        refine ⟨p, w, a, b, rfl, hc, h1, hw, hN _ ?_⟩
        clear hN N
        simp only [data_d]
        cases e : dec p w a b with
        | none =>
          rw [e] at h
          simp [oD, l4]
          exact h
        | some q =>
          rw [e] at h
          cases q
          · simp [oD, l4]
            exact h
          · simp [oD, l4]
            exact h
    | cast op old v =>
      obtain ⟨ho, hop, hvw⟩ := hc
      match as, hf, hq, h with
      | [a], ⟨⟨ha, al⟩, _⟩, hq, h =>
        have hq : ¬ a.l = a.h := by simpa [allS] using hq
        have hv1 := ho.2.1
        refine seq_op fun N hN => ?_
        simp
        refine hN _ ?_
        clear hN N
        refine if_skip (fun Ψ hΨ => by simpa [Cs.op, (cast_not hop).1] using hΨ) ?_
        refine if_take (fun Ψ hΨ => by simpa [Cs.op, l3, cast_in hop] using hΨ) fun N hN => ?_
        clear hN
        refine seq_op fun N hN => ?_
        simp
        rw [pw_nat]
        refine ⟨cw, hN _ ?_⟩
        clear hN N
        refine seq_op fun N hN => ?_
        simp [ksD, Cs.ks]
        refine ⟨old, _, rfl, ho.1, hN _ ?_⟩
        clear hN N
        simp only [data_d]
        have e1 : ((v : Int) - 1).toNat = v - 1 := by omega
        have hI : (1 : Int) ≤ (v : Int) := by omega
        refine seq_op fun N hN => ?_
        refine dIfS_two (fun q => q = decide (op = "sext" ∧ a.z &&& 2 ^ (v - 1) = 0)) (fun Ψ hΨ => ?_) (fun hs => ?_) (fun hs => ?_)
        · have hΨ := hΨ _ rfl
          have bz := bit1z a.z (v - 1)
          generalize 2 ^ w - 1 = top
          by_cases c2 : op = "sext"
          · have e : decide (op = "sext" ∧ a.z &&& 2 ^ (v - 1) = 0) = decide (a.z &&& 2 ^ (v - 1) = 0) := decide_eq_decide.mpr ⟨fun q => q.2, fun q => ⟨c2, q⟩⟩
            rw [e, ← bz] at hΨ
            simp [rg, c2, e1, Cs.op]
            exact ⟨by omega, hΨ⟩
          · have e : decide (op = "sext" ∧ a.z &&& 2 ^ (v - 1) = 0) = false := decide_eq_false fun q => c2 q.1
            rw [e] at hΨ
            simpa [rg, c2, Cs.op] using hΨ
        · have hs := of_decide_eq_true hs.symm
          have h := h _ (.inr (.inl ⟨hq, hs, rfl⟩))
          simp only [rgO, rg] at h
          generalize 2 ^ w - 1 = top at h ⊢
          simp [l4]
          exact h
        have hs := of_decide_eq_false hs.symm
        have h := fun r hr => h r (.inr (.inr ⟨hq, hs, hr⟩))
        have ok := castR_ok (op := op) (v := v) (w := w) ha hvw
        unfold castR at h ok
        simp only [dNext]
        refine hN _ ?_
        clear hN N
        by_cases c1 : op = "trunc"
        · simp only [if_pos c1] at h ok
          refine if_take (fun Ψ hΨ => by simpa [Cs.op, c1] using hΨ) fun N hN => ?_
          clear hN
          refine seq_op fun N hN => ?_
          by_cases c2 : 2 ^ w - 1 < a.h
          · rw [if_pos c2] at ok
            simp only [if_pos c2] at h
            generalize 2 ^ w - 1 = top at h ok c2 ⊢
            simp [rg, c2]
            refine ⟨by decide, hN _ ?_⟩
            simp [rg, bA, l4]
            exact ⟨w, _, rfl, h1, hw, ok, h⟩
          · rw [if_neg c2] at ok
            simp only [if_neg c2] at h
            generalize 2 ^ w - 1 = top at h ok c2 ⊢
            simp [rg, c2]
            refine ⟨by decide, hN _ ?_⟩
            simp [rg, bA, l4]
            exact ⟨w, _, rfl, h1, hw, ok, h⟩
        · simp only [if_neg c1, if_neg hs] at h ok
          refine if_skip (fun Ψ hΨ => by simpa [Cs.op, c1] using hΨ) ?_
          have hle := Nat.pow_le_pow_right (n := 2) (by decide) (hvw c1)
          have et : ((2 ^ w - 1 : Nat) : Int) - ((2 ^ v - 1 : Nat) : Int) = ((2 ^ w - 1 - (2 ^ v - 1) : Nat) : Int) := by omega
          have hv2 := ho.2.2
          generalize hT : 2 ^ w - 1 = top at h ok et ⊢
          simp [rg]
          rw [pw_nat, et, bO]
          exact ⟨cp1 (by omega) (by omega), l4, w, _, rfl, h1, hw, ok, h⟩
    | bin op =>
      match as, hf, hq, h with
      | [a, b], ⟨⟨ha, al⟩, ⟨hb, bl⟩, _⟩, hq, h =>
        have hc : op ∈ ops := hc
        obtain ⟨n1, n2, n3, n4, n5⟩ := ops_not hc
        have hq : ¬ (a.l = a.h ∧ b.l = b.h) := by simpa [allS] using hq
        have h : ∀ x, RowR w a b op x → ∀ r, nxO w x r → Φ (.d (rgO r)) := fun x hx r hr => h r (.inr ⟨x, hq, hx, hr⟩)
        refine seq_op fun N hN => ?_
        simp
        refine hN _ ?_
        clear hN N
        refine if_skip (fun Ψ hΨ => by simpa [Cs.op, n2] using hΨ) ?_
        refine if_skip (fun Ψ hΨ => by simpa [Cs.op, l3, ops_nin hc] using hΨ) ?_
        refine seq_op fun N hN => ?_
        simp [Cs.op]
        refine ⟨op, w, a, b, rfl, hc, h1, hw, ha, hb, al, bl, fun x hx => hN _ ?_⟩
        clear hN N
        have h := h x hx
        simp only [data_d]
        cases x with
        | none =>
          refine if_take (fun Ψ hΨ => by simpa [riO] using hΨ) fun N hN => ?_
          simp
          exact h none rfl
        | some x =>
          refine if_skip (fun Ψ hΨ => by simpa [riO, ri] using hΨ) ?_
          simp
          exact ⟨w, x, rfl, h1, hw, hx.ok ha hb, h⟩
  · cases c with
    | bin op => exact absurd True.intro hsel
    | icmp p => exact absurd True.intro hsel
    | cast op old v => exact absurd True.intro hsel
    | sel =>
      match as, hf, h with
      | [c, a, b], ⟨⟨hc', _⟩, ⟨ha, _⟩, ⟨hb, _⟩, _⟩, h =>
        refine if_take (fun Ψ hΨ => by simpa [Cs.op] using hΨ) fun N hN => ?_
        clear hN
        have hc2 : c.l < 2 := hc'.1
        have h : ∀ r, NX w (if c.l = c.h then (if c.l = 1 then a else b) else uni a b).ri r → Φ (.d (rgO r)) := h
        by_cases c1 : c.l = c.h
        · simp only [if_pos c1] at h
          refine if_take (fun Ψ hΨ => by simpa [rg, c1] using hΨ) fun N hN => ?_
          clear hN
          rcases (show c.l = 0 ∨ c.l = 1 by omega) with c2 | c2
          · rw [if_neg (by omega)] at h
            simp [rg, c2, atI, ixN]
            exact ⟨w, _, rfl, h1, hw, ok_ri hb, h⟩
          · rw [if_pos c2] at h
            simp [rg, c2, atI, ixN]
            exact ⟨w, _, rfl, h1, hw, ok_ri ha, h⟩
        · simp only [if_neg c1] at h
          refine if_skip (fun Ψ hΨ => by simpa [rg, c1, inj] using hΨ) ?_
          refine seq_op fun N hN => ?_
          simp
          refine hN _ ?_
          clear hN N
          have e1 : (if b.l < a.l then (b.l : Int) else (a.l : Int)) = ((min a.l b.l : Nat) : Int) := by split <;> omega
          have e2 : (if a.h < b.h then (b.h : Int) else (a.h : Int)) = ((max a.h b.h : Nat) : Int) := by split <;> omega
          simp [rg, bA, l4, e1, e2]
          exact ⟨w, _, rfl, h1, hw, ok_ri (uni_ok ha hb), h⟩


def vp__law_values : VSp := fun rs Φ => ∃ w : Nat, rs = [.drw, .d (.int w)] ∧ 1 ≤ w ∧ w ≤ 64 ∧ ∀ xs : List Nat, 0 < xs.length → xs.length ≤ 4 → (∀ x ∈ xs, x < 2 ^ w) → Φ (.own (nl xs))
theorem len__law_values : ∀ rs Φ, vp__law_values rs Φ → rs.length = 2 := fun rs Φ ⟨_, e, _⟩ => by rw [e]; rfl
theorem G__law_values (T : Txt K mg w) : FnOk P w K mg base CX0 3 T.f__law_values T.fd__law_values ["draw", "w"] (toSp K 2 vp__law_values) := by
  refine fn_ok T.F__law_values sc__law_values fun cdv A outer s H E hr => ⟨_, (pss_cons (ps_set (i := 2) sc__law_values.nd rfl (Or.inl rfl) (pe_lst (pa_cons (pe_call (G__law_number T) hr (by rfl) T.g__law_number T.F__law_number.kp T.b__law_number .nil pass0 (pa_cons (pv 0) (pa_cons (pv 1) pa_nil))) pa_nil)))
 (pss_cons (ps_for PassesOwn.never rfl (pi_range1 rfl T.range (pa_cons (pe_call (G__law_take T) (hr.mono (by decide)) (by rfl) T.g__law_take T.F__law_take.kp T.b__law_take .nil pass0 (pa_cons (pv 0) (pa_cons pe_int pa_nil))) pa_nil)) (pg_name (i := 3) sc__law_values.nd rfl (Or.inl rfl)) (pss_one (ps_if (pt_cmpR op_eq (pe_call (G__law_take T) (hr.mono (by decide)) (by rfl) T.g__law_take T.F__law_take.kp T.b__law_take .nil pass0 (pa_cons (pv 0) (pa_cons pe_int pa_nil))) pe_int (nomark _)) (pss_one (ps_expr (pe_bm PySem.F.plainAttrs_list PySem.F.slot_list_append PySem.F.type_list_append mt_append (pv 2) (pa_cons (pe_call (G__law_number T) hr (by rfl) T.g__law_number T.F__law_number.kp T.b__law_number .nil pass0 (pa_cons (pv 0) (pa_cons (pv 1) pa_nil))) pa_nil)))) (pss_one (ps_expr (pe_bm PySem.F.plainAttrs_list PySem.F.slot_list_append PySem.F.type_list_append mt_append (pv 2) (pa_cons (pe_op op_and (pe_op op_add (pe_op op_add (pe_ix (kx_seq (K := K) rfl) (pv 2) pe_int (fun _ _ => rfl)) (pv 3)) pe_int) (pe_op op_sub (pe_op op_shl pe_int (pv 1)) pe_int)) pa_nil)))))))
 (pss_one (ps_ret (pv 2))))), _, fun ex He Hf => (sms_seq (sms_setO 2 (smo_lst (sma_cons (sm_call len__law_number (smq_drw 0 (smq_cons (sm_var 1) smq_nil))) sma_nil)))
 (sms_seq (sms_for (smi_rng1 (f1 := false) (sm_call len__law_take (smq_drw 0 (smq_cons (sm_int _) smq_nil)))) (smg_name 3)
 (sms_if (smt_t (f1 := false) (sm_op (f1 := false) (f2 := false) opd_eq (sm_call len__law_take (smq_drw 0 (smq_cons (sm_int _) smq_nil))) (sm_int _)))
 (sms_app 2 (sm_call len__law_number (smq_drw 0 (smq_cons (sm_var 1) smq_nil))))
 (sms_app 2 (sm_op (f1 := false) (f2 := false) (opd_I0 (g' := fun i j => .int (Builtin.bitAnd i j)) fun _ _ => rfl) (sm_op (f1 := false) (f2 := false) (opd_I0 (g' := fun i j => .int (i + j)) fun _ _ => rfl) (sm_op (f1 := false) (f2 := false) (opd_I0 (g' := fun i j => .int (i + j)) fun _ _ => rfl) (sm_ix (f2 := false) (sm_varO 2) (sm_int _)) (sm_var 3)) (sm_int _)) (sm_op (f1 := false) (f2 := false) (opd_I0 (g' := fun i j => .int (i - j)) fun _ _ => rfl) (sm_op (f1 := false) (f2 := false) (opd_I (g' := fun i j => .int (i * 2 ^ j.toNat)) fun _ _ => rfl) (sm_int _) (sm_var 1)) (sm_int _))))))
 (sms_retO 2))), ?_⟩
  rintro rs Φ ⟨w, rfl, h1, hw, h⟩
  have hp := Nat.two_pow_pos w
  refine seq_op fun N hN => ?_
  simp [startD]
  refine ⟨w, rfl, h1, hw, fun n0 hn0 => ⟨by decide, fun adr => hN _ ?_⟩⟩
  clear hN N
  refine seq_op fun N hN => ?_
  obtain ⟨I, hI⟩ : ∃ I : Nat → Dl → Prop, ∀ k δ, I k δ ↔ ∃ (xs : List Nat) (y : Option R), xs.length = k + 1 ∧ (∀ x ∈ xs, x < 2 ^ w) ∧ δ = [some .drw, some (.d (.int w)), some (.own adr (nl xs)), y] := ⟨_, fun _ _ => Iff.rfl⟩
  refine dFor_r 3 (by decide) (fun Ψ hΨ => ?_) I ((hI _ _).mpr ⟨[n0], none, rfl, fun x hx => by rw [List.mem_singleton.mp hx]; exact hn0, rfl⟩) (fun k δ hk hJ => ?_) (fun n δ hn hJ => ?_)
  · simp
    intro r r0 r1
    have := hΨ r.toNat (by omega)
    rwa [show ((r.toNat : Nat) : Int) = r by omega] at this
  · obtain ⟨xs, y, hl, hx, rfl⟩ := (hI _ _).mp hJ
    have add : ∀ n : Nat, n < 2 ^ w → I (k + 1) [some .drw, some (.d (.int w)), some (.own adr (nl xs ++ [.int n])), some (.d (.int k))] := fun n hn => by
      rw [← nl_snoc]
      refine (hI _ _).mpr ⟨xs ++ [n], _, by rw [List.length_append, hl]; rfl, fun x hm => ?_, rfl⟩
      rcases List.mem_append.mp hm with hm | hm
      · exact hx x hm
      · rw [List.mem_singleton.mp hm]; exact hn
    have lx : (nl xs).length < sizeLine := by rw [nl_len]; exact Nat.lt_of_lt_of_le (show _ < 100 by omega) (by decide)
    refine dIfS_two (fun _ => True) (fun Ψ hΨ => ?_) (fun _ => ?_) (fun _ => ?_)
    · simp
      exact fun r r0 r1 => hΨ _ trivial
    · simp
      exact ⟨w, rfl, h1, hw, fun n hn => ⟨lx, add n hn⟩⟩
    · obtain ⟨x0, hx0⟩ : ∃ x0 : Nat, (nl xs)[0]? = some (.int (x0 : Int)) := by
        cases xs with
        | nil => cases hl
        | cons x xs => exact ⟨x, rfl⟩
      have a0 : atI (nl xs) 0 = some (.int (x0 : Int)) := by have := atI_nat hx0; simpa using this
      obtain ⟨n, n1, n2⟩ : ∃ n : Nat, n < 2 ^ w ∧ Builtin.bitAnd ((x0 : Int) + (k : Int) + 1) (2 ^ w - 1) = (n : Int) := by
        refine ⟨(x0 + k + 1) &&& (2 ^ w - 1), Nat.lt_of_le_of_lt Nat.and_le_right (by omega), ?_⟩
        rw [pw_nat, show (x0 : Int) + (k : Int) + 1 = ((x0 + k + 1 : Nat) : Int) by omega, bA]
      simp [a0]
      rw [n2]
      exact ⟨cp1 (by omega) (by omega), lx, add n n1⟩
  · obtain ⟨xs, y, hl, hx, rfl⟩ := (hI _ _).mp hJ
    refine hN _ ?_
    simp
    exact h xs (by omega) (by omega) hx
theorem kind5' {r : Int} (h0 : 0 ≤ r) (h1 : r < 5) : ∃ (k : Str) (w : Nat), atI [PyData.str "i8", .str "i32", .str "i1", .str "i64", .str "i16"] r = some (.str k) ∧ KW k w := by
  have : r = 0 ∨ r = 1 ∨ r = 2 ∨ r = 3 ∨ r = 4 := by omega
  rcases this with rfl | rfl | rfl | rfl | rfl
  · exact ⟨"i8", 8, rfl, by simp [L__WIDTHS], by decide, by decide⟩
  · exact ⟨"i32", 32, rfl, by simp [L__WIDTHS], by decide, by decide⟩
  · exact ⟨"i1", 1, rfl, by simp [L__WIDTHS], by decide, by decide⟩
  · exact ⟨"i64", 64, rfl, by simp [L__WIDTHS], by decide, by decide⟩
  · exact ⟨"i16", 16, rfl, by simp [L__WIDTHS], by decide, by decide⟩
theorem ops13 {n : Int} (a : 0 ≤ n) (b : n < 13) : ∃ op : Str, op ∈ ops ∧ atI [PyData.str "add", .str "sub", .str "mul", .str "and", .str "or", .str "xor", .str "shl", .str "lshr", .str "ashr", .str "udiv", .str "sdiv", .str "urem", .str "srem"] n = some (.str op) := by
  rcases (show n = 0 ∨ n = 1 ∨ n = 2 ∨ n = 3 ∨ n = 4 ∨ n = 5 ∨ n = 6 ∨ n = 7 ∨ n = 8 ∨ n = 9 ∨ n = 10 ∨ n = 11 ∨ n = 12 by omega) with rfl | rfl | rfl | rfl | rfl | rfl | rfl | rfl | rfl | rfl | rfl | rfl | rfl <;> exact ⟨_, by simp [ops], rfl⟩
theorem pred10 {n : Int} (a : 0 ≤ n) (b : n < 10) : ∃ p : Str, p ∈ preds ∧ atI [PyData.str "eq", .str "ne", .str "ult", .str "ule", .str "ugt", .str "uge", .str "slt", .str "sle", .str "sgt", .str "sge"] n = some (.str p) := by
  rcases (show n = 0 ∨ n = 1 ∨ n = 2 ∨ n = 3 ∨ n = 4 ∨ n = 5 ∨ n = 6 ∨ n = 7 ∨ n = 8 ∨ n = 9 by omega) with rfl | rfl | rfl | rfl | rfl | rfl | rfl | rfl | rfl | rfl <;> exact ⟨_, by simp [preds], rfl⟩
def vp__law_case : VSp := fun rs Φ => rs = [.drw] ∧ ∀ (k : Str) (w : Nat) (c : Cs), KW k w → c.Ok w → Φ (.d (caseD k w c))
theorem len__law_case : ∀ rs Φ, vp__law_case rs Φ → rs.length = 1 := fun rs Φ ⟨e, _⟩ => by rw [e]; rfl
theorem G__law_case (T : Txt K mg w) : FnOk P w K mg base CX0 2 T.f__law_case T.fd__law_case ["draw"] (toSp K 1 vp__law_case) := by
  refine fn_ok T.F__law_case sc__law_case fun cdv A outer s H E hr => ⟨_, (pss_cons (ps_set (i := 1) sc__law_case.nd rfl (Or.inl rfl) (pe_lst (pa_cons pe_str (pa_cons pe_str (pa_cons pe_str (pa_cons pe_str (pa_cons pe_str pa_nil)))))))
 (pss_cons (ps_set (i := 2) sc__law_case.nd rfl (Or.inl rfl) (pe_lst (pa_cons pe_str (pa_cons pe_str (pa_cons pe_str (pa_cons pe_str (pa_cons pe_str (pa_cons pe_str (pa_cons pe_str (pa_cons pe_str (pa_cons pe_str (pa_cons pe_str (pa_cons pe_str (pa_cons pe_str (pa_cons pe_str pa_nil)))))))))))))))
 (pss_cons (ps_set (i := 3) sc__law_case.nd rfl (Or.inl rfl) (pe_ix (kx_seq (K := K) rfl) (pv 1) (pe_call (G__law_take T) hr (by rfl) T.g__law_take T.F__law_take.kp T.b__law_take .nil pass0 (pa_cons (pv 0) (pa_cons pe_int pa_nil))) (fun _ _ => rfl)))
 (pss_cons (ps_set (i := 4) sc__law_case.nd rfl (Or.inl rfl) (pe_call (G__law_take T) hr (by rfl) T.g__law_take T.F__law_take.kp T.b__law_take .nil pass0 (pa_cons (pv 0) (pa_cons pe_int pa_nil))))
 (pss_cons (ps_if (pt_cmpR op_lt (pv 4) pe_int (nomark _)) (pss_one (ps_ret (pe_tup (pa_cons (pe_ix (kx_seq (K := K) rfl) (pv 2) (pv 4) (fun _ _ => rfl)) (pa_cons (pv 3) (pa_cons (pe_tup pa_nil) (pa_cons (pe_lst (pa_cons (pv 3) (pa_cons (pv 3) pa_nil))) pa_nil))))))) pss_nil)
 (pss_cons (ps_if (pt_cmpR op_lt (pv 4) pe_int (nomark _)) (pss_cons (ps_set (i := 6) sc__law_case.nd rfl (Or.inl rfl) (pe_lst (pa_cons pe_str (pa_cons pe_str (pa_cons pe_str (pa_cons pe_str (pa_cons pe_str (pa_cons pe_str (pa_cons pe_str (pa_cons pe_str (pa_cons pe_str (pa_cons pe_str pa_nil))))))))))))
 (pss_one (ps_ret (pe_tup (pa_cons pe_str (pa_cons (pv 3) (pa_cons (pe_tup (pa_cons (pe_ix (kx_seq (K := K) rfl) (pv 6) (pe_call (G__law_take T) hr (by rfl) T.g__law_take T.F__law_take.kp T.b__law_take .nil pass0 (pa_cons (pv 0) (pa_cons pe_int pa_nil))) (fun _ _ => rfl)) pa_nil)) (pa_cons (pe_lst (pa_cons (pv 3) (pa_cons (pv 3) pa_nil))) pa_nil)))))))) pss_nil)
 (pss_cons (ps_if (pt_cmpR op_eq (pv 4) pe_int (nomark _)) (pss_one (ps_ret (pe_tup (pa_cons pe_str (pa_cons (pv 3) (pa_cons (pe_tup pa_nil) (pa_cons (pe_lst (pa_cons pe_str (pa_cons (pv 3) (pa_cons (pv 3) pa_nil)))) pa_nil))))))) pss_nil)
 (pss_cons (ps_set (i := 5) sc__law_case.nd rfl (Or.inl rfl) (pe_ix (kx_seq (K := K) rfl) (pv 1) (pe_call (G__law_take T) hr (by rfl) T.g__law_take T.F__law_take.kp T.b__law_take .nil pass0 (pa_cons (pv 0) (pa_cons pe_int pa_nil))) (fun _ _ => rfl)))
 (pss_cons (ps_if (pt_cmpR op_eq (pe_call (G__law_width T) hr (by rfl) T.g__law_width T.F__law_width.kp T.b__law_width .nil pass0 (pa_cons (pv 5) pa_nil)) (pe_call (G__law_width T) hr (by rfl) T.g__law_width T.F__law_width.kp T.b__law_width .nil pass0 (pa_cons (pv 3) pa_nil)) (nomark _)) (pss_one (ps_ret (pe_tup (pa_cons pe_str (pa_cons (pv 3) (pa_cons (pe_tup pa_nil) (pa_cons (pe_lst (pa_cons (pv 3) (pa_cons (pv 3) pa_nil))) pa_nil))))))) pss_nil)
 (pss_cons (ps_if (pt_cmpR op_gt (pe_call (G__law_width T) hr (by rfl) T.g__law_width T.F__law_width.kp T.b__law_width .nil pass0 (pa_cons (pv 5) pa_nil)) (pe_call (G__law_width T) hr (by rfl) T.g__law_width T.F__law_width.kp T.b__law_width .nil pass0 (pa_cons (pv 3) pa_nil)) (nomark _)) (pss_one (ps_ret (pe_tup (pa_cons pe_str (pa_cons (pv 3) (pa_cons (pe_tup pa_nil) (pa_cons (pe_lst (pa_cons (pv 5) pa_nil)) pa_nil))))))) pss_nil)
 (pss_one (ps_ret (pe_tup (pa_cons (pe_ix (kx_seq (K := K) rfl) (pe_lst (pa_cons pe_str (pa_cons pe_str pa_nil))) (pe_op op_sub (pv 4) pe_int) (fun _ _ => rfl)) (pa_cons (pv 3) (pa_cons (pe_tup pa_nil) (pa_cons (pe_lst (pa_cons (pv 5) pa_nil)) pa_nil))))))))))))))))), _, fun ex He Hf => (sms_seq (sms_asg (SmO.sm (smo_lst (sma_cons (sm_str _) (sma_cons (sm_str _) (sma_cons (sm_str _) (sma_cons (sm_str _) (sma_cons (sm_str _) sma_nil))))))) (smg_name 1))
 (sms_seq (sms_asg (SmO.sm (smo_lst (sma_cons (sm_str _) (sma_cons (sm_str _) (sma_cons (sm_str _) (sma_cons (sm_str _) (sma_cons (sm_str _) (sma_cons (sm_str _) (sma_cons (sm_str _) (sma_cons (sm_str _) (sma_cons (sm_str _) (sma_cons (sm_str _) (sma_cons (sm_str _) (sma_cons (sm_str _) (sma_cons (sm_str _) sma_nil))))))))))))))) (smg_name 2))
 (sms_seq (sms_asg (sm_ix (f2 := false) (sm_var 1) (sm_call len__law_take (smq_drw 0 (smq_cons (sm_int _) smq_nil)))) (smg_name 3))
 (sms_seq (sms_asg (sm_call len__law_take (smq_drw 0 (smq_cons (sm_int _) smq_nil))) (smg_name 4))
 (sms_seq (sms_if (smt_t (f1 := false) (sm_op (f1 := false) (f2 := false) (opd_I0 (g' := fun i j => .bool (decide (i < j))) fun _ _ => rfl) (sm_var 4) (sm_int _)))
 (sms_ret (sm_tup (sma_cons (sm_ix (f2 := false) (sm_var 2) (sm_var 4)) (sma_cons (sm_var 3) (sma_cons (sm_tup sma_nil) (sma_cons (SmO.sm (smo_lst (sma_cons (sm_var 3) (sma_cons (sm_var 3) sma_nil)))) sma_nil))))))
 sms_next)
 (sms_seq (sms_if (smt_t (f1 := false) (sm_op (f1 := false) (f2 := false) (opd_I0 (g' := fun i j => .bool (decide (i < j))) fun _ _ => rfl) (sm_var 4) (sm_int _)))
 (sms_seq (sms_asg (SmO.sm (smo_lst (sma_cons (sm_str _) (sma_cons (sm_str _) (sma_cons (sm_str _) (sma_cons (sm_str _) (sma_cons (sm_str _) (sma_cons (sm_str _) (sma_cons (sm_str _) (sma_cons (sm_str _) (sma_cons (sm_str _) (sma_cons (sm_str _) sma_nil)))))))))))) (smg_name 6))
 (sms_ret (sm_tup (sma_cons (sm_str _) (sma_cons (sm_var 3) (sma_cons (sm_tup (sma_cons (sm_ix (f2 := false) (sm_var 6) (sm_call len__law_take (smq_drw 0 (smq_cons (sm_int _) smq_nil)))) sma_nil)) (sma_cons (SmO.sm (smo_lst (sma_cons (sm_var 3) (sma_cons (sm_var 3) sma_nil)))) sma_nil)))))))
 sms_next)
 (sms_seq (sms_if (smt_t (f1 := false) (sm_op (f1 := false) (f2 := false) opd_eq (sm_var 4) (sm_int _)))
 (sms_ret (sm_tup (sma_cons (sm_str _) (sma_cons (sm_var 3) (sma_cons (sm_tup sma_nil) (sma_cons (SmO.sm (smo_lst (sma_cons (sm_str _) (sma_cons (sm_var 3) (sma_cons (sm_var 3) sma_nil))))) sma_nil))))))
 sms_next)
 (sms_seq (sms_asg (sm_ix (f2 := false) (sm_var 1) (sm_call len__law_take (smq_drw 0 (smq_cons (sm_int _) smq_nil)))) (smg_name 5))
 (sms_seq (sms_if (smt_t (f1 := false) (sm_op (f1 := false) (f2 := false) opd_eq (sm_call len__law_width (smq_cons (sm_var 5) smq_nil)) (sm_call len__law_width (smq_cons (sm_var 3) smq_nil))))
 (sms_ret (sm_tup (sma_cons (sm_str _) (sma_cons (sm_var 3) (sma_cons (sm_tup sma_nil) (sma_cons (SmO.sm (smo_lst (sma_cons (sm_var 3) (sma_cons (sm_var 3) sma_nil)))) sma_nil))))))
 sms_next)
 (sms_seq (sms_if (smt_t (f1 := false) (sm_op (f1 := false) (f2 := false) (opd_I0 (g' := fun i j => .bool (decide (j < i))) fun _ _ => rfl) (sm_call len__law_width (smq_cons (sm_var 5) smq_nil)) (sm_call len__law_width (smq_cons (sm_var 3) smq_nil))))
 (sms_ret (sm_tup (sma_cons (sm_str _) (sma_cons (sm_var 3) (sma_cons (sm_tup sma_nil) (sma_cons (SmO.sm (smo_lst (sma_cons (sm_var 5) sma_nil))) sma_nil))))))
 sms_next)
 (sms_ret (sm_tup (sma_cons (sm_ix (f2 := false) (SmO.sm (smo_lst (sma_cons (sm_str _) (sma_cons (sm_str _) sma_nil)))) (sm_op (f1 := false) (f2 := false) (opd_I0 (g' := fun i j => .int (i - j)) fun _ _ => rfl) (sm_var 4) (sm_int _))) (sma_cons (sm_var 3) (sma_cons (sm_tup sma_nil) (sma_cons (SmO.sm (smo_lst (sma_cons (sm_var 5) sma_nil))) sma_nil)))))))))))))))), ?_⟩
  rintro rs Φ ⟨rfl, h⟩
  have l4 : (4 : Nat) ≤ sizeLine := by decide
  have l3 : (3 : Nat) ≤ sizeLine := by decide
  have l2 : (2 : Nat) ≤ sizeLine := by decide
  have l1 : (1 : Nat) ≤ sizeLine := by decide
  have inj : ∀ x y : Nat, ((x : Int) = (y : Int)) = (x = y) := fun x y => propext Int.ofNat_inj
  refine seq_op fun N hN => ?_
  simp [startD]
  refine ⟨by decide, hN _ ?_⟩
  clear hN N
  refine seq_op fun N hN => ?_
  simp
  refine ⟨by decide, hN _ ?_⟩
  clear hN N
  refine seq_op fun N hN => ?_
  simp
  intro r r0 r1
  obtain ⟨k, w, e, hk⟩ := kind5' r0 r1
  refine ⟨_, e, hN _ ?_⟩
  clear hN N e r0 r1 r
  refine seq_op fun N hN => ?_
  simp
  intro q q0 q1
  refine hN _ ?_
  clear hN N
  by_cases c1 : q < 13
  · refine if_take (fun Ψ hΨ => by simpa [c1] using hΨ) fun N hN => ?_
    obtain ⟨op, ho, e⟩ := ops13 q0 c1
    have h := h k w (.bin op) hk ho
    simp [e, l4, l2]
    exact h
  refine if_skip (fun Ψ hΨ => by simpa [c1] using hΨ) ?_
  by_cases c2 : q < 15
  · refine if_take (fun Ψ hΨ => by simpa [c2] using hΨ) fun N hN => ?_
    clear hN
    refine seq_op fun N hN => ?_
    simp
    refine ⟨by decide, hN _ ?_⟩
    clear hN N
    simp
    intro r r0 r1
    obtain ⟨p, hp, e⟩ := pred10 r0 r1
    have h := h k w (.icmp p) hk hp
    refine ⟨_, e, l1, l2, l4, h⟩
  refine if_skip (fun Ψ hΨ => by simpa [c2] using hΨ) ?_
  by_cases c3 : q = 15
  · refine if_take (fun Ψ hΨ => by simpa [c3] using hΨ) fun N hN => ?_
    have h := h k w .sel hk True.intro
    simp [l4, l3]
    exact h
  refine if_skip (fun Ψ hΨ => by simpa [c3] using hΨ) ?_
  refine seq_op fun N hN => ?_
  simp
  intro r r0 r1
  obtain ⟨old, v, e, ho⟩ := kind5' r0 r1
  refine ⟨_, e, hN _ ?_⟩
  clear hN N e r0 r1 r
  refine seq_op fun N hN => ?_
  refine dIfS_two (fun c => c = decide (v = w)) (fun Ψ hΨ => ?_) (fun hc => ?_) (fun hc => ?_)
  · have hΨ := hΨ _ rfl
    simp
    refine ⟨old, _, rfl, ho.1, ?_⟩
    simp
    refine ⟨k, _, rfl, hk.1, ?_⟩
    by_cases e : v = w <;> simpa [e, inj] using hΨ
  · have h := h k w (.bin "add") hk (by simp [Cs.Ok, ops])
    simp [l4, l2]
    exact h
  have hc := of_decide_eq_false hc.symm
  simp only [dNext]
  refine hN _ ?_
  clear hN N
  refine seq_op fun N hN => ?_
  refine dIfS_two (fun c => c = decide (w < v)) (fun Ψ hΨ => ?_) (fun hd => ?_) (fun hd => ?_)
  · have hΨ := hΨ _ rfl
    simp
    refine ⟨old, _, rfl, ho.1, ?_⟩
    simp
    refine ⟨k, _, rfl, hk.1, ?_⟩
    simpa using hΨ
  · have h := h k w (.cast "trunc" old v) hk ⟨ho, .inl rfl, fun z => absurd rfl z⟩
    simp [l4, l1]
    exact h
  have hd := of_decide_eq_false hd.symm
  simp only [dNext]
  refine hN _ ?_
  clear hN N
  rcases (show q = 16 ∨ q = 17 by omega) with rfl | rfl
  · have h := h k w (.cast "zext" old v) hk ⟨ho, .inr (.inl rfl), fun _ => by omega⟩
    simp [atI, ixN, l4, l2, l1]
    exact h
  · have h := h k w (.cast "sext" old v) hk ⟨ho, .inr (.inr rfl), fun _ => by omega⟩
    simp [atI, ixN, l4, l2, l1]
    exact h


def beD (a b : Rg) : Option Bool := if a.h < b.l then some true else if b.h ≤ a.l then some false else none
theorem less_a {w hf : Nat} (e : 2 ^ (w - 1) = hf) {a b : Rg} (c : (a.z ||| a.o) &&& hf = 0) : lessD true w a b = none := by
  rw [lessD, if_pos ⟨rfl, .inl (by rw [unk, e]; exact decide_eq_true c)⟩]
theorem less_b {w hf : Nat} (e : 2 ^ (w - 1) = hf) {a b : Rg} (c : (b.z ||| b.o) &&& hf = 0) : lessD true w a b = none := by
  rw [lessD, if_pos ⟨rfl, .inr (by rw [unk, e]; exact decide_eq_true c)⟩]
theorem less_c {w hf : Nat} (e : 2 ^ (w - 1) = hf) {a b : Rg} (c1 : ¬ (a.z ||| a.o) &&& hf = 0) (c2 : ¬ (b.z ||| b.o) &&& hf = 0) : lessD true w a b = if a.o &&& hf ≠ b.o &&& hf then some (decide (a.o &&& hf ≠ 0)) else beD a b := by
  rw [lessD, if_neg (by
    rintro ⟨_, h | h⟩
    · rw [unk, e] at h; exact c1 (of_decide_eq_true h)
    · rw [unk, e] at h; exact c2 (of_decide_eq_true h)), e]
  by_cases c3 : a.o &&& hf = b.o &&& hf
  · rw [if_neg (show ¬ (true = true ∧ a.o &&& hf ≠ b.o &&& hf) from fun x => x.2 c3), if_neg (show ¬ (a.o &&& hf ≠ b.o &&& hf) from fun x => x c3), beD]
  · rw [if_pos ⟨rfl, c3⟩, if_pos c3]
theorem mem_bit {k v : Nat} {a : Rg} (ka : ¬ (a.z ||| a.o) &&& 2 ^ k = 0) (h : Mem v a) : v.testBit k = a.o.testBit k := by
  obtain ⟨_, _, hz, ho⟩ := h
  rw [bit_zero, Nat.testBit_or] at ka
  have h1 := congrArg (fun x => x.testBit k) hz
  have h2 := congrArg (fun x => x.testBit k) ho
  simp only [Nat.testBit_and, Nat.zero_testBit] at h1 h2
  revert ka h1 h2
  cases v.testBit k <;> cases a.z.testBit k <;> cases a.o.testBit k <;> simp
theorem top_bit {k v : Nat} (h : v < 2 ^ (k + 1)) : v.testBit k = true ↔ 2 ^ k ≤ v := by
  have hp := Nat.two_pow_pos k
  rw [Nat.pow_succ] at h
  rw [Nat.testBit_eq_decide_div_mod_eq, decide_eq_true_iff]
  by_cases hv : 2 ^ k ≤ v
  · have : v / 2 ^ k = 1 := by
      rw [Nat.div_eq_iff hp]
      omega
    simp [this, hv]
  · rw [Nat.div_eq_of_lt (by omega)]
    simp [hv]
theorem dis_of {v : Nat} {a : Rg} (h : Mem v a) : a.z &&& a.o = 0 := by
  obtain ⟨_, _, hz, ho⟩ := h
  rw [← ho, ← Nat.and_assoc, Nat.and_comm a.z, hz, Nat.zero_and]
theorem be_sound {x y : Nat} {a b : Rg} {c : Bool} (hx : Mem x a) (hy : Mem y b) (h : beD a b = some c) : decide (x < y) = c := by
  obtain ⟨x1, x2, _⟩ := hx
  obtain ⟨y1, y2, _⟩ := hy
  unfold beD at h
  split at h
  · rw [← Option.some.inj h]
    exact decide_eq_true (by omega)
  · split at h
    · rw [← Option.some.inj h]
      exact decide_eq_false (by omega)
    · cases h
theorem eq_sound {x y : Nat} {a b : Rg} {c : Bool} (hx : Mem x a) (hy : Mem y b) (h : eqR a b = some c) : decide (x = y) = c := by
  obtain ⟨x1, x2, x3, x4⟩ := hx
  obtain ⟨y1, y2, y3, y4⟩ := hy
  unfold eqR at h
  split at h
  · rename_i hc
    rw [← Option.some.inj h]
    refine decide_eq_false fun e => ?_
    subst e
    rcases hc with hc | hc | hc | hc
    · omega
    · omega
    · refine hc ?_
      rw [← x4, Nat.and_assoc, Nat.and_comm a.o, ← Nat.and_assoc, y3, Nat.zero_and]
    · refine hc ?_
      rw [← y4, ← Nat.and_assoc, Nat.and_comm a.z, x3, Nat.zero_and]
  · rename_i hn
    split at h
    · rename_i hc
      rw [← Option.some.inj h]
      refine decide_eq_true ?_
      have := fun e => hn (.inl e)
      have := fun e => hn (.inr (.inl e))
      omega
    · cases h
theorem less_sound0 {w x y : Nat} {a b : Rg} {c : Bool} (hx : Mem x a) (hy : Mem y b) (h : lessD false w a b = some c) : decide ((x : Int) < (y : Int)) = c := by
  rw [show decide ((x : Int) < (y : Int)) = decide (x < y) from decide_eq_decide.mpr Int.ofNat_lt]
  exact be_sound hx hy (by simpa [lessD, beD] using h)
theorem sgn_nat {w x : Nat} : sgn w (x : Int) = if 2 ^ (w - 1) ≤ x then (x : Int) - 2 ^ w else (x : Int) := by
  unfold sgn
  rw [← PySem.W.kbt_cast]
  by_cases h : 2 ^ (w - 1) ≤ x
  · rw [if_pos h, if_pos (Int.ofNat_le.mpr h)]
  · rw [if_neg h, if_neg fun e => h (Int.ofNat_le.mp e)]
theorem less_sound1 {w x y : Nat} {a b : Rg} {c : Bool} (h1 : 1 ≤ w) (xw : x < 2 ^ w) (yw : y < 2 ^ w) (hx : Mem x a) (hy : Mem y b) (h : lessD true w a b = some c) : decide (sgn w (x : Int) < sgn w (y : Int)) = c := by
  obtain ⟨k, rfl⟩ : ∃ k, w = k + 1 := ⟨w - 1, by omega⟩
  rw [sgn_nat, sgn_nat, Nat.add_sub_cancel]
  by_cases c1 : (a.z ||| a.o) &&& 2 ^ k = 0
  · rw [less_a (hf := 2 ^ k) rfl c1] at h; cases h
  by_cases c2 : (b.z ||| b.o) &&& 2 ^ k = 0
  · rw [less_b (hf := 2 ^ k) rfl c2] at h; cases h
  rw [less_c (hf := 2 ^ k) rfl c1 c2] at h
  have bx := mem_bit c1 hx
  have by' := mem_bit c2 hy
  have tx := top_bit xw
  have ty := top_bit yw
  have ip : ((2 : Int) ^ (k + 1)) = ((2 ^ (k + 1) : Nat) : Int) := (PySem.W.kbt_cast _).symm
  rw [ip]
  have xw' : (x : Int) < ((2 ^ (k + 1) : Nat) : Int) := Int.ofNat_lt.mpr xw
  have yw' : (y : Int) < ((2 ^ (k + 1) : Nat) : Int) := Int.ofNat_lt.mpr yw
  generalize ((2 ^ (k + 1) : Nat) : Int) = W at xw' yw' ⊢
  rw [bx] at tx
  rw [by'] at ty
  by_cases c3 : a.o &&& 2 ^ k = b.o &&& 2 ^ k
  · rw [if_neg fun e => e c3] at h
    have := be_sound hx hy h
    rw [← this]
    rw [bit_same] at c3
    rw [c3] at tx
    refine decide_eq_decide.mpr ?_
    cases e : b.o.testBit k
    · rw [e] at tx ty
      rw [if_neg fun q => absurd (tx.mpr q) (by decide), if_neg fun q => absurd (ty.mpr q) (by decide)]
      omega
    · rw [e] at tx ty
      rw [if_pos (tx.mp rfl), if_pos (ty.mp rfl)]
      omega
  · rw [if_pos c3] at h
    rw [← Option.some.inj h]
    refine decide_eq_decide.mpr ?_
    rw [bit_same] at c3
    rw [Ne, bit_zero]
    cases e : a.o.testBit k
    · have e2 : b.o.testBit k = true := by
        cases e2 : b.o.testBit k
        · rw [e, e2] at c3; exact absurd rfl c3
        · rfl
      rw [e] at tx
      rw [e2] at ty
      rw [if_neg fun q => absurd (tx.mpr q) (by decide), if_pos (ty.mp rfl)]
      simp
      omega
    · have e2 : b.o.testBit k = false := by
        cases e2 : b.o.testBit k
        · rfl
        · rw [e, e2] at c3; exact absurd rfl c3
      rw [e] at tx
      rw [e2] at ty
      rw [if_pos (tx.mp rfl), if_neg fun q => absurd (ty.mpr q) (by decide)]
      simp
      omega
theorem map_not {x : Option Bool} {c : Bool} (h : x.map not = some c) : x = some (!c) := by
  cases x with
  | none => cases h
  | some b => cases b <;> cases c <;> simp at h ⊢
theorem dec_sound {p : Str} {w x y : Nat} {a b : Rg} {c : Bool} (hp : p ∈ preds) (h1 : 1 ≤ w) (xw : x < 2 ^ w) (yw : y < 2 ^ w) (hx : Mem x a) (hy : Mem y b) (h : dec p w a b = some c) : cmpI p w (x : Int) (y : Int) = c := by
  have ei : ∀ x y : Nat, decide ((x : Int) = (y : Int)) = decide (x = y) := fun x y => decide_eq_decide.mpr Int.ofNat_inj
  have nl : ∀ (i j : Int) (c : Bool), decide (i < j) = (!c) → decide (j ≤ i) = c := fun i j c e => by
    cases c
    · exact decide_eq_false (by have := of_decide_eq_true e; omega)
    · exact decide_eq_true (by have := of_decide_eq_false e; omega)
  rcases preds_cases hp with rfl | rfl | rfl | rfl | rfl | rfl | rfl | rfl | rfl | rfl
  · have := eq_sound hx hy (show eqR a b = some c by simpa [dec] using h)
    rw [show cmpI "eq" w (x : Int) (y : Int) = decide ((x : Int) = (y : Int)) by simp [cmpI], ei, this]
  · have := eq_sound hx hy (map_not (show (eqR a b).map not = some c by simpa [dec] using h))
    rw [show cmpI "ne" w (x : Int) (y : Int) = !decide ((x : Int) = (y : Int)) by simp [cmpI], ei, this, Bool.not_not]
  · have := less_sound0 hx hy (show lessD false w a b = some c by simpa [dec] using h)
    rw [show cmpI "ult" w (x : Int) (y : Int) = decide ((x : Int) < (y : Int)) by simp [cmpI], this]
  · have := less_sound0 hy hx (map_not (show (lessD false w b a).map not = some c by simpa [dec] using h))
    rw [show cmpI "ule" w (x : Int) (y : Int) = decide ((x : Int) ≤ (y : Int)) by simp [cmpI], nl _ _ _ this]
  · have := less_sound0 hy hx (show lessD false w b a = some c by simpa [dec] using h)
    rw [show cmpI "ugt" w (x : Int) (y : Int) = decide ((y : Int) < (x : Int)) by simp [cmpI], this]
  · have := less_sound0 hx hy (map_not (show (lessD false w a b).map not = some c by simpa [dec] using h))
    rw [show cmpI "uge" w (x : Int) (y : Int) = decide ((y : Int) ≤ (x : Int)) by simp [cmpI], nl _ _ _ this]
  · have := less_sound1 h1 xw yw hx hy (show lessD true w a b = some c by simpa [dec] using h)
    rw [show cmpI "slt" w (x : Int) (y : Int) = decide (sgn w (x : Int) < sgn w (y : Int)) by simp [cmpI], this]
  · have := less_sound1 h1 yw xw hy hx (map_not (show (lessD true w b a).map not = some c by simpa [dec] using h))
    rw [show cmpI "sle" w (x : Int) (y : Int) = decide (sgn w (x : Int) ≤ sgn w (y : Int)) by simp [cmpI], nl _ _ _ this]
  · have := less_sound1 h1 yw xw hy hx (show lessD true w b a = some c by simpa [dec] using h)
    rw [show cmpI "sgt" w (x : Int) (y : Int) = decide (sgn w (y : Int) < sgn w (x : Int)) by simp [cmpI], this]
  · have := less_sound1 h1 xw yw hx hy (map_not (show (lessD true w a b).map not = some c by simpa [dec] using h))
    rw [show cmpI "sge" w (x : Int) (y : Int) = decide (sgn w (y : Int) ≤ sgn w (x : Int)) by simp [cmpI], nl _ _ _ this]
def kds : List Str := ["i8", "i32", "i1", "i64", "i16"]

theorem pint {m n : Nat} (h : PyData.int (m : Int) = .int (n : Int)) : m = n := Int.ofNat_inj.mp (PyData.int.inj h)
theorem mem_lt {w x : Nat} {a : Rg} (ha : InW w a) (hx : Mem x a) : x < 2 ^ w := Nat.lt_of_le_of_lt hx.2.1 ha.2.1
theorem shf_mem {op : Str} {w x y v : Nat} {a b : Rg} (ho : isSh op) (h1 : 1 ≤ w) (ha : InW w a) (hb : InW w b) (hx : Mem x a) (hy : Mem y b) (hv : v < 2 ^ w) (hd : shf op w (x : Int) (y : Int) = .int (v : Int)) : MemI v (shiftR op w a b) := by
  have xw := mem_lt ha hx
  unfold shiftR
  split
  · exact full_row hv
  rename_i c
  have c1 : b.l = b.h := Classical.byContradiction fun q => c (.inl q)
  have ey : y = b.l := by have := hy.1; have := hy.2.1; omega
  subst ey
  have as : op = "ashr" → x < 2 ^ (w - 1) := fun e => by
    have z : ¬ a.z &&& 2 ^ (w - 1) = 0 := fun q => c (.inr ⟨e, q⟩)
    have zb : a.z.testBit (w - 1) = true := by
      cases q : a.z.testBit (w - 1) with
      | true => rfl
      | false => exact absurd ((bit_zero _ _).mpr q) z
    have xb : x.testBit (w - 1) = false := by
      cases q : x.testBit (w - 1) with
      | false => rfl
      | true => rw [dis_iff.mp hx.2.2.1 _ q] at zb; cases zb
    obtain ⟨k, rfl⟩ : ∃ k, w = k + 1 := ⟨w - 1, by omega⟩
    rw [Nat.add_sub_cancel] at xb ⊢
    refine Nat.lt_of_not_le fun q => ?_
    rw [(top_bit xw).mpr q] at xb
    cases xb
  have sg : op = "ashr" → sgn w (x : Int) = (x : Int) := fun e => by
    have := as e
    rw [sgn_nat, if_neg (by omega)]
  have hd' : v = if w ≤ b.l then 0 else if op = "shl" then x * 2 ^ b.l % 2 ^ w else x / 2 ^ b.l := by
    rcases ho with rfl | rfl | rfl
    · by_cases c2 : w ≤ b.l
      · rw [if_pos c2]
        have : (w : Int) ≤ (b.l : Int) := by omega
        simp [shf, this] at hd
        omega
      · rw [if_neg c2, if_pos rfl]
        have : ¬ (w : Int) ≤ (b.l : Int) := by omega
        simp [shf, this] at hd
        rw [pwI, pwI, ← Int.natCast_mul, ← Int.natCast_emod] at hd
        exact (Int.ofNat_inj.mp hd).symm
    · by_cases c2 : w ≤ b.l
      · rw [if_pos c2]
        have : (w : Int) ≤ (b.l : Int) := by omega
        simp [shf, this] at hd
        omega
      · rw [if_neg c2, if_neg (by decide)]
        have : ¬ (w : Int) ≤ (b.l : Int) := by omega
        simp [shf, this] at hd
        rw [pwI, ← Int.natCast_ediv] at hd
        exact (Int.ofNat_inj.mp hd).symm
    · have s := sg rfl
      simp [shf, s] at hd
      have hm : (min (b.l : Int) (w : Int)).toNat = min b.l w := by omega
      rw [hm, pwI, pwI, ← Int.natCast_ediv, ← Int.natCast_emod] at hd
      have hd := Int.ofNat_inj.mp hd
      rw [Nat.mod_eq_of_lt (Nat.lt_of_le_of_lt (Nat.div_le_self _ _) xw)] at hd
      rw [← hd]
      by_cases c2 : w ≤ b.l
      · rw [if_pos c2, Nat.min_eq_right c2]
        exact Nat.div_eq_of_lt xw
      · rw [if_neg c2, if_neg (by decide), Nat.min_eq_left (by omega)]
  by_cases c2 : w ≤ b.l
  · rw [if_pos c2] at hd' ⊢
    subst hd'
    exact single_row (w := w) hv
  rw [if_neg c2] at hd' ⊢
  by_cases c3 : op = "shl"
  · rw [if_pos c3] at hd' ⊢
    rw [hd']
    exact shl_row hx
  · rw [if_neg c3] at hd' ⊢
    rw [hd']
    exact shr_row xw hx
theorem row_sound {op : Str} {w x y v : Nat} {a b : Rg} {q : Option Ri} (ho : op ∈ ops) (h1 : 1 ≤ w) (hw : w ≤ 64) (ha : InW w a) (hb : InW w b) (hx : Mem x a) (hy : Mem y b) (hr : RowR w a b op q) (hv : v < 2 ^ w) (hd : bin op w (x : Int) (y : Int) = .int (v : Int)) : ∃ z, q = some z ∧ MemI v z := by
  have xw := mem_lt ha hx
  have yw := mem_lt hb hy
  cases hr with
  | and =>
    have e : x &&& y = v := pint (by rw [← hd]; simp [bin, bA])
    exact ⟨_, rfl, e ▸ and_row hx hy⟩
  | or =>
    have e : x ||| y = v := pint (by rw [← hd]; simp [bin, bO])
    exact ⟨_, rfl, e ▸ or_row xw yw hx hy⟩
  | xor =>
    have e : x ^^^ y = v := pint (by rw [← hd]; simp [bin, xorN])
    exact ⟨_, rfl, e ▸ xor_row xw yw hx hy⟩
  | ar h j =>
    have e : arN op w x y = v := pint (by rw [← hd, bin_ar h yw])
    exact ⟨_, rfl, e ▸ ar_row h j ha hb hx hy⟩
  | sh h =>
    refine ⟨_, rfl, shf_mem h h1 ha hb hx hy hv ?_⟩
    rw [← hd]
    rcases h with rfl | rfl | rfl <;> simp [bin]
  | sd h => exact ⟨_, rfl, full_row hv⟩
  | dv h =>
    have y0 : y ≠ 0 := fun e => by
      subst e
      rcases h with rfl | rfl <;> simp [bin, divd] at hd
    have b0 : ¬ b.h = 0 := fun e => by have := hy.2.1; omega
    unfold divR
    rw [if_neg b0]
    refine ⟨_, rfl, ?_⟩
    rcases h with rfl | rfl
    · have e : x / y = v := pint (by rw [← hd]; simp [bin, divd, y0])
      rw [if_pos rfl, ← e]
      exact udiv_row hx hy y0
    · have e : x % y = v := pint (by rw [← hd]; simp [bin, divd, y0])
      rw [if_neg (by decide), ← e]
      exact urem_row hx hy y0
def MemAll : List Rg → List Nat → Prop
  | [], [] => True
  | a :: as, x :: xs => Mem x a ∧ MemAll as xs
  | _, _ => False
/-- the width of the result -/
def Cs.rw (w : Nat) (c : Cs) : Nat := if c.op = "icmp" then 1 else w
theorem mem_single {w n : Nat} (h : n < 2 ^ w) : Mem n ⟨n, n, 2 ^ w - 1 - n, n⟩ := ⟨Nat.le_refl _, Nat.le_refl _, and_comp h, Nat.and_self _⟩
theorem mem_uni1 {x : Nat} {a b : Rg} (h : Mem x a) : Mem x (uni a b) := ⟨by have := h.1; show min a.l b.l ≤ x; omega, by have := h.2.1; show x ≤ max a.h b.h; omega, and_z h.2.2.1, and_o h.2.2.2⟩
theorem mem_uni2 {x : Nat} {a b : Rg} (h : Mem x b) : Mem x (uni a b) := ⟨by have := h.1; show min a.l b.l ≤ x; omega, by have := h.2.1; show x ≤ max a.h b.h; omega, by show x &&& (a.z &&& b.z) = 0; rw [Nat.and_comm a.z]; exact and_z h.2.2.1, by show x &&& (a.o &&& b.o) = a.o &&& b.o; rw [Nat.and_comm a.o]; exact and_o h.2.2.2⟩
theorem cast_sound {op : Str} {v w x n : Nat} {a : Rg} (hop : op = "trunc" ∨ op = "zext" ∨ op = "sext") (hvw : op ≠ "trunc" → v ≤ w) (h1 : 1 ≤ v) (ha : InW v a) (hx : Mem x a) (hs : ¬ (op = "sext" ∧ a.z &&& 2 ^ (v - 1) = 0)) (hn : (n : Int) = castI op v w (x : Int)) : MemI n (castR op v w a) := by
  have xv := mem_lt ha hx
  unfold castR
  by_cases c1 : op = "trunc"
  · rw [if_pos c1]
    unfold castI at hn
    rw [if_pos c1, pwI, ← Int.natCast_emod] at hn
    obtain rfl := Int.ofNat_inj.mp hn
    exact trunc_row hx
  · rw [if_neg c1, if_neg hs]
    have hle := hvw c1
    have e : n = x := by
      unfold castI at hn
      rw [if_neg c1] at hn
      by_cases c2 : op = "zext"
      · rw [if_pos c2] at hn
        exact Int.ofNat_inj.mp hn
      · rw [if_neg c2] at hn
        have c3 : op = "sext" := by rcases hop with h | h | h
                                    · exact absurd h c1
                                    · exact absurd h c2
                                    · exact h
        have z : ¬ a.z &&& 2 ^ (v - 1) = 0 := fun q => hs ⟨c3, q⟩
        have zb : a.z.testBit (v - 1) = true := by
          cases q : a.z.testBit (v - 1) with
          | true => rfl
          | false => exact absurd ((bit_zero _ _).mpr q) z
        have xb : x.testBit (v - 1) = false := by
          cases q : x.testBit (v - 1) with
          | false => rfl
          | true => rw [dis_iff.mp hx.2.2.1 _ q] at zb; cases zb
        have hlt : x < 2 ^ (v - 1) := by
          obtain ⟨k, rfl⟩ : ∃ k, v = k + 1 := ⟨v - 1, by omega⟩
          rw [Nat.add_sub_cancel] at xb ⊢
          refine Nat.lt_of_not_le fun q => ?_
          rw [(top_bit xv).mpr q] at xb
          cases xb
        rw [sgn_nat, if_neg (by omega), pwI, ← Int.natCast_emod] at hn
        have := Nat.pow_le_pow_right (n := 2) (by decide) hle
        rw [Nat.mod_eq_of_lt (by omega)] at hn
        exact Int.ofNat_inj.mp hn
    rw [e]
    exact ext_row hle xv hx
theorem Cs.sound {k : Str} {w : Nat} {c : Cs} {as : List Rg} {r : Option Rg} {xs : List Nat} (hk : KW k w) (hc : c.Ok w) (hf : Fits (c.ks k w) as) (hr : c.R w as r) (hm : MemAll as xs) : c.due w xs = .none ∨ ∃ (n : Nat) (u : Rg), c.due w xs = .int (n : Int) ∧ n < 2 ^ c.rw w ∧ r = some u ∧ Mem n u := by
  have h1 := hk.2.1
  have hw := hk.2.2
  cases c with
  | bin op =>
    have hc : op ∈ ops := hc
    have ew : (Cs.bin op).rw w = w := if_neg (show ¬ op = "icmp" from (ops_not hc).2.1)
    rw [ew]
    match as, xs, hf, hr, hm with
    | [a, b], [x, y], ⟨⟨ha, al⟩, ⟨hb, bl⟩, _⟩, hr, ⟨hx, hy, _⟩ =>
      rcases bin_nat hc h1 hw (mem_lt ha hx) (mem_lt hb hy) with e | ⟨n, hn, e⟩
      · exact .inl e
      refine .inr ⟨n, ?_⟩
      rcases hr with ⟨s1, s2, s3⟩ | ⟨q, _, hq, hn2⟩
      · have ex : x = a.l := by have := hx.1; have := hx.2.1; omega
        have ey : y = b.l := by have := hy.1; have := hy.2.1; omega
        rw [← ex, ← ey] at s3
        rcases s3 with ⟨t1, _⟩ | ⟨m, t1, t2, t3⟩
        · rw [e] at t1; cases t1
        · rw [e] at t1
          obtain rfl := pint t1
          exact ⟨_, e, hn, t3, mem_single hn⟩
      · obtain ⟨z, rfl, hz⟩ := row_sound hc h1 hw ha hb hx hy hq hn e
        obtain ⟨u, e1, e2⟩ := nx_mem hn2 hn hz
        exact ⟨u, e, hn, e1, e2⟩
  | icmp p =>
    match as, xs, hf, hr, hm with
    | [a, b], [x, y], ⟨⟨ha, al⟩, ⟨hb, bl⟩, _⟩, hr, ⟨hx, hy, _⟩ =>
      have hr : r = some (icmpR p w a b) := hr
      have e : (Cs.icmp p).due w [x, y] = .int ((if cmpI p w (x : Int) (y : Int) = true then 1 else 0 : Nat) : Int) := by
        show PyData.int (b2i (cmpI p w (x : Int) (y : Int))) = _
        cases cmpI p w (x : Int) (y : Int) <;> rfl
      have lt : (if cmpI p w (x : Int) (y : Int) = true then 1 else 0 : Nat) < 2 ^ (Cs.icmp p).rw w := by
        show _ < 2 ^ 1
        split <;> decide
      refine .inr ⟨_, icmpR p w a b, e, lt, hr, ?_⟩
      have m0 : Mem 0 ⟨0, 0, 1, 0⟩ := by decide
      have m1 : Mem 1 ⟨1, 1, 0, 1⟩ := by decide
      unfold icmpR
      by_cases c1 : a.l = a.h ∧ b.l = b.h
      · have ex : x = a.l := by have := hx.1; have := hx.2.1; omega
        have ey : y = b.l := by have := hy.1; have := hy.2.1; omega
        rw [if_pos c1, ex, ey]
        split
        · exact m1
        · exact m0
      · rw [if_neg c1]
        cases hd : dec p w a b with
        | none =>
          dsimp only
          split <;> decide
        | some q =>
          have := dec_sound hc h1 (mem_lt ha hx) (mem_lt hb hy) hx hy hd
          rw [this]
          dsimp only
          split
          · exact m1
          · exact m0
  | sel =>
    match as, xs, hf, hr, hm with
    | [c, a, b], [z, x, y], ⟨⟨hc', _⟩, ⟨ha, _⟩, ⟨hb, _⟩, _⟩, hr, ⟨hz, hx, hy, _⟩ =>
      have hr : NX w (if c.l = c.h then (if c.l = 1 then a else b) else uni a b).ri r := hr
      have ew : Cs.sel.rw w = w := if_neg (by decide)
      rw [ew]
      have hc2 := hc'.2.1
      have z1 := hz.1
      have z2 := hz.2.1
      have e : Cs.sel.due w [z, x, y] = .int ((if z = 1 then x else y : Nat) : Int) := by
        show PyData.int (if z = 1 then (x : Int) else (y : Int)) = _
        split <;> rfl
      have hn : (if z = 1 then x else y) < 2 ^ w := by
        split
        · exact mem_lt ha hx
        · exact mem_lt hb hy
      have hm : Mem (if z = 1 then x else y) (if c.l = c.h then (if c.l = 1 then a else b) else uni a b) := by
        by_cases c1 : c.l = c.h
        · rw [if_pos c1]
          have : z = c.l := by omega
          rw [this]
          by_cases c2 : c.l = 1
          · rw [if_pos c2, if_pos c2]; exact hx
          · rw [if_neg c2, if_neg c2]; exact hy
        · rw [if_neg c1]
          by_cases c2 : z = 1
          · rw [if_pos c2]; exact mem_uni1 hx
          · rw [if_neg c2]; exact mem_uni2 hy
      obtain ⟨u, e1, e2⟩ := nx_mem hr hn (memI_ri.mpr hm)
      exact .inr ⟨_, u, e, hn, e1, e2⟩
  | cast op old v =>
    obtain ⟨ho, hop, hvw⟩ := hc
    match as, xs, hf, hr, hm with
    | [a], [x], ⟨⟨ha, _⟩, _⟩, hr, ⟨hx, _⟩ =>
      have ew : (Cs.cast op old v).rw w = w := if_neg (show ¬ op = "icmp" from (cast_not hop).1)
      rw [ew]
      obtain ⟨n, n1, n2⟩ := castI_nat hop hvw (mem_lt ha hx)
      have e : (Cs.cast op old v).due w [x] = .int (n : Int) := by
        show PyData.int (castI op v w (x : Int)) = _
        rw [n1]
      refine .inr ⟨n, ?_⟩
      rcases hr with ⟨s1, s2⟩ | ⟨_, s2, s3⟩ | ⟨_, s2, s3⟩
      · have ex : x = a.l := by have := hx.1; have := hx.2.1; omega
        rw [← ex] at s2
        rcases s2 with ⟨t1, _⟩ | ⟨m, t1, t2, t3⟩
        · cases t1
        · have t1 : PyData.int (castI op v w (x : Int)) = .int (m : Int) := t1
          rw [← n1] at t1
          obtain rfl := pint t1
          exact ⟨_, e, n2, t3, mem_single n2⟩
      · refine ⟨_, e, n2, s3, Nat.zero_le _, ?_, Nat.and_zero _, Nat.and_zero _⟩
        show n ≤ 2 ^ w - 1
        omega
      · obtain ⟨u, e1, e2⟩ := nx_mem s3 n2 (cast_sound hop hvw ho.2.1 ha hx s2 n1)
        exact ⟨u, e, n2, e1, e2⟩


inductive RowOf : List (List Nat) → List Nat → Prop
  | nil : RowOf [] []
  | cons {l : List Nat} {ls : List (List Nat)} {x : Nat} {r : List Nat} (h : x ∈ l) (t : RowOf ls r) : RowOf (l :: ls) (x :: r)
theorem RowOf.snoc {ls : List (List Nat)} {r l : List Nat} {x : Nat} (h : RowOf ls r) (hx : x ∈ l) : RowOf (ls ++ [l]) (r ++ [x]) := by
  induction h with
  | nil => exact .cons hx .nil
  | cons h _ ih => exact .cons h ih
theorem RowOf.len {ls : List (List Nat)} {r : List Nat} (h : RowOf ls r) : r.length = ls.length := by
  induction h with
  | nil => rfl
  | cons _ _ ih => rw [List.length_cons, List.length_cons, ih]
def nll (ls : List (List Nat)) : List PyData := ls.map fun l => .list (nl l)
theorem nll_len (ls : List (List Nat)) : (nll ls).length = ls.length := by simp [nll]
theorem nll_snoc (ls : List (List Nat)) (l : List Nat) : nll (ls ++ [l]) = nll ls ++ [.list (nl l)] := by simp [nll]
theorem nll_get {ls : List (List Nat)} {k : Nat} {y : PyData} (h : (nll ls)[k]? = some y) : ∃ l, ls[k]? = some l ∧ y = .list (nl l) := by
  rw [nll, List.getElem?_map] at h
  cases e : ls[k]? with
  | none => rw [e] at h; cases h
  | some l => rw [e] at h; exact ⟨l, rfl, (Option.some.inj h).symm⟩
def vp__law_rows : VSp := fun rs Φ => ∃ ls : List (List Nat), rs = [.d (.list (nll ls))] ∧ ls.length ≤ 3 ∧ (∀ l ∈ ls, 0 < l.length ∧ l.length ≤ 4) ∧ ∀ os : List (List Nat), (∀ o ∈ os, RowOf ls o) → 0 < os.length → os.length ≤ 64 → Φ (.d (.list (nll os)))
theorem len__law_rows : ∀ rs Φ, vp__law_rows rs Φ → rs.length = 1 := fun rs Φ ⟨_, e, _⟩ => by rw [e]; rfl
theorem G__law_rows (T : Txt K mg w) : FnOk P w K mg base CX0 1 T.f__law_rows T.fd__law_rows ["lists"] (toSp K 1 vp__law_rows) := by
  refine fn_ok T.F__law_rows sc__law_rows fun cdv A outer s H E hr => ⟨_, (pss_cons (ps_set (i := 1) sc__law_rows.nd rfl (Or.inl rfl) (pe_lst (pa_cons (pe_lst pa_nil) pa_nil)))
 (pss_cons (ps_for PassesOwn.never rfl ((kpi_list (K := K) rfl (pv 0))) (pg_name (i := 2) sc__law_rows.nd rfl (Or.inl rfl)) (pss_cons (ps_set (i := 3) sc__law_rows.nd rfl (Or.inl rfl) (pe_lst pa_nil))
 (pss_cons (ps_for PassesOwn.never rfl ((kpi_list (K := K) rfl (pv 1))) (pg_name (i := 4) sc__law_rows.nd rfl (Or.inl rfl)) (pss_one (ps_for PassesOwn.never rfl ((kpi_list (K := K) rfl (pv 2))) (pg_name (i := 5) sc__law_rows.nd rfl (Or.inl rfl)) (pss_one (ps_expr (pe_bm PySem.F.plainAttrs_list PySem.F.slot_list_append PySem.F.type_list_append mt_append (pv 3) (pa_cons (pe_op op_cat (pv 4) (pe_lst (pa_cons (pv 5) pa_nil))) pa_nil)))))))
 (pss_one (ps_set (i := 1) sc__law_rows.nd rfl (Or.inl rfl) (pv 3))))))
 (pss_one (ps_ret (pv 1))))), _, fun ex He Hf => (sms_seq (sms_asg (SmO.sm (smo_lst (sma_cons (SmO.sm (smo_lst sma_nil)) sma_nil))) (smg_name 1))
 (sms_seq (sms_for (smi_list (sm_var 0)) (smg_name 2)
 (sms_seq (sms_setO 3 (smo_lst sma_nil))
 (sms_seq (sms_for (smi_list (sm_var 1)) (smg_name 4)
 (sms_for (smi_list (sm_var 2)) (smg_name 5)
 (sms_app 3 (SmO.sm (smo_cat (sm_var 4) (SmO.sm (smo_lst (sma_cons (sm_var 5) sma_nil))))))))
 (sms_frz 3 (sms_asg (sm_var 3) (smg_name 1))))))
 (sms_ret (sm_var 1)))), ?_⟩
  rintro rs Φ ⟨ls, rfl, hl3, hl, h⟩
  have l1 : (1 : Nat) ≤ sizeLine := by decide
  refine seq_op fun N hN => ?_
  simp [startD]
  refine ⟨l1, hN _ ?_⟩
  clear hN N
  refine seq_op fun N hN => ?_
  obtain ⟨I, hI⟩ : ∃ I : Nat → Dl → Prop, ∀ k δ, I k δ ↔ ∃ (os : List (List Nat)) (y2 y3 y4 y5 : Option R), (∀ o ∈ os, RowOf (ls.take k) o) ∧ 0 < os.length ∧ os.length ≤ 4 ^ k ∧ δ = [some (.d (.list (nll ls))), some (.d (.list (nll os))), y2, y3, y4, y5] := ⟨_, fun _ _ => Iff.rfl⟩
  refine dFor_w (xs := nll ls) (fun Ψ h => by simpa using h) I ((hI _ _).mpr ⟨[[]], none, none, none, none, fun o ho => by rw [List.mem_singleton.mp ho]; exact .nil, by decide, by decide, rfl⟩) (fun k z δ hz hJ => ?_) (fun δ hJ => ?_)
  · obtain ⟨os, y2, y3, y4, y5, ho, o0, o4, rfl⟩ := (hI _ _).mp hJ
    obtain ⟨l, hlk, rfl⟩ := nll_get hz
    obtain ⟨l0, l4⟩ := hl l (List.mem_of_getElem? hlk)
    have hk : k < ls.length := (List.getElem?_eq_some_iff.mp hlk).1
    have et : ls.take (k + 1) = ls.take k ++ [l] := by rw [List.take_add_one, hlk]; rfl
    have p3 : os.length ≤ 16 := Nat.le_trans o4 (by rcases (show k = 0 ∨ k = 1 ∨ k = 2 by omega) with rfl | rfl | rfl <;> decide)
    clear hz hJ
    refine seq_op fun M hM => ?_
    simp
    intro adr
    refine hM _ ?_
    clear hM M
    refine seq_op fun M hM => ?_
    obtain ⟨J, hJ⟩ : ∃ J : Nat → Dl → Prop, ∀ m δ, J m δ ↔ ∃ (out : List (List Nat)) (y4 y5 : Option R), (∀ o ∈ out, RowOf (ls.take (k + 1)) o) ∧ out.length = m * l.length ∧ δ = [some (.d (.list (nll ls))), some (.d (.list (nll os))), some (.d (.list (nl l))), some (.own adr (nll out)), y4, y5] := ⟨_, fun _ _ => Iff.rfl⟩
    refine dFor_w (xs := nll os) (fun Ψ h => by simpa using h) J ((hJ _ _).mpr ⟨[], y4, y5, fun _ h => (nomatch h), by simp, rfl⟩) (fun m z δ hz hJ1 => ?_) (fun δ hJ1 => ?_)
    · obtain ⟨out, y4, y5, hout, hlen, rfl⟩ := (hJ _ _).mp hJ1
      obtain ⟨o, hom, rfl⟩ := nll_get hz
      have hro := ho o (List.mem_of_getElem? hom)
      have hm : m < os.length := (List.getElem?_eq_some_iff.mp hom).1
      obtain ⟨Q, hQ⟩ : ∃ Q : Nat → Dl → Prop, ∀ i δ, Q i δ ↔ ∃ (out : List (List Nat)) (y5 : Option R), (∀ o ∈ out, RowOf (ls.take (k + 1)) o) ∧ out.length = m * l.length + i ∧ δ = [some (.d (.list (nll ls))), some (.d (.list (nll os))), some (.d (.list (nl l))), some (.own adr (nll out)), some (.d (.list (nl o))), y5] := ⟨_, fun _ _ => Iff.rfl⟩
      refine dFor_w (xs := nl l) (fun Ψ h => by simpa using h) Q ((hQ _ _).mpr ⟨out, y5, hout, by omega, rfl⟩) (fun i z δ hz hQ1 => ?_) (fun δ hQ1 => ?_)
      · obtain ⟨out, y5, hout, hlen, rfl⟩ := (hQ _ _).mp hQ1
        obtain ⟨x, hx, rfl⟩ := nl_getk hz
        have hxl := List.mem_of_getElem? hx
        have hi : i < l.length := (List.getElem?_eq_some_iff.mp hx).1
        have mb : m * l.length ≤ 15 * 4 := Nat.mul_le_mul (by omega) l4
        have s1 : (nl o).length + 1 ≤ sizeLine := by
          rw [nl_len, hro.len, List.length_take]
          exact Nat.le_trans (show _ ≤ 10 by omega) (by decide)
        have s2 : (nll out).length < sizeLine := by
          rw [nll_len, hlen]
          exact Nat.lt_of_le_of_lt (show _ ≤ 1000 by omega) (by decide)
        simp
        refine ⟨l1, s1, s2, ?_⟩
        rw [← nl_snoc, ← nll_snoc]
        refine (hQ _ _).mpr ⟨_, _, fun q hq => ?_, by rw [List.length_append, hlen]; rfl, rfl⟩
        rcases List.mem_append.mp hq with hq | hq
        · exact hout q hq
        · rw [List.mem_singleton.mp hq, et]
          exact hro.snoc hxl
      · obtain ⟨out, y5, hout, hlen, rfl⟩ := (hQ _ _).mp hQ1
        rw [nl_len] at hlen
        exact (hJ _ _).mpr ⟨out, _, _, hout, by rw [hlen, Nat.succ_mul], rfl⟩
    · obtain ⟨out, y4, y5, hout, hlen, rfl⟩ := (hJ _ _).mp hJ1
      rw [nll_len] at hlen
      refine hM _ ?_
      simp
      refine (hI _ _).mpr ⟨out, _, _, _, _, hout, ?_, ?_, rfl⟩
      · rw [hlen]; exact Nat.mul_pos o0 l0
      · rw [hlen, Nat.pow_succ]; exact Nat.mul_le_mul o4 l4
  · obtain ⟨os, y2, y3, y4, y5, ho, o0, o4, rfl⟩ := (hI _ _).mp hJ
    rw [nll_len, List.take_length] at ho
    rw [nll_len] at o4
    refine hN _ ?_
    simp
    exact h os ho o0 (Nat.le_trans o4 (by rcases (show ls.length = 0 ∨ ls.length = 1 ∨ ls.length = 2 ∨ ls.length = 3 by omega) with e | e | e | e <;> rw [e] <;> decide))


def tgR (w n : Nat) : Rg := ⟨n, n, 2 ^ w - 1 - n, n⟩
theorem tgR_in {w n : Nat} (h : n < 2 ^ w) : InW w (tgR w n) := ⟨h, h, by show 2 ^ w - 1 - n < _; omega, h⟩
theorem tgR_dis {w n : Nat} (h : n < 2 ^ w) : (tgR w n).z &&& (tgR w n).o = 0 := by
  show (2 ^ w - 1 - n) &&& n = 0
  rw [Nat.and_comm]
  exact and_comp h
theorem tight1 {w n : Nat} (h : n < 2 ^ w) : (⟨n, n, tzB w [n], to' w [n]⟩ : Rg) = tgR w n := by
  have e1 : tzB w [n] = 2 ^ w - 1 - n := by
    show (2 ^ w - 1) &&& (2 ^ w - 1 - n) = _
    rw [Nat.and_comm, Nat.and_two_pow_sub_one_eq_mod, Nat.mod_eq_of_lt (by omega)]
  have e2 : to' w [n] = n := by
    show (2 ^ w - 1) &&& n = _
    rw [Nat.and_comm, Nat.and_two_pow_sub_one_eq_mod, Nat.mod_eq_of_lt h]
  rw [e1, e2]
  rfl
theorem kp_tight {w n : Nat} {u : Rg} (hn : n < 2 ^ w) (h : Kp w (tgR w n).ri u) : u = tgR w n := by
  obtain ⟨h1, h2, h3, h4, h5, h6, h7⟩ := h
  have h1 : (n : Int) ≤ (u.l : Int) := h1
  have h2 : (u.h : Int) ≤ (n : Int) := h2
  have el : u.l = n := by omega
  have eh : u.h = n := by omega
  have h3 : u.z &&& (2 ^ w - 1 - n) = 2 ^ w - 1 - n := h3
  have h4 : u.o &&& n = n := h4
  have lt : ∀ {x j : Nat}, x < 2 ^ w → x.testBit j = true → j < w := fun {x j} hx hj => by
    refine Nat.lt_of_not_le fun q => ?_
    rw [Nat.testBit_lt_two_pow (Nat.lt_of_lt_of_le hx (Nat.pow_le_pow_right (by decide) q))] at hj
    cases hj
  have ez : u.z = 2 ^ w - 1 - n := Nat.eq_of_testBit_eq fun j => by
    cases e : u.z.testBit j with
    | true =>
      have hj := lt h5.2.2.1 e
      have d := dis_iff.mp h7 j e
      have nb : n.testBit j = false := by
        cases q : n.testBit j with
        | false => rfl
        | true => rw [sup_iff.mp h4 j q] at d; cases d
      rw [comp_bit hn, nb, decide_eq_true hj]
      rfl
    | false =>
      cases q : (2 ^ w - 1 - n).testBit j with
      | false => rfl
      | true => rw [sup_iff.mp h3 j q] at e; cases e
  have eo : u.o = n := Nat.eq_of_testBit_eq fun j => by
    cases e : u.o.testBit j with
    | true =>
      have hj := lt h5.2.2.2 e
      cases q : n.testBit j with
      | true => rfl
      | false =>
        have z : u.z.testBit j = true := by rw [ez, comp_bit hn, q, decide_eq_true hj]; rfl
        rw [dis_iff.mp h7 j z] at e
        cases e
    | false =>
      cases q : n.testBit j with
      | false => rfl
      | true => rw [sup_iff.mp h4 j q] at e; cases e
  obtain ⟨l, u, z, o⟩ := u
  simp only at el eh ez eo
  rw [el, eh, ez, eo]
  rfl
theorem Cs.range {k : Str} {w : Nat} {c : Cs} {as : List Rg} {u : Rg} (hk : KW k w) (hc : c.Ok w) (hr : c.R w as (some u)) : InW (c.rw w) u ∧ u.l ≤ u.h ∧ u.z &&& u.o = 0 := by
  have hp := Nat.two_pow_pos w
  have nx : ∀ {x : Ri}, NX w x (some u) → InW w u ∧ u.l ≤ u.h ∧ u.z &&& u.o = 0 := fun h => by
    have := nx_kp h
    exact ⟨this.i, this.le, this.dis⟩
  have sg : ∀ {d : PyData}, sgO w d (some u) → InW w u ∧ u.l ≤ u.h ∧ u.z &&& u.o = 0 := fun h => by
    rcases h with ⟨_, h⟩ | ⟨n, _, hn, h⟩
    · cases h
    · cases h
      exact ⟨tgR_in hn, Nat.le_refl _, tgR_dis hn⟩
  cases c with
  | bin op =>
    have ew : (Cs.bin op).rw w = w := if_neg (show ¬ op = "icmp" from (ops_not hc).2.1)
    rw [ew]
    match as, hr with
    | [a, b], hr =>
      rcases hr with ⟨_, _, h⟩ | ⟨x, _, _, h⟩
      · exact sg h
      · cases x with
        | none => cases h
        | some x => exact nx h
  | icmp p =>
    match as, hr with
    | [a, b], hr =>
      have hr : some u = some (icmpR p w a b) := hr
      obtain rfl := Option.some.inj hr
      show InW 1 _ ∧ _
      have m0 : InW 1 ⟨0, 0, 1, 0⟩ ∧ (0 : Nat) ≤ 0 ∧ (1 : Nat) &&& 0 = 0 := ⟨⟨by decide, by decide, by decide, by decide⟩, by decide, by decide⟩
      have m1 : InW 1 ⟨1, 1, 0, 1⟩ ∧ (1 : Nat) ≤ 1 ∧ (0 : Nat) &&& 1 = 0 := ⟨⟨by decide, by decide, by decide, by decide⟩, by decide, by decide⟩
      have m2 : InW 1 ⟨0, 1, 0, 0⟩ ∧ (0 : Nat) ≤ 1 ∧ (0 : Nat) &&& 0 = 0 := ⟨⟨by decide, by decide, by decide, by decide⟩, by decide, by decide⟩
      unfold icmpR
      split
      · split
        · exact m1
        · exact m0
      · cases dec p w a b with
        | none => exact m2
        | some q =>
          dsimp only
          split
          · exact m1
          · exact m0
  | sel =>
    have ew : Cs.sel.rw w = w := if_neg (by decide)
    rw [ew]
    match as, hr with
    | [c, a, b], hr => exact nx hr
  | cast op old v =>
    have ew : (Cs.cast op old v).rw w = w := if_neg (show ¬ op = "icmp" from (cast_not hc.2.1).1)
    rw [ew]
    match as, hr with
    | [a], hr =>
      rcases hr with ⟨_, h⟩ | ⟨_, _, h⟩ | ⟨_, _, h⟩
      · exact sg h
      · cases h
        exact ⟨⟨hp, by show 2 ^ w - 1 < _; omega, hp, hp⟩, Nat.zero_le _, Nat.and_zero _⟩
      · exact nx h
def TgAll : List (Str × Nat) → List Rg → List Nat → Prop
  | [], [], [] => True
  | k :: ks, a :: as, x :: xs => (a = tgR k.2 x ∧ x < 2 ^ k.2) ∧ TgAll ks as xs
  | _, _, _ => False
/-- from tight ranges of a value each: the tight range of the result -/
theorem Cs.exact {k : Str} {w : Nat} {c : Cs} {as : List Rg} {xs : List Nat} {u : Rg} (hk : KW k w) (hc : c.Ok w) (hr : c.R w as (some u)) (ht : TgAll (c.ks k w) as xs) : ∃ n : Nat, c.due w xs = .int (n : Int) ∧ n < 2 ^ c.rw w ∧ u = tgR (c.rw w) n := by
  have sg : ∀ {d : PyData}, sgO w d (some u) → ∃ n : Nat, d = .int (n : Int) ∧ n < 2 ^ w ∧ u = tgR w n := fun h => by
    rcases h with ⟨_, h⟩ | ⟨n, e, hn, h⟩
    · cases h
    · cases h
      exact ⟨n, e, hn, rfl⟩
  cases c with
  | bin op =>
    have ew : (Cs.bin op).rw w = w := if_neg (show ¬ op = "icmp" from (ops_not hc).2.1)
    rw [ew]
    match as, xs, hr, ht with
    | [a, b], [x, y], hr, ⟨⟨ea, hx⟩, ⟨eb, hy⟩, _⟩ =>
      subst ea eb
      rcases hr with ⟨_, _, h⟩ | ⟨_, h, _, _⟩
      · exact sg h
      · exact absurd ⟨rfl, rfl⟩ h
  | icmp p =>
    match as, xs, hr, ht with
    | [a, b], [x, y], hr, ⟨⟨ea, hx⟩, ⟨eb, hy⟩, _⟩ =>
      subst ea eb
      have hr : some u = some (icmpR p w (tgR w x) (tgR w y)) := hr
      obtain rfl := Option.some.inj hr
      unfold icmpR
      rw [if_pos ⟨rfl, rfl⟩]
      show ∃ n : Nat, PyData.int (b2i (cmpI p w (x : Int) (y : Int))) = .int (n : Int) ∧ n < 2 ^ 1 ∧ (if cmpI p w (x : Int) (y : Int) = true then (⟨1, 1, 0, 1⟩ : Rg) else ⟨0, 0, 1, 0⟩) = tgR 1 n
      cases cmpI p w (x : Int) (y : Int)
      · exact ⟨0, rfl, by decide, rfl⟩
      · exact ⟨1, rfl, by decide, rfl⟩
  | sel =>
    have ew : Cs.sel.rw w = w := if_neg (by decide)
    rw [ew]
    match as, xs, hr, ht with
    | [c, a, b], [z, x, y], hr, ⟨⟨ec, hz⟩, ⟨ea, hx⟩, ⟨eb, hy⟩, _⟩ =>
      subst ec ea eb
      have hr : NX w (if z = z then (if z = 1 then tgR w x else tgR w y) else uni (tgR w x) (tgR w y)).ri (some u) := hr
      rw [if_pos rfl] at hr
      show ∃ n : Nat, PyData.int (if z = 1 then (x : Int) else (y : Int)) = .int (n : Int) ∧ n < 2 ^ w ∧ u = tgR w n
      have hx : x < 2 ^ w := hx
      have hy : y < 2 ^ w := hy
      by_cases c1 : z = 1
      · rw [if_pos c1] at hr ⊢
        exact ⟨x, rfl, hx, kp_tight hx (nx_kp hr)⟩
      · rw [if_neg c1] at hr ⊢
        exact ⟨y, rfl, hy, kp_tight hy (nx_kp hr)⟩
  | cast op old v =>
    have ew : (Cs.cast op old v).rw w = w := if_neg (show ¬ op = "icmp" from (cast_not hc.2.1).1)
    rw [ew]
    match as, xs, hr, ht with
    | [a], [x], hr, ⟨⟨ea, hx⟩, _⟩ =>
      subst ea
      rcases hr with ⟨_, h⟩ | ⟨h, _, _⟩ | ⟨h, _, _⟩
      · exact sg h
      · exact absurd rfl h
      · exact absurd rfl h
/-- what the law draws for each kind -/
structure It where
  k : Str
  w : Nat
  vs : List Nat
  a : Rg
def It.kw (i : It) : Str × Nat := (i.k, i.w)
structure It.Ok (i : It) : Prop where
  k : KW i.k i.w
  l0 : 0 < i.vs.length
  l4 : i.vs.length ≤ 4
  lt : ∀ v ∈ i.vs, v < 2 ^ i.w
  m : ∀ v ∈ i.vs, Mem v i.a
  i : InW i.w i.a
theorem It.Ok.le {i : It} (h : i.Ok) : i.a.l ≤ i.a.h := by
  obtain ⟨v, hv⟩ := List.exists_mem_of_length_pos h.l0
  exact (mem_disj (h.m v hv)).1
theorem its_fits : ∀ {its : List It}, (∀ i ∈ its, i.Ok) → Fits (its.map It.kw) (its.map It.a)
  | [], _ => True.intro
  | i :: its, h => ⟨⟨(h i (by simp)).i, (h i (by simp)).le⟩, its_fits fun j hj => h j (List.mem_cons_of_mem _ hj)⟩
theorem its_row : ∀ {its : List It} {o : List Nat}, (∀ i ∈ its, i.Ok) → RowOf (its.map It.vs) o → MemAll (its.map It.a) o ∧ Vals (its.map It.kw) o
  | [], o, _, h => by
    cases h
    exact ⟨True.intro, True.intro⟩
  | i :: its, o, hi, h => by
    cases h with
    | cons h t =>
      obtain ⟨h1, h2⟩ := its_row (fun j hj => hi j (List.mem_cons_of_mem _ hj)) t
      exact ⟨⟨(hi i (by simp)).m _ h, h1⟩, (hi i (by simp)).lt _ h, h2⟩
def It.sg (i : It) : Prop := ∃ v, i.vs = [v] ∧ i.a = tgR i.w v
theorem its_tg : ∀ {its : List It} {o : List Nat}, (∀ i ∈ its, i.Ok) → (∀ i ∈ its, i.sg) → RowOf (its.map It.vs) o → TgAll (its.map It.kw) (its.map It.a) o
  | [], o, _, _, h => by
    cases h
    exact True.intro
  | i :: its, o, hi, hs, h => by
    cases h with
    | cons h t =>
      obtain ⟨v, e1, e2⟩ := hs i (by simp)
      rw [e1] at h
      obtain rfl := List.mem_singleton.mp h
      exact ⟨⟨e2, (hi i (by simp)).lt _ (by rw [e1]; exact List.mem_singleton.mpr rfl)⟩, its_tg (fun j hj => hi j (List.mem_cons_of_mem _ hj)) (fun j hj => hs j (List.mem_cons_of_mem _ hj)) t⟩
theorem its_ks {its : List It} {ks : List (Str × Nat)} (h : its.map It.kw = ks) : ksD ks = .list (its.map fun i => .str i.k) := by
  subst h
  unfold ksD
  rw [List.map_map]
  rfl
theorem oLc_ofQ {α : Type} {di : DI} {i : Nat} {de : DE} {δ : Dl} {Φ : List PyData → Prop} (Q : List α → Prop) (D G : α → PyData) (hn : ∀ xs, Q xs → xs.length < 1000000) (h : ∀ Ψ : List PyData → Prop, (∀ xs, Q xs → Ψ (xs.map D)) → di δ Ψ)
    (hs : ∀ xs, Q xs → ∀ (k : Nat) (a : α) (Ψ : PyData → Prop), xs[k]? = some a → Ψ (G a) → de (δ.set i (some (.d (D a)))) Ψ) (hΦ : ∀ xs, Q xs → Φ (xs.map G)) : oLc di i dYes de δ Φ := by
  unfold oLc
  refine h _ fun xs hq => ?_
  have := oLc_of (di := fun _ Ψ => Ψ (xs.map D)) (i := i) (de := de) (δ := δ) (Φ := Φ) xs D G (hn xs hq) (fun Ψ h => h) (hs xs hq) (hΦ xs hq)
  unfold oLc at this
  exact this


theorem rgO_sh (r : Option Rg) : SeqAt.shaped (rgO r) = true := by
  cases r with
  | none => rfl
  | some a => exact rg_sh a
theorem rgO_self (r : Option Rg) : PyData.eqv (rgO r) (rgO r) = true := by
  cases r with
  | none => rfl
  | some a => show PyData.eqv (rg a) (rg a) = true; rw [rg_eqv, decide_eq_true rfl]
theorem rgs_self (as : List Rg) : PyData.eqv (.list (as.map rg)) (.list (as.map rg)) = true := by
  induction as with
  | nil => simp [PyData.eqv, PyData.eqvAll]
  | cons a as ih =>
    have e : PyData.eqv (rg a) (rg a) = true := by rw [rg_eqv, decide_eq_true rfl]
    simp [PyData.eqv] at ih
    simp [PyData.eqv, PyData.eqvAll, e, ih]
theorem its_vs (its : List It) : (its.map fun i => PyData.list (nl i.vs)) = nll (its.map It.vs) := by
  unfold nll
  rw [List.map_map]
  rfl
theorem its_as (its : List It) : (its.map fun i => rg i.a) = (its.map It.a).map rg := by
  rw [List.map_map]
  rfl
theorem its_get {its : List It} {ks : List (Str × Nat)} (h : its.map It.kw = ks) {j : Nat} (hj : j < ks.length) : ∃ i, its[j]? = some i ∧ i ∈ its ∧ (nll (its.map It.vs))[j]? = some (.list (nl i.vs)) ∧ ((its.map It.a).map rg)[j]? = some (rg i.a) ∧ (ks.map fun k => PyData.str k.1)[j]? = some (.str i.k) := by
  subst h
  rw [List.length_map] at hj
  refine ⟨its[j], List.getElem?_eq_getElem hj, List.getElem_mem hj, ?_, ?_, ?_⟩
  · rw [← its_vs, List.getElem?_map, List.getElem?_eq_getElem hj]; rfl
  · rw [← its_as, List.getElem?_map, List.getElem?_eq_getElem hj]; rfl
  · rw [List.getElem?_map, List.getElem?_map, List.getElem?_eq_getElem hj]; rfl
theorem ks_ok {k : Str} {w : Nat} {c : Cs} (hk : KW k w) (hc : c.Ok w) : ∀ x ∈ c.ks k w, KW x.1 x.2 := by
  cases c with
  | bin op => simp [Cs.ks]; exact hk
  | icmp p => simp [Cs.ks]; exact hk
  | sel => simp [Cs.ks]; exact ⟨kw1, hk⟩
  | cast op old v => simp [Cs.ks]; exact hc.1
theorem atI_last (xs : List PyData) (x : PyData) : atI (xs ++ [x]) (xs.length : Int) = some x := by
  have h : (xs ++ [x])[xs.length]? = some x := by simp
  exact atI_nat h
theorem ok_law (T : Txt K mg w) : FnOk P w K mg base CX0 12 T.f_law T.fd_law ["script"] (spLaw K) := by
  refine T.F_law.ok sc_law (fun vs H Q E h => ?_) (fun cdv A outer s H vs Q E hr h => ?_)
  · obtain ⟨a, ns, rfl, _⟩ := h
    rfl
  obtain ⟨a, ns, rfl, hS, hlen, k⟩ := h
  refine ⟨_, (pss_cons (ps_set (i := 1) sc_law.nd rfl (Or.inl rfl) (pe_call (G__law_draw T) (hr.mono (by decide)) (by rfl) T.g__law_draw T.F__law_draw.kp T.b__law_draw .nil pass0 (pa_cons (pv 0) pa_nil)))
 (pss_cons (ps_set (i := 2) sc_law.nd rfl (Or.inr rfl) (pe_call (G__law_case T) (hr.mono (by decide)) (by rfl) T.g__law_case T.F__law_case.kp T.b__law_case .nil pass0 (pa_cons (pv 1) pa_nil)))
 (pss_cons (ps_asg (pv 2) (pg_tup (n := 4) rfl (pgs_cons (pg_name (i := 13) sc_law.nd rfl (Or.inl rfl)) (pgs_cons (pg_name (i := 14) sc_law.nd rfl (Or.inl rfl)) (pgs_cons (pg_name (i := 15) sc_law.nd rfl (Or.inl rfl)) (pgs_cons (pg_name (i := 16) sc_law.nd rfl (Or.inr rfl)) pgs_nil))))))
 (pss_cons (ps_set (i := 3) sc_law.nd rfl (Or.inr rfl) (pe_lst pa_nil))
 (pss_cons (ps_set (i := 4) sc_law.nd rfl (Or.inl rfl) (pe_lst pa_nil))
 (pss_cons (ps_for PassesOwn.never rfl ((kpi_list (K := K) rfl (pv 16))) (pg_name (i := 5) sc_law.nd rfl (Or.inl rfl)) (pss_cons (ps_expr (pe_bm PySem.F.plainAttrs_list PySem.F.slot_list_append PySem.F.type_list_append mt_append (pv 3) (pa_cons (pe_call (G__law_values T) (hr.mono (by decide)) (by rfl) T.g__law_values T.F__law_values.kp T.b__law_values .nil pass0 (pa_cons (pv 1) (pa_cons (pe_call (G__law_width T) (hr.mono (by decide)) (by rfl) T.g__law_width T.F__law_width.kp T.b__law_width .nil pass0 (pa_cons (pv 5) pa_nil)) pa_nil))) pa_nil)))
 (pss_cons (ps_set (i := 17) sc_law.nd rfl (Or.inl rfl) (pe_call (G__law_tight T) (hr.mono (by decide)) (by rfl) T.g__law_tight T.F__law_tight.kp T.b__law_tight .nil pass0 (pa_cons (pe_ix (kx_seq (K := K) rfl) (pv 3) (pe_op op_sub (pe_callB (kx_len (K := K) rfl) (by rfl) T.len PySem.boot_len (pa_cons (pv 3) pa_nil)) pe_int) (fun _ _ => rfl)) (pa_cons (pe_call (G__law_width T) (hr.mono (by decide)) (by rfl) T.g__law_width T.F__law_width.kp T.b__law_width .nil pass0 (pa_cons (pv 5) pa_nil)) pa_nil))))
 (pss_one (ps_expr (pe_bm PySem.F.plainAttrs_list PySem.F.slot_list_append PySem.F.type_list_append mt_append (pv 4) (pa_cons (pe_call (G__law_loose T) (hr.mono (by decide)) (by rfl) T.g__law_loose T.F__law_loose.kp T.b__law_loose .nil pass0 (pa_cons (pv 1) (pa_cons (pv 17) (pa_cons (pe_call (G__law_width T) (hr.mono (by decide)) (by rfl) T.g__law_width T.F__law_width.kp T.b__law_width .nil pass0 (pa_cons (pv 5) pa_nil)) pa_nil)))) pa_nil)))))))
 (pss_cons (ps_if (pt_cmpR op_eq (pe_call (G__law_take T) (hr.mono (by decide)) (by rfl) T.g__law_take T.F__law_take.kp T.b__law_take .nil pass0 (pa_cons (pv 1) (pa_cons pe_int pa_nil))) pe_int (nomark _)) (pss_cons (ps_set (i := 3) sc_law.nd rfl (Or.inr rfl) (pe_lc (own := [("row", 18)]) (g := gName 18) (tt := tYes) rfl sc_law.nd ((kpi_list (K := K) rfl (pv 3))) (blkOk_by (N := ["script", "draw", "case", "lists", "ranges", "name", "handed", "found", "w", "results", "value", "exact", "k", "op", "kind", "data", "kinds", "tight", "row"]) (sc := defScope slaw) (by decide +kernel)) (fun _ _ _ _ _ => pg_name (i := 18) sc_law.nd rfl (Or.inl rfl)) (fun _ _ _ _ _ => pts_nil) (fun _ _ _ _ _ => (pe_lst (pa_cons (pe_ix (kx_seq (K := K) rfl) (pv 18) pe_int (fun _ _ => rfl)) pa_nil)))))
 (pss_one (ps_setLc (i := 4) (own := [("k", 12)]) (g := gName 12) (tt := tYes) rfl sc_law.nd rfl rfl (sw_true rfl rfl rfl (by decide +kernel)) (pi_range1 rfl T.range (pa_cons (pe_callB (kx_len (K := K) rfl) (by rfl) T.len PySem.boot_len (pa_cons (pv 16) pa_nil)) pa_nil)) (blkOk_by (N := ["script", "draw", "case", "lists", "ranges", "name", "handed", "found", "w", "results", "value", "exact", "k", "op", "kind", "data", "kinds", "tight", "row"]) (sc := defScope slaw) (by decide +kernel)) (fun _ _ _ _ _ => pg_name (i := 12) sc_law.nd rfl (Or.inl rfl)) (fun _ _ _ _ _ => pts_nil) (fun _ _ _ _ _ => (pe_call (G__law_tight T) (hr.mono (by decide)) (by rfl) T.g__law_tight T.F__law_tight.kp T.b__law_tight .nil pass0 (pa_cons (pe_ix (kx_seq (K := K) rfl) (pv 3) (pv 12) (fun _ _ => rfl)) (pa_cons (pe_call (G__law_width T) (hr.mono (by decide)) (by rfl) T.g__law_width T.F__law_width.kp T.b__law_width .nil pass0 (pa_cons (pe_ix (kx_seq (K := K) rfl) (pv 16) (pv 12) (fun _ _ => rfl)) pa_nil)) pa_nil))))))) pss_nil)
 (pss_cons (ps_set (i := 6) sc_law.nd rfl (Or.inl rfl) (pe_callTy (kx_list (K := K) rfl) (by rfl) T.list (by decide +kernel) (pa_cons (pv 4) pa_nil)))
 (pss_cons (ps_set (i := 7) sc_law.nd rfl (Or.inl rfl) (pe_call (G_transfer T) hr (by rfl) T.g_transfer T.F_transfer.kp T.b_transfer .nil pass0 (pa_cons (pv 13) (pa_cons (pv 14) (pa_cons (pv 15) (pa_cons (pe_callTy (kx_list (K := K) rfl) (by rfl) T.list (by decide +kernel) (pa_cons (pv 16) pa_nil)) (pa_cons (pv 6) pa_nil)))))))
 (pss_cons (ps_if (pt_cmpR (kx_neD (K := K) rfl hr.units) (pv 6) (pv 4) (nomark _)) (pss_one (ps_ret pe_bl)) pss_nil)
 (pss_cons (ps_if (pt_cmpR (kx_neD (K := K) rfl hr.units) (pv 7) (pe_call (G__law_transfer T) (hr.mono (by decide)) (by rfl) T.g__law_transfer T.F__law_transfer.kp T.b__law_transfer .nil pass0 (pa_cons (pv 13) (pa_cons (pv 14) (pa_cons (pv 15) (pa_cons (pv 16) (pa_cons (pv 4) pa_nil)))))) (nomark _)) (pss_one (ps_ret pe_bl)) pss_nil)
 (pss_cons (ps_set (i := 8) sc_law.nd rfl (Or.inl rfl) (pe_call (G__law_width T) (hr.mono (by decide)) (by rfl) T.g__law_width T.F__law_width.kp T.b__law_width .nil pass0 (pa_cons (pv 14) pa_nil)))
 (pss_cons (ps_if (pt_cmpR op_eq (pv 13) pe_str (nomark _)) (pss_one (ps_set (i := 8) sc_law.nd rfl (Or.inl rfl) pe_int)) pss_nil)
 (pss_cons (ps_setLc (i := 9) (own := [("row", 18)]) (g := gName 18) (tt := tYes) rfl sc_law.nd rfl rfl (sw_true rfl rfl rfl (by decide +kernel)) ((kpi_list (K := K) rfl (pe_call (G__law_rows T) (hr.mono (by decide)) (by rfl) T.g__law_rows T.F__law_rows.kp T.b__law_rows .nil pass0 (pa_cons (pv 3) pa_nil)))) (blkOk_by (N := ["script", "draw", "case", "lists", "ranges", "name", "handed", "found", "w", "results", "value", "exact", "k", "op", "kind", "data", "kinds", "tight", "row"]) (sc := defScope slaw) (by decide +kernel)) (fun _ _ _ _ _ => pg_name (i := 18) sc_law.nd rfl (Or.inl rfl)) (fun _ _ _ _ _ => pts_nil) (fun _ _ _ _ _ => (pe_call (G__law_due T) (hr.mono (by decide)) (by rfl) T.g__law_due T.F__law_due.kp T.b__law_due .nil pass0 (pa_cons (pv 2) (pa_cons (pv 18) pa_nil)))))
 (pss_cons (ps_if (pt_cmpR op_isN (pv 7) pe_non (nomark _)) (pss_one (ps_ret (pe_cmpR (kx_eqD (K := K) rfl hr.units) (pe_lc (own := [("value", 10)]) (g := gName 10) rfl sc_law.nd ((kpi_list (K := K) rfl (pv 9))) (blkOk_by (N := ["script", "draw", "case", "lists", "ranges", "name", "handed", "found", "w", "results", "value", "exact", "k", "op", "kind", "data", "kinds", "tight", "row"]) (sc := defScope slaw) (by decide +kernel)) (fun _ _ _ _ _ => pg_name (i := 10) sc_law.nd rfl (Or.inl rfl)) (fun _ _ _ _ _ => pts_one (pt_cmpR op_notN (pv 10) pe_non (nomark _))) (fun _ _ _ _ _ => (pv 10))) (pe_lst pa_nil) (nomark _)))) pss_nil)
 (pss_cons (ps_if (pt_not (pt_val (pe_call (G__law_is_range T) (hr.mono (by decide)) (by rfl) T.g__law_is_range T.F__law_is_range.kp T.b__law_is_range .nil pass0 (pa_cons (pv 7) (pa_cons (pv 8) pa_nil))))) (pss_one (ps_ret pe_bl)) pss_nil)
 (pss_cons (ps_for PassesOwn.never rfl ((kpi_list (K := K) rfl (pv 9))) (pg_name (i := 10) sc_law.nd rfl (Or.inl rfl)) (pss_one (ps_if (PW.pt (pw_and (pt_cmpR op_notN (pv 10) pe_non (nomark _)) (pw_and1 (pt_not (pt_val (pe_call (G__law_member T) (hr.mono (by decide)) (by rfl) T.g__law_member T.F__law_member.kp T.b__law_member .nil pass0 (pa_cons (pv 7) (pa_cons (pv 10) pa_nil)))))))) (pss_one (ps_ret pe_bl)) pss_nil)))
 (pss_cons (ps_set (i := 11) sc_law.nd rfl (Or.inl rfl) pe_bl)
 (pss_cons (ps_for PassesOwn.never rfl (pi_range1 rfl T.range (pa_cons (pe_callB (kx_len (K := K) rfl) (by rfl) T.len PySem.boot_len (pa_cons (pv 16) pa_nil)) pa_nil)) (pg_name (i := 12) sc_law.nd rfl (Or.inl rfl)) (pss_one (ps_set (i := 11) sc_law.nd rfl (Or.inl rfl) (pe_and (pv 11) (pe_and (pe_cmpR op_eq (pe_callB (kx_len (K := K) rfl) (by rfl) T.len PySem.boot_len (pa_cons (pe_ix (kx_seq (K := K) rfl) (pv 3) (pv 12) (fun _ _ => rfl)) pa_nil)) pe_int (nomark _)) (pe_one (pe_cmpR (kx_eqD (K := K) rfl hr.units) (pe_ix (kx_seq (K := K) rfl) (pv 4) (pv 12) (fun _ _ => rfl)) (pe_call (G__law_tight T) (hr.mono (by decide)) (by rfl) T.g__law_tight T.F__law_tight.kp T.b__law_tight .nil pass0 (pa_cons (pe_ix (kx_seq (K := K) rfl) (pv 3) (pv 12) (fun _ _ => rfl)) (pa_cons (pe_call (G__law_width T) (hr.mono (by decide)) (by rfl) T.g__law_width T.F__law_width.kp T.b__law_width .nil pass0 (pa_cons (pe_ix (kx_seq (K := K) rfl) (pv 16) (pv 12) (fun _ _ => rfl)) pa_nil)) pa_nil))) (nomark _))))))))
 (pss_cons (ps_if (pt_val (pv 11)) (pss_one (ps_ret (pe_and (pe_cmpR op_notN (pe_ix (kx_seq (K := K) rfl) (pv 9) pe_int (fun _ _ => rfl)) pe_non (nomark _)) (pe_one (pe_cmpR (kx_eqD (K := K) rfl hr.units) (pv 7) (pe_call (G__law_tight T) (hr.mono (by decide)) (by rfl) T.g__law_tight T.F__law_tight.kp T.b__law_tight .nil pass0 (pa_cons (pe_lst (pa_cons (pe_ix (kx_seq (K := K) rfl) (pv 9) pe_int (fun _ _ => rfl)) pa_nil)) (pa_cons (pv 8) pa_nil))) (nomark _)))))) pss_nil)
 (pss_one (ps_ret pe_bl)))))))))))))))))))))), ?_⟩
  refine law_in (n := 17) hS hlen k (fun ex He Hf => (sms_seq (sms_asg (sm_call len__law_case (smq_drw 1 smq_nil)) (smg_name 2))
 (sms_seq (sms_asg (sm_var 2) (smg_tup (smg_cons (smg_name 13) (smg_cons (smg_name 14) (smg_cons (smg_name 15) (smg_cons (smg_name 16) smg_nil))))))
 (sms_seq (sms_setO 3 (smo_lst sma_nil))
 (sms_seq (sms_setO 4 (smo_lst sma_nil))
 (sms_seq (sms_for (smi_list (sm_var 16)) (smg_name 5)
 (sms_seq (sms_app 3 (sm_call len__law_values (smq_drw 1 (smq_cons (sm_call len__law_width (smq_cons (sm_var 5) smq_nil)) smq_nil))))
 (sms_seq (sms_asg (sm_call len__law_tight (smq_cons (sm_ixO (f2 := false) 3 (sm_op (f1 := false) (f2 := false) (opd_I0 (g' := fun i j => .int (i - j)) fun _ _ => rfl) (sm_cb (f1 := false) cbd_len (sma_cons (sm_varO 3) sma_nil)) (sm_int _))) (smq_cons (sm_call len__law_width (smq_cons (sm_var 5) smq_nil)) smq_nil))) (smg_name 17))
 (sms_app 4 (sm_call len__law_loose (smq_drw 1 (smq_cons (sm_var 17) (smq_cons (sm_call len__law_width (smq_cons (sm_var 5) smq_nil)) smq_nil))))))))
 (sms_seq (sms_frz 3 (sms_if (smt_t (f1 := false) (sm_op (f1 := false) (f2 := false) opd_eq (sm_call len__law_take (smq_drw 1 (smq_cons (sm_int _) smq_nil))) (sm_int _)))
 (sms_seq (sms_asg (SmO.sm (smo_lc (i := 18) (smi_list (sm_var 3)) smt_yes (SmO.sm (smo_lst (sma_cons (sm_ix (f2 := false) (sm_var 18) (sm_int _)) sma_nil))))) (smg_name 3))
 (sms_setO 4 (smo_lc (i := 12) (smi_rng1 (f1 := false) (sm_cb (f1 := false) cbd_len (sma_cons (sm_var 16) sma_nil))) smt_yes (sm_call len__law_tight (smq_cons (sm_ix (f2 := false) (sm_var 3) (sm_var 12)) (smq_cons (sm_call len__law_width (smq_cons (sm_ix (f2 := false) (sm_var 16) (sm_var 12)) smq_nil)) smq_nil))))))
 sms_next))
 (sms_seq (sms_frz 4 (sms_asg (SmO.sm (smo_list (sm_var 4))) (smg_name 6)))
 (sms_seq (sms_asg (sm_call len_transfer (smq_cons (sm_var 13) (smq_cons (sm_var 14) (smq_cons (sm_var 15) (smq_cons (SmO.sm (smo_list (sm_var 16))) (smq_cons (sm_var 6) smq_nil)))))) (smg_name 7))
 (sms_seq (sms_if (smt_t (f1 := false) (sm_op (f1 := false) (f2 := false) opd_neD (sm_var 6) (sm_var 4)))
 (sms_ret (sm_bl _))
 sms_next)
 (sms_seq (sms_if (smt_t (f1 := false) (sm_op (f1 := false) (f2 := false) opd_neD (sm_var 7) (sm_call len__law_transfer (smq_cons (sm_var 13) (smq_cons (sm_var 14) (smq_cons (sm_var 15) (smq_cons (sm_var 16) (smq_cons (sm_var 4) smq_nil))))))))
 (sms_ret (sm_bl _))
 sms_next)
 (sms_seq (sms_asg (sm_call len__law_width (smq_cons (sm_var 14) smq_nil)) (smg_name 8))
 (sms_seq (sms_if (smt_t (f1 := false) (sm_op (f1 := false) (f2 := false) opd_eq (sm_var 13) (sm_str _)))
 (sms_asg (sm_int _) (smg_name 8))
 sms_next)
 (sms_seq (sms_asg (SmO.sm (smo_lc (i := 18) (smi_list (sm_call len__law_rows (smq_cons (sm_var 3) smq_nil))) smt_yes (sm_call len__law_due (smq_cons (sm_var 2) (smq_cons (sm_var 18) smq_nil))))) (smg_name 9))
 (sms_seq (sms_if (smt_t (f1 := false) (sm_op (f1 := false) (f2 := false) opd_isN (sm_var 7) sm_non))
 (sms_ret (sm_op (f1 := false) (f2 := false) opd_eqD (SmO.sm (smo_lc (i := 10) (smi_list (sm_var 9)) (smt_t (f1 := false) (sm_op (f1 := false) (f2 := false) opd_notN (sm_var 10) sm_non)) (sm_var 10))) (SmO.sm (smo_lst sma_nil))))
 sms_next)
 (sms_seq (sms_if (smt_not (smt_b (f1 := false) (sm_call len__law_is_range (smq_cons (sm_var 7) (smq_cons (sm_var 8) smq_nil)))))
 (sms_ret (sm_bl _))
 sms_next)
 (sms_seq (sms_for (smi_list (sm_var 9)) (smg_name 10)
 (sms_if (smt_and (smt_t (f1 := false) (sm_op (f1 := false) (f2 := false) opd_notN (sm_var 10) sm_non)) (smt_not (smt_b (f1 := false) (sm_call len__law_member (smq_cons (sm_var 7) (smq_cons (sm_var 10) smq_nil))))))
 (sms_ret (sm_bl _))
 sms_next))
 (sms_seq (sms_asg (sm_bl _) (smg_name 11))
 (sms_seq (sms_for (smi_rng1 (f1 := false) (sm_cb (f1 := false) cbd_len (sma_cons (sm_var 16) sma_nil))) (smg_name 12)
 (sms_asg (sm_and (f1 := false) (sm_var 11) (sm_and (f1 := false) (sm_op (f1 := false) (f2 := false) opd_eq (sm_cb (f1 := false) cbd_len (sma_cons (sm_ix (f2 := false) (sm_var 3) (sm_var 12)) sma_nil)) (sm_int _)) (sm_op (f1 := false) (f2 := false) opd_eqD (sm_ix (f2 := false) (sm_var 4) (sm_var 12)) (sm_call len__law_tight (smq_cons (sm_ix (f2 := false) (sm_var 3) (sm_var 12)) (smq_cons (sm_call len__law_width (smq_cons (sm_ix (f2 := false) (sm_var 16) (sm_var 12)) smq_nil)) smq_nil)))))) (smg_name 11)))
 (sms_seq (sms_if (smt_b (f1 := false) (sm_var 11))
 (sms_ret (sm_and (f1 := false) (sm_op (f1 := false) (f2 := false) opd_notN (sm_ix (f2 := false) (sm_var 9) (sm_int _)) sm_non) (sm_op (f1 := false) (f2 := false) opd_eqD (sm_var 7) (sm_call len__law_tight (smq_cons (SmO.sm (smo_lst (sma_cons (sm_ix (f2 := false) (sm_var 9) (sm_int _)) sma_nil))) (smq_cons (sm_var 8) smq_nil))))))
 sms_next)
 (sms_ret (sm_bl _)))))))))))))))))))))) fun raw => ?_
  have l1 : (1 : Nat) ≤ sizeLine := by decide
  refine seq_op fun N hN => ?_
  simp
  refine ⟨rfl, fun kd w c hk hc => hN _ ?_⟩
  clear hN N
  simp only [data_d]
  have h1 := hk.2.1
  have hw := hk.2.2
  have kl := ks_len kd w c
  refine seq_op fun N hN => ?_
  simp [caseD]
  refine hN _ ?_
  clear hN N
  refine seq_op fun N hN => ?_
  simp
  intro ad3
  refine hN _ ?_
  clear hN N
  refine seq_op fun N hN => ?_
  simp
  intro ad4
  refine hN _ ?_
  clear hN N
  refine seq_op fun N hN => ?_
  obtain ⟨I, hI⟩ : ∃ I : Nat → Dl → Prop, ∀ j δ, I j δ ↔ ∃ (its : List It) (y5 y17 : Option R), its.map It.kw = (c.ks kd w).take j ∧ (∀ i ∈ its, i.Ok) ∧ δ = [some (.raw raw), some .drw, some (.d (caseD kd w c)), some (.own ad3 (nll (its.map It.vs))), some (.own ad4 ((its.map It.a).map rg)), y5, none, none, none, none, none, none, none, some (.d (.str c.op)), some (.d (.str kd)), some (.d c.data), some (.d (ksD (c.ks kd w))), y17, none] := ⟨_, fun _ _ => Iff.rfl⟩
  refine dFor_w (xs := (c.ks kd w).map fun k => .str k.1) (fun Ψ h => by simpa [ksD] using h) I ((hI _ _).mpr ⟨[], none, none, rfl, fun _ h => (nomatch h), rfl⟩) (fun j z δ hz hJ => ?_) (fun δ hJ => ?_)
  · obtain ⟨its, y5, y17, hits, hok, rfl⟩ := (hI _ _).mp hJ
    obtain ⟨kw, hkw, rfl⟩ : ∃ kw, (c.ks kd w)[j]? = some kw ∧ z = .str kw.1 := by
      rw [List.getElem?_map] at hz
      cases e : (c.ks kd w)[j]? with
      | none => rw [e] at hz; cases hz
      | some v => rw [e] at hz; exact ⟨v, rfl, (Option.some.inj hz).symm⟩
    have kk := ks_ok hk hc kw (List.mem_of_getElem? hkw)
    have hj : j < (c.ks kd w).length := (List.getElem?_eq_some_iff.mp hkw).1
    have hil : its.length = j := by
      have := congrArg List.length hits
      rw [List.length_map, List.length_take] at this
      omega
    clear hz hJ
    refine seq_op fun M hM => ?_
    simp
    refine ⟨kw.1, _, rfl, kk.1, ?_⟩
    simp only [data_d]
    refine ⟨kw.2, rfl, kk.2.1, kk.2.2, fun xs x0 x4 xl => ⟨?_, hM _ ?_⟩⟩
    · rw [nll_len, List.length_map]
      exact Nat.lt_of_lt_of_le (show its.length < 100 by omega) (by decide)
    clear hM M
    refine seq_op fun M hM => ?_
    have al := atI_last (nll (its.map It.vs)) (.list (nl xs))
    simp [Int.add_sub_cancel, al]
    refine ⟨kw.1, _, rfl, kk.1, ?_⟩
    simp only [data_d]
    refine ⟨xs, kw.2, rfl, x0, xl, kk.2.2, fun m M' m1 m2 M1 M2 => hM _ ?_⟩
    obtain ⟨t1, t2⟩ := tight_ok xl m1 m2 M1 M2
    clear hM M
    generalize (⟨m, M', _, _⟩ : Rg) = tr at t1 t2 ⊢
    simp
    refine ⟨kw.1, _, rfl, kk.1, ?_⟩
    simp only [data_d]
    refine ⟨_, kw.2, rfl, t1.1, t1.2.1, kk.2.1, kk.2.2, fun l u m n g1 g2 g3 => ⟨?_, ?_⟩⟩
    · exact Nat.lt_of_lt_of_le (show its.length < 100 by omega) (by decide)
    obtain ⟨t3, t4⟩ := loose_ok (m := m) (n := n) t1 g1 g2 g3
    generalize (⟨l, u, _, _⟩ : Rg) = lr at t3 t4 ⊢
    refine (hI _ _).mpr ⟨its ++ [⟨kw.1, kw.2, xs, lr⟩], some (.d (.str kw.1)), some (.d (rg tr)), ?_, fun i hi => ?_, ?_⟩
    · rw [List.map_append, hits, List.take_add_one, hkw]
      rfl
    · rcases List.mem_append.mp hi with hi | hi
      · exact hok i hi
      · rw [List.mem_singleton.mp hi]
        exact ⟨kk, x0, x4, xl, fun v hv => t4 v (t2 v hv), t3⟩
    · simp [nll]
  obtain ⟨its, y5, y17, hits, hok, rfl⟩ := (hI _ _).mp hJ
  rw [List.length_map, List.take_length] at hits
  clear hJ hI I
  refine hN _ ?_
  clear hN N
  have il : its.length ≤ 3 := by
    have := congrArg List.length hits
    rw [List.length_map] at this
    omega
  refine seq_op fun N hN => ?_
  -- lists and ranges as they are handed in
  have s1 : ∀ (ad4 : Addr) (its : List It), its.map It.kw = c.ks kd w → (∀ i ∈ its, i.Ok) → N [some (.raw raw), some .drw, some (.d (caseD kd w c)), some (.d (.list (nll (its.map It.vs)))), some (.own ad4 ((its.map It.a).map rg)), y5, none, none, none, none, none, none, none, some (.d (.str c.op)), some (.d (.str kd)), some (.d c.data), some (.d (ksD (c.ks kd w))), y17, none] := by
    clear hits hok its il
    intro ad4 its hits hok
    refine hN _ ?_
    clear hN N
    have il : its.length ≤ 3 := by
      have := congrArg List.length hits
      rw [List.length_map] at this
      omega
    have hf : Fits (c.ks kd w) (its.map It.a) := by rw [← hits]; exact its_fits hok
    refine seq_op fun N hN => ?_
    simp
    refine hN _ ?_
    clear hN N
    refine seq_op fun N hN => ?_
    simp [ksD]
    refine ⟨kd, w, c, its.map It.a, by simp [ksD], hk, hc, hf, fun p _ => kw_ptr hk, fun r hr => hN _ ?_⟩
    clear hN N
    have sh := rgs_sh (its.map It.a) (by rw [List.length_map]; omega)
    have sf := rgs_self (its.map It.a)
    have ec : (its.map It.a).map rg = its.map (rg ∘ It.a) := List.map_map
    refine if_skip (fun Ψ hΨ => ?_) ?_
    · rw [ec] at sh sf
      simpa [sh, sf] using hΨ
    refine if_skip (fun Ψ hΨ => ?_) ?_
    · simp only [dB, dOp, dCall, qCons, dVar, qNil, gEqD]
      refine ⟨_, rfl, _, rfl, _, rfl, _, rfl, _, rfl, _, rfl, kd, w, c, its.map It.a, by simp [ksD], hk, hc, hf, fun q hq => ?_⟩
      obtain rfl := Cs.uniq hr hq
      have s1 := rgO_sh r
      have s2 := rgO_self r
      simp [s1, s2]
      exact hΨ
    clear sh sf
    have hil : (its.map It.kw).length ≤ 3 := by rw [hits]; exact kl
    refine seq_op fun N hN => ?_
    simp
    refine ⟨kd, _, rfl, hk.1, hN _ ?_⟩
    clear hN N
    refine seq_op fun N hN => ?_
    have s2 : N [some (.raw raw), some .drw, some (.d (caseD kd w c)), some (.d (.list (nll (its.map It.vs)))), some (.d (.list (its.map (rg ∘ It.a)))), y5, some (.d (.list (its.map (rg ∘ It.a)))), some (.d (rgO r)), some (.d (.int (c.rw w))), none, none, none, none, some (.d (.str c.op)), some (.d (.str kd)), some (.d c.data), some (.d (ksD (c.ks kd w))), y17, none] := by
      refine hN _ ?_
      clear hN N
      have rw64 : c.rw w ≤ 64 := by unfold Cs.rw; split <;> omega
      refine seq_op fun N hN => ?_
      simp only [dAsg, dO, dgName]
      refine oLc_ofQ (fun os : List (List Nat) => (∀ o ∈ os, RowOf (its.map It.vs) o) ∧ 0 < os.length ∧ os.length ≤ 64) (fun o => .list (nl o)) (fun o => c.due w o) (fun os h => by omega) (fun Ψ h => ?_) (fun os hos j o Ψ ho hΨ => ?_) (fun os hos => ?_)
      · simp
        refine ⟨its.map It.vs, rfl, by rw [List.length_map]; omega, fun l hl => ?_, fun os o1 o2 o3 => ⟨_, rfl, h os ⟨o1, o2, o3⟩⟩⟩
        obtain ⟨i, hi, rfl⟩ := List.mem_map.mp hl
        exact ⟨(hok i hi).l0, (hok i hi).l4⟩
      · have hro := hos.1 o (List.mem_of_getElem? ho)
        have hv := (its_row hok hro).2
        rw [hits] at hv
        simp
        exact ⟨kd, w, c, o, rfl, hk, hc, hv, hΨ⟩
      refine hN _ ?_
      clear hN N
      obtain ⟨o1, o2, o3⟩ := hos
      have snd : ∀ o ∈ os, c.due w o = .none ∨ ∃ (n : Nat) (u : Rg), c.due w o = .int (n : Int) ∧ n < 2 ^ c.rw w ∧ r = some u ∧ Mem n u := fun o ho => Cs.sound hk hc hf hr (its_row hok (o1 o ho)).1
      cases r with
      | none =>
        refine if_take (fun Ψ hΨ => by simpa [rgO] using hΨ) fun N hN => ?_
        clear hN
        have nn : ∀ o ∈ os, c.due w o = .none := fun o ho => by
          rcases snd o ho with h | ⟨_, _, _, _, h, _⟩
          · exact h
          · cases h
        simp only [dRet, dOp, dO, gEqD]
        refine oLc_filter os (fun o => c.due w o) (fun o => c.due w o) (fun _ => false) (by omega) (fun Ψ h => by simpa using h) (fun j o Ψ ho hΨ => ?_) (fun j o Ψ ho hf hΨ => by cases hf) ?_
        · have := nn o (List.mem_of_getElem? ho)
          simp [this]
          exact hΨ
        · have s0 : SeqAt.shaped (.list []) = true := rgs_sh [] (by decide)
          have fe : os.filter (fun _ => false) = [] := List.filter_eq_nil_iff.mpr fun _ _ h => by cases h
          simp only [fe]
          simp [s0, PyData.eqv, PyData.eqvAll]
      | some u =>
        refine if_skip (fun Ψ hΨ => by simpa [rgO, rg] using hΨ) ?_
        obtain ⟨u1, u2, u3⟩ := Cs.range hk hc hr
        refine if_skip (fun Ψ hΨ => ?_) ?_
        · simp [rgO]
          refine ⟨u, c.rw w, rfl, u1, rw64, u2, u3, ?_⟩
          simpa using hΨ
        refine seq_op fun N hN => ?_
        obtain ⟨J, hJ⟩ : ∃ J : Nat → Dl → Prop, ∀ j δ, J j δ ↔ ∃ y10 : Option R, δ = [some (.raw raw), some .drw, some (.d (caseD kd w c)), some (.d (.list (nll (its.map It.vs)))), some (.d (.list (its.map (rg ∘ It.a)))), y5, some (.d (.list (its.map (rg ∘ It.a)))), some (.d (rgO (some u))), some (.d (.int (c.rw w))), some (.d (.list (os.map fun o => c.due w o))), y10, none, none, some (.d (.str c.op)), some (.d (.str kd)), some (.d c.data), some (.d (ksD (c.ks kd w))), y17, none] := ⟨_, fun _ _ => Iff.rfl⟩
        refine dFor_w (xs := os.map fun o => c.due w o) (fun Ψ h => by simpa using h) J ((hJ _ _).mpr ⟨none, rfl⟩) (fun j z δ hz hJ1 => ?_) (fun δ hJ1 => ?_)
        · obtain ⟨y10, rfl⟩ := (hJ _ _).mp hJ1
          rw [List.getElem?_map] at hz
          obtain ⟨o, ho, rfl⟩ := Option.map_eq_some_iff.mp hz
          refine dIfS_two (fun q => q = false) (fun Ψ hΨ => ?_) (fun hq => by cases hq) (fun _ => ?_)
          · have hΨ := hΨ _ rfl
            rcases snd o (List.mem_of_getElem? ho) with e | ⟨n, u', e, _, e2, hm⟩
            · simpa [e] using hΨ
            · obtain rfl := Option.some.inj e2
              simp [e, rgO]
              refine ⟨u, n, rfl, ?_⟩
              rw [decide_eq_true hm]
              simpa using hΨ
          simp only [dNext]
          exact (hJ _ _).mpr ⟨_, rfl⟩
        obtain ⟨y10, rfl⟩ := (hJ _ _).mp hJ1
        clear hJ1 hJ J
        refine hN _ ?_
        clear hN N
        refine seq_op fun N hN => ?_
        simp
        refine hN _ ?_
        clear hN N
        refine seq_op fun N hN => ?_
        obtain ⟨J, hJ⟩ : ∃ J : Nat → Dl → Prop, ∀ j δ, J j δ ↔ ∃ (b : Bool) (y12 : Option R), (b = true → ∀ i ∈ its.take j, i.sg) ∧ δ = [some (.raw raw), some .drw, some (.d (caseD kd w c)), some (.d (.list (nll (its.map It.vs)))), some (.d (.list (its.map (rg ∘ It.a)))), y5, some (.d (.list (its.map (rg ∘ It.a)))), some (.d (rgO (some u))), some (.d (.int (c.rw w))), some (.d (.list (os.map fun o => c.due w o))), y10, some (.d (.bool b)), y12, some (.d (.str c.op)), some (.d (.str kd)), some (.d c.data), some (.d (ksD (c.ks kd w))), y17, none] := ⟨_, fun _ _ => Iff.rfl⟩
        have kll : (c.ks kd w).length = its.length := by rw [← hits, List.length_map]
        refine dFor_n (n := (c.ks kd w).length) (by omega) (fun Ψ h => by simpa [ksD] using h) J ((hJ _ _).mpr ⟨true, none, fun _ i hi => by simp at hi, rfl⟩) (fun j δ hj hJ1 => ?_) (fun δ hJ1 => ?_)
        · obtain ⟨b, y12, hb, rfl⟩ := (hJ _ _).mp hJ1
          obtain ⟨i, hij, him, g1, g2, g3⟩ := its_get hits hj
          have io := hok i him
          have et : its.take (j + 1) = its.take j ++ [i] := by rw [List.take_add_one, hij]; rfl
          cases b with
          | false =>
            simp
            exact (hJ _ _).mpr ⟨false, _, fun q => (by cases q), rfl⟩
          | true =>
            have hb := hb rfl
            have a1 := atI_nat g1
            have a2 := atI_nat g2
            have a3 := atI_nat g3
            rw [show (its.map It.a).map rg = its.map (rg ∘ It.a) from List.map_map] at a2
            by_cases c1 : i.vs.length = 1
            · obtain ⟨v, ev⟩ : ∃ v, i.vs = [v] := List.length_eq_one_iff.mp c1
              have hv := io.lt v (by rw [ev]; exact List.mem_singleton.mpr rfl)
              rw [ev] at a1
              simp only [dAsg, dAndV, dVar, dgName]
              refine ⟨_, rfl, true, rfl, ?_⟩
              rw [if_pos rfl]
              simp [a1, nl]
              refine ⟨_, a2, ?_⟩
              simp [ksD, a3]
              refine ⟨i.k, _, rfl, io.k.1, ?_⟩
              simp only [data_d]
              refine ⟨[v], i.w, rfl, Nat.one_pos, fun x hx => by rw [List.mem_singleton.mp hx]; exact hv, io.k.2.2, fun m M m1 _ M1 _ => ?_⟩
              obtain rfl := List.mem_singleton.mp m1
              obtain rfl := List.mem_singleton.mp M1
              rw [tight1 hv]
              have s1 := rg_sh i.a
              have s2 := rg_sh (tgR i.w M)
              have e := rg_eqv i.a (tgR i.w M)
              simp [s1, s2, e]
              refine (hJ _ _).mpr ⟨decide (i.a = tgR i.w M), some (.d (.int (j : Int))), fun q x hx => ?_, ?_⟩
              · rw [et] at hx
                rcases List.mem_append.mp hx with hx | hx
                · exact hb x hx
                · rw [List.mem_singleton.mp hx]
                  exact ⟨M, ev, of_decide_eq_true q⟩
              · simp [ksD]
            · simp only [dAsg, dAndV, dVar, dgName]
              refine ⟨_, rfl, true, rfl, ?_⟩
              rw [if_pos rfl]
              have c2 : ¬ ((nl i.vs).length : Int) = 1 := by rw [nl_len]; omega
              simp [a1, c2]
              exact (hJ _ _).mpr ⟨false, _, fun q => (by cases q), rfl⟩
        obtain ⟨b, y12, hb, rfl⟩ := (hJ _ _).mp hJ1
        clear hJ1 hJ J
        rw [kll, List.take_length] at hb
        refine hN _ ?_
        clear hN N
        refine seq_op fun N hN => ?_
        cases b with
        | false =>
          simp
          refine hN _ ?_
          simp
        | true =>
          have hb := hb rfl
          refine dIfS_two (fun q => q = true) (fun Ψ hΨ => by simpa using hΨ) (fun _ => ?_) (fun hq => by cases hq)
          obtain ⟨o, os', rfl⟩ : ∃ o os', os = o :: os' := by
            cases os with
            | nil => cases o2
            | cons o os' => exact ⟨o, os', rfl⟩
          have htg := its_tg hok hb (o1 o (by simp))
          rw [hits] at htg
          obtain ⟨n, e, hn, eu⟩ := Cs.exact hk hc hr htg
          have a0 : atI ((o :: os').map fun o => c.due w o) 0 = some (.int (n : Int)) := by
            have : ((o :: os').map fun o => c.due w o)[0]? = some (.int (n : Int)) := by
              rw [List.map_cons, e]
              rfl
            simpa using atI_nat this
          generalize (o :: os').map (fun o => c.due w o) = res at a0 ⊢
          simp [a0, l1]
          refine ⟨[n], c.rw w, rfl, Nat.one_pos, fun x hx => by rw [List.mem_singleton.mp hx]; exact hn, rw64, fun m M m1 _ M1 _ => ?_⟩
          obtain rfl := List.mem_singleton.mp m1
          obtain rfl := List.mem_singleton.mp M1
          rw [tight1 hn]
          have s1 := rg_sh u
          have s2 := rg_sh (tgR (c.rw w) M)
          have e := rg_eqv u (tgR (c.rw w) M)
          rw [decide_eq_true eu] at e
          simp [rgO, s1, s2, e]
    clear hN
    refine dIfS_two (fun q => q = decide (c.op = "icmp")) (fun Ψ hΨ => ?_) (fun hq => ?_) (fun hq => ?_)
    · have hΨ := hΨ _ rfl
      simpa using hΨ
    · have hq := of_decide_eq_true hq.symm
      have e : c.rw w = 1 := if_pos hq
      rw [e] at s2
      simp
      exact s2
    · have hq := of_decide_eq_false hq.symm
      have e : c.rw w = w := if_neg hq
      rw [e] at s2
      simp only [dNext]
      exact s2
  clear hN
  refine ⟨ad3, _, rfl, ?_⟩
  refine dIfS_two (fun _ => True) (fun Ψ hΨ => ?_) (fun _ => ?_) (fun _ => ?_)
  · simp
    exact fun q q0 q1 => hΨ _ trivial
  · obtain ⟨f, hf⟩ : ∃ f : It → It, ∀ i, f i = ⟨i.k, i.w, [i.vs.headD 0], tgR i.w (i.vs.headD 0)⟩ := ⟨_, fun _ => rfl⟩
    have hd : ∀ i ∈ its, i.vs.headD 0 < 2 ^ i.w ∧ (nl i.vs)[0]? = some (.int ((i.vs.headD 0 : Nat) : Int)) := fun i hi => by
      have h0 := (hok i hi).l0
      have hl := (hok i hi).lt
      generalize i.vs = vs at h0 hl
      cases vs with
      | nil => cases h0
      | cons v vs => exact ⟨hl v (by simp), rfl⟩
    have fk : (its.map f).map It.kw = c.ks kd w := by
      rw [← hits, List.map_map]
      exact List.map_congr_left fun i _ => by show (f i).kw = i.kw; rw [hf]; rfl
    have fo : ∀ i ∈ its.map f, i.Ok := fun j hj => by
      obtain ⟨i, hi, rfl⟩ := List.mem_map.mp hj
      have h := (hd i hi).1
      rw [hf]
      exact ⟨(hok i hi).k, Nat.one_pos, (show (1 : Nat) ≤ 4 by decide), fun v hv => by rw [List.mem_singleton.mp hv]; exact h, fun v hv => by rw [List.mem_singleton.mp hv]; exact mem_single h, tgR_in h⟩
    have fv : (its.map fun i => PyData.list (nl (f i).vs)) = nll ((its.map f).map It.vs) := by rw [← its_vs, List.map_map]; rfl
    refine seq_op fun M hM => ?_
    simp only [dAsg, dO, dgName]
    refine oLc_of its (fun i => .list (nl i.vs)) (fun i => .list (nl (f i).vs)) (by omega) (fun Ψ h => by rw [its_vs] at h; simpa using h) (fun j i Ψ hi hΨ => ?_) ?_
    · have h0 := (hd i (List.mem_of_getElem? hi)).2
      have a0 : atI (nl i.vs) 0 = some (.int ((i.vs.headD 0 : Nat) : Int)) := by simpa using atI_nat h0
      have e : nl (f i).vs = [.int ((i.vs.headD 0 : Nat) : Int)] := by rw [hf]; rfl
      rw [e] at hΨ
      generalize i.vs.headD 0 = v0 at a0 hΨ
      simp [a0, l1]
      exact hΨ
    rw [fv]
    refine hM _ ?_
    clear hM M
    have kll : (c.ks kd w).length = its.length := by rw [← hits, List.length_map]
    simp only [dSetO]
    refine oLc_n (n := (c.ks kd w).length) (by omega) (fun Ψ h => by simpa [ksD] using h) (fun acc => acc = (its.take acc.length).map fun i => rg (f i).a) rfl (fun j acc Ψ hj hl hP hΨ => ?_) (fun acc hl hP => ?_)
    · obtain ⟨i', hij', him', g1, g2, g3⟩ := its_get fk hj
      obtain ⟨i, hij, rfl⟩ : ∃ i, its[j]? = some i ∧ f i = i' := by
        rw [List.getElem?_map] at hij'
        exact Option.map_eq_some_iff.mp hij'
      have io := hok i (List.mem_of_getElem? hij)
      have h0 := (hd i (List.mem_of_getElem? hij)).1
      have a1 := atI_nat g1
      have a3 := atI_nat g3
      have e1 : (f i).vs = [i.vs.headD 0] := by rw [hf]
      have e2 : (f i).k = i.k := by rw [hf]
      have e3 : (f i).a = tgR i.w (i.vs.headD 0) := by rw [hf]
      rw [e1] at a1
      rw [e2] at a3
      simp only [dCall, qCons, qNil, dOp, dVar, gIx]
      refine ⟨_, rfl, _, rfl, _, rfl, _, a1, _, rfl, _, rfl, _, rfl, _, a3, ?_⟩
      refine ⟨i.k, _, rfl, io.k.1, ?_⟩
      simp only [data_d]
      refine ⟨[i.vs.headD 0], i.w, rfl, Nat.one_pos, fun x hx => by rw [List.mem_singleton.mp hx]; exact h0, io.k.2.2, fun m M m1 _ M1 _ => ?_⟩
      obtain rfl := List.mem_singleton.mp m1
      rw [List.mem_singleton.mp M1, tight1 h0]
      refine hΨ _ ?_
      rw [List.length_append, hl]
      rw [hl] at hP
      show acc ++ [_] = (its.take (j + 1)).map _
      rw [List.take_add_one, hij, List.map_append, ← hP]
      show _ = acc ++ [rg (f i).a]
      rw [e3]
      rfl
    · rw [hl, kll, List.take_length] at hP
      subst hP
      intro ad
      have e : (its.map fun i => rg (f i).a) = ((its.map f).map It.a).map rg := by rw [List.map_map, List.map_map]; rfl
      rw [e]
      exact s1 ad (its.map f) fk fo
  · simp only [dNext]
    exact s1 ad4 its hits hok


end
theorem all_mk {l : PySem.W.OpenLaw} {w : World} {K : PySem.W.Frag} {h : Heap} {mg : Str → Option Value} {fa : Addr} (X : K.In h) (G : h.Ns mainGlobals mg) (hfa : mg "law" = some (.ref fa))
    {f0 : Addr} {od0 an0 : Option Addr} {sl0 : Array (Option Value)} {oc0 kV0 dc0 pm0 cd0 ct0 : Value}
    {f1 : Addr} {od1 an1 : Option Addr} {sl1 : Array (Option Value)} {oc1 kV1 dc1 pm1 cd1 ct1 : Value}
    {f2 : Addr} {od2 an2 : Option Addr} {sl2 : Array (Option Value)} {oc2 kV2 dc2 pm2 cd2 ct2 : Value}
    {f3 : Addr} {od3 an3 : Option Addr} {sl3 : Array (Option Value)} {oc3 kV3 dc3 pm3 cd3 ct3 : Value}
    {f4 : Addr} {od4 an4 : Option Addr} {sl4 : Array (Option Value)} {oc4 kV4 dc4 pm4 cd4 ct4 : Value}
    {f5 : Addr} {od5 an5 : Option Addr} {sl5 : Array (Option Value)} {oc5 kV5 dc5 pm5 cd5 ct5 : Value}
    {f6 : Addr} {od6 an6 : Option Addr} {sl6 : Array (Option Value)} {oc6 kV6 dc6 pm6 cd6 ct6 : Value}
    {f7 : Addr} {od7 an7 : Option Addr} {sl7 : Array (Option Value)} {oc7 kV7 dc7 pm7 cd7 ct7 : Value}
    {f8 : Addr} {od8 an8 : Option Addr} {sl8 : Array (Option Value)} {oc8 kV8 dc8 pm8 cd8 ct8 : Value}
    {f9 : Addr} {od9 an9 : Option Addr} {sl9 : Array (Option Value)} {oc9 kV9 dc9 pm9 cd9 ct9 : Value}
    {f10 : Addr} {od10 an10 : Option Addr} {sl10 : Array (Option Value)} {oc10 kV10 dc10 pm10 cd10 ct10 : Value}
    {f11 : Addr} {od11 an11 : Option Addr} {sl11 : Array (Option Value)} {oc11 kV11 dc11 pm11 cd11 ct11 : Value}
    {f12 : Addr} {od12 an12 : Option Addr} {sl12 : Array (Option Value)} {oc12 kV12 dc12 pm12 cd12 ct12 : Value}
    {f13 : Addr} {od13 an13 : Option Addr} {sl13 : Array (Option Value)} {oc13 kV13 dc13 pm13 cd13 ct13 : Value}
    {f14 : Addr} {od14 an14 : Option Addr} {sl14 : Array (Option Value)} {oc14 kV14 dc14 pm14 cd14 ct14 : Value}
    {f15 : Addr} {od15 an15 : Option Addr} {sl15 : Array (Option Value)} {oc15 kV15 dc15 pm15 cd15 ct15 : Value}
    {f16 : Addr} {od16 an16 : Option Addr} {sl16 : Array (Option Value)} {oc16 kV16 dc16 pm16 cd16 ct16 : Value}
    {f17 : Addr} {od17 an17 : Option Addr} {sl17 : Array (Option Value)} {oc17 kV17 dc17 pm17 cd17 ct17 : Value}
    {f18 : Addr} {od18 an18 : Option Addr} {sl18 : Array (Option Value)} {oc18 kV18 dc18 pm18 cd18 ct18 : Value}
    {f19 : Addr} {od19 an19 : Option Addr} {sl19 : Array (Option Value)} {oc19 kV19 dc19 pm19 cd19 ct19 : Value}
    {f20 : Addr} {od20 an20 : Option Addr} {sl20 : Array (Option Value)} {oc20 kV20 dc20 pm20 cd20 ct20 : Value}
    {f21 : Addr} {od21 an21 : Option Addr} {sl21 : Array (Option Value)} {oc21 kV21 dc21 pm21 cd21 ct21 : Value}
    {f22 : Addr} {od22 an22 : Option Addr} {sl22 : Array (Option Value)} {oc22 kV22 dc22 pm22 cd22 ct22 : Value}
    {f23 : Addr} {od23 an23 : Option Addr} {sl23 : Array (Option Value)} {oc23 kV23 dc23 pm23 cd23 ct23 : Value}
    {f24 : Addr} {od24 an24 : Option Addr} {sl24 : Array (Option Value)} {oc24 kV24 dc24 pm24 cd24 ct24 : Value}
    {f25 : Addr} {od25 an25 : Option Addr} {sl25 : Array (Option Value)} {oc25 kV25 dc25 pm25 cd25 ct25 : Value}
    {f26 : Addr} {od26 an26 : Option Addr} {sl26 : Array (Option Value)} {oc26 kV26 dc26 pm26 cd26 ct26 : Value}
    {f27 : Addr} {od27 an27 : Option Addr} {sl27 : Array (Option Value)} {oc27 kV27 dc27 pm27 cd27 ct27 : Value}
    {f28 : Addr} {od28 an28 : Option Addr} {sl28 : Array (Option Value)} {oc28 kV28 dc28 pm28 cd28 ct28 : Value}
    {f29 : Addr} {od29 an29 : Option Addr} {sl29 : Array (Option Value)} {oc29 kV29 dc29 pm29 cd29 ct29 : Value}
    {f30 : Addr} {od30 an30 : Option Addr} {sl30 : Array (Option Value)} {oc30 kV30 dc30 pm30 cd30 ct30 : Value}
    {f31 : Addr} {od31 an31 : Option Addr} {sl31 : Array (Option Value)} {oc31 kV31 dc31 pm31 cd31 ct31 : Value}
    {f32 : Addr} {od32 an32 : Option Addr} {sl32 : Array (Option Value)} {oc32 kV32 dc32 pm32 cd32 ct32 : Value}
    {f33 : Addr} {od33 an33 : Option Addr} {sl33 : Array (Option Value)} {oc33 kV33 dc33 pm33 cd33 ct33 : Value}
    {f34 : Addr} {od34 an34 : Option Addr} {sl34 : Array (Option Value)} {oc34 kV34 dc34 pm34 cd34 ct34 : Value}
    {f35 : Addr} {od35 an35 : Option Addr} {sl35 : Array (Option Value)} {oc35 kV35 dc35 pm35 cd35 ct35 : Value}
    {f36 : Addr} {od36 an36 : Option Addr} {sl36 : Array (Option Value)} {oc36 kV36 dc36 pm36 cd36 ct36 : Value}
    {f37 : Addr} {od37 an37 : Option Addr} {sl37 : Array (Option Value)} {oc37 kV37 dc37 pm37 cd37 ct37 : Value}
    {f38 : Addr} {od38 an38 : Option Addr} {sl38 : Array (Option Value)} {oc38 kV38 dc38 pm38 cd38 ct38 : Value}
    {f39 : Addr} {od39 an39 : Option Addr} {sl39 : Array (Option Value)} {oc39 kV39 dc39 pm39 cd39 ct39 : Value}
    {f40 : Addr} {od40 an40 : Option Addr} {sl40 : Array (Option Value)} {oc40 kV40 dc40 pm40 cd40 ct40 : Value}
    {f41 : Addr} {od41 an41 : Option Addr} {sl41 : Array (Option Value)} {oc41 kV41 dc41 pm41 cd41 ct41 : Value}
    {f42 : Addr} {od42 an42 : Option Addr} {sl42 : Array (Option Value)} {oc42 kV42 dc42 pm42 cd42 ct42 : Value}
    {f43 : Addr} {od43 an43 : Option Addr} {sl43 : Array (Option Value)} {oc43 kV43 dc43 pm43 cd43 ct43 : Value}
    {f44 : Addr} {od44 an44 : Option Addr} {sl44 : Array (Option Value)} {oc44 kV44 dc44 pm44 cd44 ct44 : Value}
    {f45 : Addr} {od45 an45 : Option Addr} {sl45 : Array (Option Value)} {oc45 kV45 dc45 pm45 cd45 ct45 : Value}
    {f46 : Addr} {od46 an46 : Option Addr} {sl46 : Array (Option Value)} {oc46 kV46 dc46 pm46 cd46 ct46 : Value}
    {f47 : Addr} {od47 an47 : Option Addr} {sl47 : Array (Option Value)} {oc47 kV47 dc47 pm47 cd47 ct47 : Value}
    {f48 : Addr} {od48 an48 : Option Addr} {sl48 : Array (Option Value)} {oc48 kV48 dc48 pm48 cd48 ct48 : Value}
    {f49 : Addr} {od49 an49 : Option Addr} {sl49 : Array (Option Value)} {oc49 kV49 dc49 pm49 cd49 ct49 : Value}
    {f50 : Addr} {od50 an50 : Option Addr} {sl50 : Array (Option Value)} {oc50 kV50 dc50 pm50 cd50 ct50 : Value}
    {f51 : Addr} {od51 an51 : Option Addr} {sl51 : Array (Option Value)} {oc51 kV51 dc51 pm51 cd51 ct51 : Value}
    {f52 : Addr} {od52 an52 : Option Addr} {sl52 : Array (Option Value)} {oc52 kV52 dc52 pm52 cd52 ct52 : Value}
    {f53 : Addr} {od53 an53 : Option Addr} {sl53 : Array (Option Value)} {oc53 kV53 dc53 pm53 cd53 ct53 : Value}
    {f54 : Addr} {od54 an54 : Option Addr} {sl54 : Array (Option Value)} {oc54 kV54 dc54 pm54 cd54 ct54 : Value}
    {f55 : Addr} {od55 an55 : Option Addr} {sl55 : Array (Option Value)} {oc55 kV55 dc55 pm55 cd55 ct55 : Value}
    {f56 : Addr} {od56 an56 : Option Addr} {sl56 : Array (Option Value)} {oc56 kV56 dc56 pm56 cd56 ct56 : Value}
    {f57 : Addr} {od57 an57 : Option Addr} {sl57 : Array (Option Value)} {oc57 kV57 dc57 pm57 cd57 ct57 : Value}
    {f58 : Addr} {od58 an58 : Option Addr} {sl58 : Array (Option Value)} {oc58 kV58 dc58 pm58 cd58 ct58 : Value}
    {f59 : Addr} {od59 an59 : Option Addr} {sl59 : Array (Option Value)} {oc59 kV59 dc59 pm59 cd59 ct59 : Value}
    {f60 : Addr} {od60 an60 : Option Addr} {sl60 : Array (Option Value)} {oc60 kV60 dc60 pm60 cd60 ct60 : Value}
    {f61 : Addr} {od61 an61 : Option Addr} {sl61 : Array (Option Value)} {oc61 kV61 dc61 pm61 cd61 ct61 : Value}
    {f62 : Addr} {od62 an62 : Option Addr} {sl62 : Array (Option Value)} {oc62 kV62 dc62 pm62 cd62 ct62 : Value}
    {f63 : Addr} {od63 an63 : Option Addr} {sl63 : Array (Option Value)} {oc63 kV63 dc63 pm63 cd63 ct63 : Value}
    (a0 : PySem.W.nsIn K mainGlobals "width" = some (some (.ref f0))) (l0 : K.lookup f0 = some ⟨oc0, od0, .func (PySem.W.fnOf "width" "width" (defArgs swidth) (defBody swidth) (defScope swidth) .none kV0 dc0 pm0 an0 cd0 ct0), sl0⟩) (c0 : PySem.W.codeIn K cd0 "width" = true) (k0 : PySem.W.keepIn K (.ref f0) = true)
    (a1 : PySem.W.nsIn K mainGlobals "signed" = some (some (.ref f1))) (l1 : K.lookup f1 = some ⟨oc1, od1, .func (PySem.W.fnOf "signed" "signed" (defArgs ssigned) (defBody ssigned) (defScope ssigned) .none kV1 dc1 pm1 an1 cd1 ct1), sl1⟩) (c1 : PySem.W.codeIn K cd1 "signed" = true) (k1 : PySem.W.keepIn K (.ref f1) = true)
    (a2 : PySem.W.nsIn K mainGlobals "wrap" = some (some (.ref f2))) (l2 : K.lookup f2 = some ⟨oc2, od2, .func (PySem.W.fnOf "wrap" "wrap" (defArgs swrap) (defBody swrap) (defScope swrap) .none kV2 dc2 pm2 an2 cd2 ct2), sl2⟩) (c2 : PySem.W.codeIn K cd2 "wrap" = true) (k2 : PySem.W.keepIn K (.ref f2) = true)
    (a3 : PySem.W.nsIn K mainGlobals "binary" = some (some (.ref f3))) (l3 : K.lookup f3 = some ⟨oc3, od3, .func (PySem.W.fnOf "binary" "binary" (defArgs sbinary) (defBody sbinary) (defScope sbinary) .none kV3 dc3 pm3 an3 cd3 ct3), sl3⟩) (c3 : PySem.W.codeIn K cd3 "binary" = true) (k3 : PySem.W.keepIn K (.ref f3) = true)
    (a4 : PySem.W.nsIn K mainGlobals "_divided" = some (some (.ref f4))) (l4 : K.lookup f4 = some ⟨oc4, od4, .func (PySem.W.fnOf "_divided" "_divided" (defArgs s_divided) (defBody s_divided) (defScope s_divided) .none kV4 dc4 pm4 an4 cd4 ct4), sl4⟩) (c4 : PySem.W.codeIn K cd4 "_divided" = true) (k4 : PySem.W.keepIn K (.ref f4) = true)
    (a5 : PySem.W.nsIn K mainGlobals "_shifted" = some (some (.ref f5))) (l5 : K.lookup f5 = some ⟨oc5, od5, .func (PySem.W.fnOf "_shifted" "_shifted" (defArgs s_shifted) (defBody s_shifted) (defScope s_shifted) .none kV5 dc5 pm5 an5 cd5 ct5), sl5⟩) (c5 : PySem.W.codeIn K cd5 "_shifted" = true) (k5 : PySem.W.keepIn K (.ref f5) = true)
    (a6 : PySem.W.nsIn K mainGlobals "compare" = some (some (.ref f6))) (l6 : K.lookup f6 = some ⟨oc6, od6, .func (PySem.W.fnOf "compare" "compare" (defArgs scompare) (defBody scompare) (defScope scompare) .none kV6 dc6 pm6 an6 cd6 ct6), sl6⟩) (c6 : PySem.W.codeIn K cd6 "compare" = true) (k6 : PySem.W.keepIn K (.ref f6) = true)
    (a7 : PySem.W.nsIn K mainGlobals "_ordered" = some (some (.ref f7))) (l7 : K.lookup f7 = some ⟨oc7, od7, .func (PySem.W.fnOf "_ordered" "_ordered" (defArgs s_ordered) (defBody s_ordered) (defScope s_ordered) .none kV7 dc7 pm7 an7 cd7 ct7), sl7⟩) (c7 : PySem.W.codeIn K cd7 "_ordered" = true) (k7 : PySem.W.keepIn K (.ref f7) = true)
    (a8 : PySem.W.nsIn K mainGlobals "opposite" = some (some (.ref f8))) (l8 : K.lookup f8 = some ⟨oc8, od8, .func (PySem.W.fnOf "opposite" "opposite" (defArgs sopposite) (defBody sopposite) (defScope sopposite) .none kV8 dc8 pm8 an8 cd8 ct8), sl8⟩) (c8 : PySem.W.codeIn K cd8 "opposite" = true) (k8 : PySem.W.keepIn K (.ref f8) = true)
    (a9 : PySem.W.nsIn K mainGlobals "swapped" = some (some (.ref f9))) (l9 : K.lookup f9 = some ⟨oc9, od9, .func (PySem.W.fnOf "swapped" "swapped" (defArgs sswapped) (defBody sswapped) (defScope sswapped) .none kV9 dc9 pm9 an9 cd9 ct9), sl9⟩) (c9 : PySem.W.codeIn K cd9 "swapped" = true) (k9 : PySem.W.keepIn K (.ref f9) = true)
    (a10 : PySem.W.nsIn K mainGlobals "cast" = some (some (.ref f10))) (l10 : K.lookup f10 = some ⟨oc10, od10, .func (PySem.W.fnOf "cast" "cast" (defArgs scast) (defBody scast) (defScope scast) .none kV10 dc10 pm10 an10 cd10 ct10), sl10⟩) (c10 : PySem.W.codeIn K cd10 "cast" = true) (k10 : PySem.W.keepIn K (.ref f10) = true)
    (a11 : PySem.W.nsIn K mainGlobals "top_of" = some (some (.ref f11))) (l11 : K.lookup f11 = some ⟨oc11, od11, .func (PySem.W.fnOf "top_of" "top_of" (defArgs stop_of) (defBody stop_of) (defScope stop_of) .none kV11 dc11 pm11 an11 cd11 ct11), sl11⟩) (c11 : PySem.W.codeIn K cd11 "top_of" = true) (k11 : PySem.W.keepIn K (.ref f11) = true)
    (a12 : PySem.W.nsIn K mainGlobals "half_of" = some (some (.ref f12))) (l12 : K.lookup f12 = some ⟨oc12, od12, .func (PySem.W.fnOf "half_of" "half_of" (defArgs shalf_of) (defBody shalf_of) (defScope shalf_of) .none kV12 dc12 pm12 an12 cd12 ct12), sl12⟩) (c12 : PySem.W.codeIn K cd12 "half_of" = true) (k12 : PySem.W.keepIn K (.ref f12) = true)
    (a13 : PySem.W.nsIn K mainGlobals "full" = some (some (.ref f13))) (l13 : K.lookup f13 = some ⟨oc13, od13, .func (PySem.W.fnOf "full" "full" (defArgs sfull) (defBody sfull) (defScope sfull) .none kV13 dc13 pm13 an13 cd13 ct13), sl13⟩) (c13 : PySem.W.codeIn K cd13 "full" = true) (k13 : PySem.W.keepIn K (.ref f13) = true)
    (a14 : PySem.W.nsIn K mainGlobals "single" = some (some (.ref f14))) (l14 : K.lookup f14 = some ⟨oc14, od14, .func (PySem.W.fnOf "single" "single" (defArgs ssingle) (defBody ssingle) (defScope ssingle) .none kV14 dc14 pm14 an14 cd14 ct14), sl14⟩) (c14 : PySem.W.codeIn K cd14 "single" = true) (k14 : PySem.W.keepIn K (.ref f14) = true)
    (a15 : PySem.W.nsIn K mainGlobals "is_single" = some (some (.ref f15))) (l15 : K.lookup f15 = some ⟨oc15, od15, .func (PySem.W.fnOf "is_single" "is_single" (defArgs sis_single) (defBody sis_single) (defScope sis_single) .none kV15 dc15 pm15 an15 cd15 ct15), sl15⟩) (c15 : PySem.W.codeIn K cd15 "is_single" = true) (k15 : PySem.W.keepIn K (.ref f15) = true)
    (a16 : PySem.W.nsIn K mainGlobals "union" = some (some (.ref f16))) (l16 : K.lookup f16 = some ⟨oc16, od16, .func (PySem.W.fnOf "union" "union" (defArgs sunion) (defBody sunion) (defScope sunion) .none kV16 dc16 pm16 an16 cd16 ct16), sl16⟩) (c16 : PySem.W.codeIn K cd16 "union" = true) (k16 : PySem.W.keepIn K (.ref f16) = true)
    (a17 : PySem.W.nsIn K mainGlobals "_tightened" = some (some (.ref f17))) (l17 : K.lookup f17 = some ⟨oc17, od17, .func (PySem.W.fnOf "_tightened" "_tightened" (defArgs s_tightened) (defBody s_tightened) (defScope s_tightened) .none kV17 dc17 pm17 an17 cd17 ct17), sl17⟩) (c17 : PySem.W.codeIn K cd17 "_tightened" = true) (k17 : PySem.W.keepIn K (.ref f17) = true)
    (a18 : PySem.W.nsIn K mainGlobals "normal" = some (some (.ref f18))) (l18 : K.lookup f18 = some ⟨oc18, od18, .func (PySem.W.fnOf "normal" "normal" (defArgs snormal) (defBody snormal) (defScope snormal) .none kV18 dc18 pm18 an18 cd18 ct18), sl18⟩) (c18 : PySem.W.codeIn K cd18 "normal" = true) (k18 : PySem.W.keepIn K (.ref f18) = true)
    (a19 : PySem.W.nsIn K mainGlobals "transfer" = some (some (.ref f19))) (l19 : K.lookup f19 = some ⟨oc19, od19, .func (PySem.W.fnOf "transfer" "transfer" (defArgs stransfer) (defBody stransfer) (defScope stransfer) .none kV19 dc19 pm19 an19 cd19 ct19), sl19⟩) (c19 : PySem.W.codeIn K cd19 "transfer" = true) (k19 : PySem.W.keepIn K (.ref f19) = true)
    (a20 : PySem.W.nsIn K mainGlobals "_select" = some (some (.ref f20))) (l20 : K.lookup f20 = some ⟨oc20, od20, .func (PySem.W.fnOf "_select" "_select" (defArgs s_select) (defBody s_select) (defScope s_select) .none kV20 dc20 pm20 an20 cd20 ct20), sl20⟩) (c20 : PySem.W.codeIn K cd20 "_select" = true) (k20 : PySem.W.keepIn K (.ref f20) = true)
    (a21 : PySem.W.nsIn K mainGlobals "_icmp" = some (some (.ref f21))) (l21 : K.lookup f21 = some ⟨oc21, od21, .func (PySem.W.fnOf "_icmp" "_icmp" (defArgs s_icmp) (defBody s_icmp) (defScope s_icmp) .none kV21 dc21 pm21 an21 cd21 ct21), sl21⟩) (c21 : PySem.W.codeIn K cd21 "_icmp" = true) (k21 : PySem.W.keepIn K (.ref f21) = true)
    (a22 : PySem.W.nsIn K mainGlobals "_cast" = some (some (.ref f22))) (l22 : K.lookup f22 = some ⟨oc22, od22, .func (PySem.W.fnOf "_cast" "_cast" (defArgs s_cast) (defBody s_cast) (defScope s_cast) .none kV22 dc22 pm22 an22 cd22 ct22), sl22⟩) (c22 : PySem.W.codeIn K cd22 "_cast" = true) (k22 : PySem.W.keepIn K (.ref f22) = true)
    (a23 : PySem.W.nsIn K mainGlobals "_and" = some (some (.ref f23))) (l23 : K.lookup f23 = some ⟨oc23, od23, .func (PySem.W.fnOf "_and" "_and" (defArgs s_and) (defBody s_and) (defScope s_and) .none kV23 dc23 pm23 an23 cd23 ct23), sl23⟩) (c23 : PySem.W.codeIn K cd23 "_and" = true) (k23 : PySem.W.keepIn K (.ref f23) = true)
    (a24 : PySem.W.nsIn K mainGlobals "_or" = some (some (.ref f24))) (l24 : K.lookup f24 = some ⟨oc24, od24, .func (PySem.W.fnOf "_or" "_or" (defArgs s_or) (defBody s_or) (defScope s_or) .none kV24 dc24 pm24 an24 cd24 ct24), sl24⟩) (c24 : PySem.W.codeIn K cd24 "_or" = true) (k24 : PySem.W.keepIn K (.ref f24) = true)
    (a25 : PySem.W.nsIn K mainGlobals "_xor" = some (some (.ref f25))) (l25 : K.lookup f25 = some ⟨oc25, od25, .func (PySem.W.fnOf "_xor" "_xor" (defArgs s_xor) (defBody s_xor) (defScope s_xor) .none kV25 dc25 pm25 an25 cd25 ct25), sl25⟩) (c25 : PySem.W.codeIn K cd25 "_xor" = true) (k25 : PySem.W.keepIn K (.ref f25) = true)
    (a26 : PySem.W.nsIn K mainGlobals "_low_bits" = some (some (.ref f26))) (l26 : K.lookup f26 = some ⟨oc26, od26, .func (PySem.W.fnOf "_low_bits" "_low_bits" (defArgs s_low_bits) (defBody s_low_bits) (defScope s_low_bits) .none kV26 dc26 pm26 an26 cd26 ct26), sl26⟩) (c26 : PySem.W.codeIn K cd26 "_low_bits" = true) (k26 : PySem.W.keepIn K (.ref f26) = true)
    (a27 : PySem.W.nsIn K mainGlobals "_arithmetic" = some (some (.ref f27))) (l27 : K.lookup f27 = some ⟨oc27, od27, .func (PySem.W.fnOf "_arithmetic" "_arithmetic" (defArgs s_arithmetic) (defBody s_arithmetic) (defScope s_arithmetic) .none kV27 dc27 pm27 an27 cd27 ct27), sl27⟩) (c27 : PySem.W.codeIn K cd27 "_arithmetic" = true) (k27 : PySem.W.keepIn K (.ref f27) = true)
    (a28 : PySem.W.nsIn K mainGlobals "_shift" = some (some (.ref f28))) (l28 : K.lookup f28 = some ⟨oc28, od28, .func (PySem.W.fnOf "_shift" "_shift" (defArgs s_shift) (defBody s_shift) (defScope s_shift) .none kV28 dc28 pm28 an28 cd28 ct28), sl28⟩) (c28 : PySem.W.codeIn K cd28 "_shift" = true) (k28 : PySem.W.keepIn K (.ref f28) = true)
    (a29 : PySem.W.nsIn K mainGlobals "_divide" = some (some (.ref f29))) (l29 : K.lookup f29 = some ⟨oc29, od29, .func (PySem.W.fnOf "_divide" "_divide" (defArgs s_divide) (defBody s_divide) (defScope s_divide) .none kV29 dc29 pm29 an29 cd29 ct29), sl29⟩) (c29 : PySem.W.codeIn K cd29 "_divide" = true) (k29 : PySem.W.keepIn K (.ref f29) = true)
    (a30 : PySem.W.nsIn K mainGlobals "_divide_signed" = some (some (.ref f30))) (l30 : K.lookup f30 = some ⟨oc30, od30, .func (PySem.W.fnOf "_divide_signed" "_divide_signed" (defArgs s_divide_signed) (defBody s_divide_signed) (defScope s_divide_signed) .none kV30 dc30 pm30 an30 cd30 ct30), sl30⟩) (c30 : PySem.W.codeIn K cd30 "_divide_signed" = true) (k30 : PySem.W.keepIn K (.ref f30) = true)
    (a31 : PySem.W.nsIn K mainGlobals "decide" = some (some (.ref f31))) (l31 : K.lookup f31 = some ⟨oc31, od31, .func (PySem.W.fnOf "decide" "decide" (defArgs sdecide) (defBody sdecide) (defScope sdecide) .none kV31 dc31 pm31 an31 cd31 ct31), sl31⟩) (c31 : PySem.W.codeIn K cd31 "decide" = true) (k31 : PySem.W.keepIn K (.ref f31) = true)
    (a32 : PySem.W.nsIn K mainGlobals "_equal" = some (some (.ref f32))) (l32 : K.lookup f32 = some ⟨oc32, od32, .func (PySem.W.fnOf "_equal" "_equal" (defArgs s_equal) (defBody s_equal) (defScope s_equal) .none kV32 dc32 pm32 an32 cd32 ct32), sl32⟩) (c32 : PySem.W.codeIn K cd32 "_equal" = true) (k32 : PySem.W.keepIn K (.ref f32) = true)
    (a33 : PySem.W.nsIn K mainGlobals "_less" = some (some (.ref f33))) (l33 : K.lookup f33 = some ⟨oc33, od33, .func (PySem.W.fnOf "_less" "_less" (defArgs s_less) (defBody s_less) (defScope s_less) .none kV33 dc33 pm33 an33 cd33 ct33), sl33⟩) (c33 : PySem.W.codeIn K cd33 "_less" = true) (k33 : PySem.W.keepIn K (.ref f33) = true)
    (a34 : PySem.W.nsIn K mainGlobals "_law_draw" = some (some (.ref f34))) (l34 : K.lookup f34 = some ⟨oc34, od34, .func (PySem.W.fnOf "_law_draw" "_law_draw" (defArgs s_law_draw) (defBody s_law_draw) (defScope s_law_draw) .none kV34 dc34 pm34 an34 cd34 ct34), sl34⟩) (c34 : PySem.W.codeIn K cd34 "_law_draw" = true) (k34 : PySem.W.keepIn K (.ref f34) = true)
    (a35 : PySem.W.nsIn K mainGlobals "_law_take" = some (some (.ref f35))) (l35 : K.lookup f35 = some ⟨oc35, od35, .func (PySem.W.fnOf "_law_take" "_law_take" (defArgs s_law_take) (defBody s_law_take) (defScope s_law_take) .none kV35 dc35 pm35 an35 cd35 ct35), sl35⟩) (c35 : PySem.W.codeIn K cd35 "_law_take" = true) (k35 : PySem.W.keepIn K (.ref f35) = true)
    (a36 : PySem.W.nsIn K mainGlobals "_law_whole" = some (some (.ref f36))) (l36 : K.lookup f36 = some ⟨oc36, od36, .func (PySem.W.fnOf "_law_whole" "_law_whole" (defArgs s_law_whole) (defBody s_law_whole) (defScope s_law_whole) .none kV36 dc36 pm36 an36 cd36 ct36), sl36⟩) (c36 : PySem.W.codeIn K cd36 "_law_whole" = true) (k36 : PySem.W.keepIn K (.ref f36) = true)
    (a37 : PySem.W.nsIn K mainGlobals "_law_width" = some (some (.ref f37))) (l37 : K.lookup f37 = some ⟨oc37, od37, .func (PySem.W.fnOf "_law_width" "_law_width" (defArgs s_law_width) (defBody s_law_width) (defScope s_law_width) .none kV37 dc37 pm37 an37 cd37 ct37), sl37⟩) (c37 : PySem.W.codeIn K cd37 "_law_width" = true) (k37 : PySem.W.keepIn K (.ref f37) = true)
    (a38 : PySem.W.nsIn K mainGlobals "_law_number" = some (some (.ref f38))) (l38 : K.lookup f38 = some ⟨oc38, od38, .func (PySem.W.fnOf "_law_number" "_law_number" (defArgs s_law_number) (defBody s_law_number) (defScope s_law_number) .none kV38 dc38 pm38 an38 cd38 ct38), sl38⟩) (c38 : PySem.W.codeIn K cd38 "_law_number" = true) (k38 : PySem.W.keepIn K (.ref f38) = true)
    (a39 : PySem.W.nsIn K mainGlobals "_law_signed" = some (some (.ref f39))) (l39 : K.lookup f39 = some ⟨oc39, od39, .func (PySem.W.fnOf "_law_signed" "_law_signed" (defArgs s_law_signed) (defBody s_law_signed) (defScope s_law_signed) .none kV39 dc39 pm39 an39 cd39 ct39), sl39⟩) (c39 : PySem.W.codeIn K cd39 "_law_signed" = true) (k39 : PySem.W.keepIn K (.ref f39) = true)
    (a40 : PySem.W.nsIn K mainGlobals "_law_shift" = some (some (.ref f40))) (l40 : K.lookup f40 = some ⟨oc40, od40, .func (PySem.W.fnOf "_law_shift" "_law_shift" (defArgs s_law_shift) (defBody s_law_shift) (defScope s_law_shift) .none kV40 dc40 pm40 an40 cd40 ct40), sl40⟩) (c40 : PySem.W.codeIn K cd40 "_law_shift" = true) (k40 : PySem.W.keepIn K (.ref f40) = true)
    (a41 : PySem.W.nsIn K mainGlobals "_law_divide" = some (some (.ref f41))) (l41 : K.lookup f41 = some ⟨oc41, od41, .func (PySem.W.fnOf "_law_divide" "_law_divide" (defArgs s_law_divide) (defBody s_law_divide) (defScope s_law_divide) .none kV41 dc41 pm41 an41 cd41 ct41), sl41⟩) (c41 : PySem.W.codeIn K cd41 "_law_divide" = true) (k41 : PySem.W.keepIn K (.ref f41) = true)
    (a42 : PySem.W.nsIn K mainGlobals "_law_binary" = some (some (.ref f42))) (l42 : K.lookup f42 = some ⟨oc42, od42, .func (PySem.W.fnOf "_law_binary" "_law_binary" (defArgs s_law_binary) (defBody s_law_binary) (defScope s_law_binary) .none kV42 dc42 pm42 an42 cd42 ct42), sl42⟩) (c42 : PySem.W.codeIn K cd42 "_law_binary" = true) (k42 : PySem.W.keepIn K (.ref f42) = true)
    (a43 : PySem.W.nsIn K mainGlobals "_law_compare" = some (some (.ref f43))) (l43 : K.lookup f43 = some ⟨oc43, od43, .func (PySem.W.fnOf "_law_compare" "_law_compare" (defArgs s_law_compare) (defBody s_law_compare) (defScope s_law_compare) .none kV43 dc43 pm43 an43 cd43 ct43), sl43⟩) (c43 : PySem.W.codeIn K cd43 "_law_compare" = true) (k43 : PySem.W.keepIn K (.ref f43) = true)
    (a44 : PySem.W.nsIn K mainGlobals "_law_cast" = some (some (.ref f44))) (l44 : K.lookup f44 = some ⟨oc44, od44, .func (PySem.W.fnOf "_law_cast" "_law_cast" (defArgs s_law_cast) (defBody s_law_cast) (defScope s_law_cast) .none kV44 dc44 pm44 an44 cd44 ct44), sl44⟩) (c44 : PySem.W.codeIn K cd44 "_law_cast" = true) (k44 : PySem.W.keepIn K (.ref f44) = true)
    (a45 : PySem.W.nsIn K mainGlobals "_law_member" = some (some (.ref f45))) (l45 : K.lookup f45 = some ⟨oc45, od45, .func (PySem.W.fnOf "_law_member" "_law_member" (defArgs s_law_member) (defBody s_law_member) (defScope s_law_member) .none kV45 dc45 pm45 an45 cd45 ct45), sl45⟩) (c45 : PySem.W.codeIn K cd45 "_law_member" = true) (k45 : PySem.W.keepIn K (.ref f45) = true)
    (a46 : PySem.W.nsIn K mainGlobals "_law_is_range" = some (some (.ref f46))) (l46 : K.lookup f46 = some ⟨oc46, od46, .func (PySem.W.fnOf "_law_is_range" "_law_is_range" (defArgs s_law_is_range) (defBody s_law_is_range) (defScope s_law_is_range) .none kV46 dc46 pm46 an46 cd46 ct46), sl46⟩) (c46 : PySem.W.codeIn K cd46 "_law_is_range" = true) (k46 : PySem.W.keepIn K (.ref f46) = true)
    (a47 : PySem.W.nsIn K mainGlobals "_law_tight" = some (some (.ref f47))) (l47 : K.lookup f47 = some ⟨oc47, od47, .func (PySem.W.fnOf "_law_tight" "_law_tight" (defArgs s_law_tight) (defBody s_law_tight) (defScope s_law_tight) .none kV47 dc47 pm47 an47 cd47 ct47), sl47⟩) (c47 : PySem.W.codeIn K cd47 "_law_tight" = true) (k47 : PySem.W.keepIn K (.ref f47) = true)
    (a48 : PySem.W.nsIn K mainGlobals "_law_loose" = some (some (.ref f48))) (l48 : K.lookup f48 = some ⟨oc48, od48, .func (PySem.W.fnOf "_law_loose" "_law_loose" (defArgs s_law_loose) (defBody s_law_loose) (defScope s_law_loose) .none kV48 dc48 pm48 an48 cd48 ct48), sl48⟩) (c48 : PySem.W.codeIn K cd48 "_law_loose" = true) (k48 : PySem.W.keepIn K (.ref f48) = true)
    (a49 : PySem.W.nsIn K mainGlobals "_law_normal" = some (some (.ref f49))) (l49 : K.lookup f49 = some ⟨oc49, od49, .func (PySem.W.fnOf "_law_normal" "_law_normal" (defArgs s_law_normal) (defBody s_law_normal) (defScope s_law_normal) .none kV49 dc49 pm49 an49 cd49 ct49), sl49⟩) (c49 : PySem.W.codeIn K cd49 "_law_normal" = true) (k49 : PySem.W.keepIn K (.ref f49) = true)
    (a50 : PySem.W.nsIn K mainGlobals "_law_turn" = some (some (.ref f50))) (l50 : K.lookup f50 = some ⟨oc50, od50, .func (PySem.W.fnOf "_law_turn" "_law_turn" (defArgs s_law_turn) (defBody s_law_turn) (defScope s_law_turn) .none kV50 dc50 pm50 an50 cd50 ct50), sl50⟩) (c50 : PySem.W.codeIn K cd50 "_law_turn" = true) (k50 : PySem.W.keepIn K (.ref f50) = true)
    (a51 : PySem.W.nsIn K mainGlobals "_law_low" = some (some (.ref f51))) (l51 : K.lookup f51 = some ⟨oc51, od51, .func (PySem.W.fnOf "_law_low" "_law_low" (defArgs s_law_low) (defBody s_law_low) (defScope s_law_low) .none kV51 dc51 pm51 an51 cd51 ct51), sl51⟩) (c51 : PySem.W.codeIn K cd51 "_law_low" = true) (k51 : PySem.W.keepIn K (.ref f51) = true)
    (a52 : PySem.W.nsIn K mainGlobals "_law_sum_row" = some (some (.ref f52))) (l52 : K.lookup f52 = some ⟨oc52, od52, .func (PySem.W.fnOf "_law_sum_row" "_law_sum_row" (defArgs s_law_sum_row) (defBody s_law_sum_row) (defScope s_law_sum_row) .none kV52 dc52 pm52 an52 cd52 ct52), sl52⟩) (c52 : PySem.W.codeIn K cd52 "_law_sum_row" = true) (k52 : PySem.W.keepIn K (.ref f52) = true)
    (a53 : PySem.W.nsIn K mainGlobals "_law_shift_row" = some (some (.ref f53))) (l53 : K.lookup f53 = some ⟨oc53, od53, .func (PySem.W.fnOf "_law_shift_row" "_law_shift_row" (defArgs s_law_shift_row) (defBody s_law_shift_row) (defScope s_law_shift_row) .none kV53 dc53 pm53 an53 cd53 ct53), sl53⟩) (c53 : PySem.W.codeIn K cd53 "_law_shift_row" = true) (k53 : PySem.W.keepIn K (.ref f53) = true)
    (a54 : PySem.W.nsIn K mainGlobals "_law_binary_row" = some (some (.ref f54))) (l54 : K.lookup f54 = some ⟨oc54, od54, .func (PySem.W.fnOf "_law_binary_row" "_law_binary_row" (defArgs s_law_binary_row) (defBody s_law_binary_row) (defScope s_law_binary_row) .none kV54 dc54 pm54 an54 cd54 ct54), sl54⟩) (c54 : PySem.W.codeIn K cd54 "_law_binary_row" = true) (k54 : PySem.W.keepIn K (.ref f54) = true)
    (a55 : PySem.W.nsIn K mainGlobals "_law_order" = some (some (.ref f55))) (l55 : K.lookup f55 = some ⟨oc55, od55, .func (PySem.W.fnOf "_law_order" "_law_order" (defArgs s_law_order) (defBody s_law_order) (defScope s_law_order) .none kV55 dc55 pm55 an55 cd55 ct55), sl55⟩) (c55 : PySem.W.codeIn K cd55 "_law_order" = true) (k55 : PySem.W.keepIn K (.ref f55) = true)
    (a56 : PySem.W.nsIn K mainGlobals "_law_decided" = some (some (.ref f56))) (l56 : K.lookup f56 = some ⟨oc56, od56, .func (PySem.W.fnOf "_law_decided" "_law_decided" (defArgs s_law_decided) (defBody s_law_decided) (defScope s_law_decided) .none kV56 dc56 pm56 an56 cd56 ct56), sl56⟩) (c56 : PySem.W.codeIn K cd56 "_law_decided" = true) (k56 : PySem.W.keepIn K (.ref f56) = true)
    (a57 : PySem.W.nsIn K mainGlobals "_law_exact" = some (some (.ref f57))) (l57 : K.lookup f57 = some ⟨oc57, od57, .func (PySem.W.fnOf "_law_exact" "_law_exact" (defArgs s_law_exact) (defBody s_law_exact) (defScope s_law_exact) .none kV57 dc57 pm57 an57 cd57 ct57), sl57⟩) (c57 : PySem.W.codeIn K cd57 "_law_exact" = true) (k57 : PySem.W.keepIn K (.ref f57) = true)
    (a58 : PySem.W.nsIn K mainGlobals "_law_transfer" = some (some (.ref f58))) (l58 : K.lookup f58 = some ⟨oc58, od58, .func (PySem.W.fnOf "_law_transfer" "_law_transfer" (defArgs s_law_transfer) (defBody s_law_transfer) (defScope s_law_transfer) .none kV58 dc58 pm58 an58 cd58 ct58), sl58⟩) (c58 : PySem.W.codeIn K cd58 "_law_transfer" = true) (k58 : PySem.W.keepIn K (.ref f58) = true)
    (a59 : PySem.W.nsIn K mainGlobals "_law_values" = some (some (.ref f59))) (l59 : K.lookup f59 = some ⟨oc59, od59, .func (PySem.W.fnOf "_law_values" "_law_values" (defArgs s_law_values) (defBody s_law_values) (defScope s_law_values) .none kV59 dc59 pm59 an59 cd59 ct59), sl59⟩) (c59 : PySem.W.codeIn K cd59 "_law_values" = true) (k59 : PySem.W.keepIn K (.ref f59) = true)
    (a60 : PySem.W.nsIn K mainGlobals "_law_case" = some (some (.ref f60))) (l60 : K.lookup f60 = some ⟨oc60, od60, .func (PySem.W.fnOf "_law_case" "_law_case" (defArgs s_law_case) (defBody s_law_case) (defScope s_law_case) .none kV60 dc60 pm60 an60 cd60 ct60), sl60⟩) (c60 : PySem.W.codeIn K cd60 "_law_case" = true) (k60 : PySem.W.keepIn K (.ref f60) = true)
    (a61 : PySem.W.nsIn K mainGlobals "_law_due" = some (some (.ref f61))) (l61 : K.lookup f61 = some ⟨oc61, od61, .func (PySem.W.fnOf "_law_due" "_law_due" (defArgs s_law_due) (defBody s_law_due) (defScope s_law_due) .none kV61 dc61 pm61 an61 cd61 ct61), sl61⟩) (c61 : PySem.W.codeIn K cd61 "_law_due" = true) (k61 : PySem.W.keepIn K (.ref f61) = true)
    (a62 : PySem.W.nsIn K mainGlobals "_law_rows" = some (some (.ref f62))) (l62 : K.lookup f62 = some ⟨oc62, od62, .func (PySem.W.fnOf "_law_rows" "_law_rows" (defArgs s_law_rows) (defBody s_law_rows) (defScope s_law_rows) .none kV62 dc62 pm62 an62 cd62 ct62), sl62⟩) (c62 : PySem.W.codeIn K cd62 "_law_rows" = true) (k62 : PySem.W.keepIn K (.ref f62) = true)
    (a63 : PySem.W.nsIn K mainGlobals "law" = some (some (.ref f63))) (l63 : K.lookup f63 = some ⟨oc63, od63, .func (PySem.W.fnOf "law" "law" (defArgs slaw) (defBody slaw) (defScope slaw) .none kV63 dc63 pm63 an63 cd63 ct63), sl63⟩) (c63 : PySem.W.codeIn K cd63 "law" = true) (k63 : PySem.W.keepIn K (.ref f63) = true)
    (z_abs : PySem.W.nsIn K mainGlobals "abs" = some none)
    (z_min : PySem.W.nsIn K mainGlobals "min" = some none)
    (z_int : PySem.W.nsIn K mainGlobals "int" = some none)
    (z_max : PySem.W.nsIn K mainGlobals "max" = some none)
    (z_len : PySem.W.nsIn K mainGlobals "len" = some none)
    (z_isinstance : PySem.W.nsIn K mainGlobals "isinstance" = some none)
    (z_bool : PySem.W.nsIn K mainGlobals "bool" = some none)
    (z_range : PySem.W.nsIn K mainGlobals "range" = some none)
    (z_tuple : PySem.W.nsIn K mainGlobals "tuple" = some none)
    (z_list : PySem.W.nsIn K mainGlobals "list" = some none)
    {ad__WIDTHS : Addr} {es__WIDTHS : Array DictEntry} {n__WIDTHS : Nat} (ac__WIDTHS : PySem.W.nsIn K mainGlobals "_WIDTHS" = some (some (.ref ad__WIDTHS))) (al__WIDTHS : K.lookup ad__WIDTHS = some ⟨.type "dict", none, .dict es__WIDTHS n__WIDTHS, #[]⟩) (ak__WIDTHS : PySem.W.KeysLit w.params es__WIDTHS.toList)
    {t__WIDTHS_0 : Tok} (ae__WIDTHS_0 : PySem.W.nsIn K ad__WIDTHS "i1" = some (some (.int 1 t__WIDTHS_0)))
    {t__WIDTHS_1 : Tok} (ae__WIDTHS_1 : PySem.W.nsIn K ad__WIDTHS "i8" = some (some (.int 8 t__WIDTHS_1)))
    {t__WIDTHS_2 : Tok} (ae__WIDTHS_2 : PySem.W.nsIn K ad__WIDTHS "i16" = some (some (.int 16 t__WIDTHS_2)))
    {t__WIDTHS_3 : Tok} (ae__WIDTHS_3 : PySem.W.nsIn K ad__WIDTHS "i32" = some (some (.int 32 t__WIDTHS_3)))
    {t__WIDTHS_4 : Tok} (ae__WIDTHS_4 : PySem.W.nsIn K ad__WIDTHS "i64" = some (some (.int 64 t__WIDTHS_4)))
    {ad__OPPOSITES : Addr} {es__OPPOSITES : Array DictEntry} {n__OPPOSITES : Nat} (ac__OPPOSITES : PySem.W.nsIn K mainGlobals "_OPPOSITES" = some (some (.ref ad__OPPOSITES))) (al__OPPOSITES : K.lookup ad__OPPOSITES = some ⟨.type "dict", none, .dict es__OPPOSITES n__OPPOSITES, #[]⟩) (ak__OPPOSITES : PySem.W.KeysLit w.params es__OPPOSITES.toList)
    {t__OPPOSITES_0 : Tok} (ae__OPPOSITES_0 : PySem.W.nsIn K ad__OPPOSITES "eq" = some (some (.str "ne" t__OPPOSITES_0)))
    {t__OPPOSITES_1 : Tok} (ae__OPPOSITES_1 : PySem.W.nsIn K ad__OPPOSITES "ne" = some (some (.str "eq" t__OPPOSITES_1)))
    {t__OPPOSITES_2 : Tok} (ae__OPPOSITES_2 : PySem.W.nsIn K ad__OPPOSITES "ult" = some (some (.str "uge" t__OPPOSITES_2)))
    {t__OPPOSITES_3 : Tok} (ae__OPPOSITES_3 : PySem.W.nsIn K ad__OPPOSITES "uge" = some (some (.str "ult" t__OPPOSITES_3)))
    {t__OPPOSITES_4 : Tok} (ae__OPPOSITES_4 : PySem.W.nsIn K ad__OPPOSITES "ule" = some (some (.str "ugt" t__OPPOSITES_4)))
    {t__OPPOSITES_5 : Tok} (ae__OPPOSITES_5 : PySem.W.nsIn K ad__OPPOSITES "ugt" = some (some (.str "ule" t__OPPOSITES_5)))
    {t__OPPOSITES_6 : Tok} (ae__OPPOSITES_6 : PySem.W.nsIn K ad__OPPOSITES "slt" = some (some (.str "sge" t__OPPOSITES_6)))
    {t__OPPOSITES_7 : Tok} (ae__OPPOSITES_7 : PySem.W.nsIn K ad__OPPOSITES "sge" = some (some (.str "slt" t__OPPOSITES_7)))
    {t__OPPOSITES_8 : Tok} (ae__OPPOSITES_8 : PySem.W.nsIn K ad__OPPOSITES "sle" = some (some (.str "sgt" t__OPPOSITES_8)))
    {t__OPPOSITES_9 : Tok} (ae__OPPOSITES_9 : PySem.W.nsIn K ad__OPPOSITES "sgt" = some (some (.str "sle" t__OPPOSITES_9)))
    {ad__SWAPPED : Addr} {es__SWAPPED : Array DictEntry} {n__SWAPPED : Nat} (ac__SWAPPED : PySem.W.nsIn K mainGlobals "_SWAPPED" = some (some (.ref ad__SWAPPED))) (al__SWAPPED : K.lookup ad__SWAPPED = some ⟨.type "dict", none, .dict es__SWAPPED n__SWAPPED, #[]⟩) (ak__SWAPPED : PySem.W.KeysLit w.params es__SWAPPED.toList)
    {t__SWAPPED_0 : Tok} (ae__SWAPPED_0 : PySem.W.nsIn K ad__SWAPPED "eq" = some (some (.str "eq" t__SWAPPED_0)))
    {t__SWAPPED_1 : Tok} (ae__SWAPPED_1 : PySem.W.nsIn K ad__SWAPPED "ne" = some (some (.str "ne" t__SWAPPED_1)))
    {t__SWAPPED_2 : Tok} (ae__SWAPPED_2 : PySem.W.nsIn K ad__SWAPPED "ult" = some (some (.str "ugt" t__SWAPPED_2)))
    {t__SWAPPED_3 : Tok} (ae__SWAPPED_3 : PySem.W.nsIn K ad__SWAPPED "ugt" = some (some (.str "ult" t__SWAPPED_3)))
    {t__SWAPPED_4 : Tok} (ae__SWAPPED_4 : PySem.W.nsIn K ad__SWAPPED "ule" = some (some (.str "uge" t__SWAPPED_4)))
    {t__SWAPPED_5 : Tok} (ae__SWAPPED_5 : PySem.W.nsIn K ad__SWAPPED "uge" = some (some (.str "ule" t__SWAPPED_5)))
    {t__SWAPPED_6 : Tok} (ae__SWAPPED_6 : PySem.W.nsIn K ad__SWAPPED "slt" = some (some (.str "sgt" t__SWAPPED_6)))
    {t__SWAPPED_7 : Tok} (ae__SWAPPED_7 : PySem.W.nsIn K ad__SWAPPED "sgt" = some (some (.str "slt" t__SWAPPED_7)))
    {t__SWAPPED_8 : Tok} (ae__SWAPPED_8 : PySem.W.nsIn K ad__SWAPPED "sle" = some (some (.str "sge" t__SWAPPED_8)))
    {t__SWAPPED_9 : Tok} (ae__SWAPPED_9 : PySem.W.nsIn K ad__SWAPPED "sge" = some (some (.str "sle" t__SWAPPED_9)))
    {ad__ROWS : Addr} {es__ROWS : Array DictEntry} {n__ROWS : Nat} (ac__ROWS : PySem.W.nsIn K mainGlobals "_ROWS" = some (some (.ref ad__ROWS))) (al__ROWS : K.lookup ad__ROWS = some ⟨.type "dict", none, .dict es__ROWS n__ROWS, #[]⟩) (ak__ROWS : PySem.W.KeysLit w.params es__ROWS.toList) (lo__ROWS : (ad__ROWS == sysModules) = false)
    (ae__ROWS_0 : PySem.W.nsIn K ad__ROWS "and" = some (some (.ref f23)))
    (ae__ROWS_1 : PySem.W.nsIn K ad__ROWS "or" = some (some (.ref f24)))
    (ae__ROWS_2 : PySem.W.nsIn K ad__ROWS "xor" = some (some (.ref f25)))
    (ae__ROWS_3 : PySem.W.nsIn K ad__ROWS "add" = some (some (.ref f27)))
    (ae__ROWS_4 : PySem.W.nsIn K ad__ROWS "sub" = some (some (.ref f27)))
    (ae__ROWS_5 : PySem.W.nsIn K ad__ROWS "mul" = some (some (.ref f27)))
    (ae__ROWS_6 : PySem.W.nsIn K ad__ROWS "shl" = some (some (.ref f28)))
    (ae__ROWS_7 : PySem.W.nsIn K ad__ROWS "lshr" = some (some (.ref f28)))
    (ae__ROWS_8 : PySem.W.nsIn K ad__ROWS "ashr" = some (some (.ref f28)))
    (ae__ROWS_9 : PySem.W.nsIn K ad__ROWS "udiv" = some (some (.ref f29)))
    (ae__ROWS_10 : PySem.W.nsIn K ad__ROWS "urem" = some (some (.ref f29)))
    (ae__ROWS_11 : PySem.W.nsIn K ad__ROWS "sdiv" = some (some (.ref f30)))
    (ae__ROWS_12 : PySem.W.nsIn K ad__ROWS "srem" = some (some (.ref f30)))
    : ∃ fd : FuncData, (∀ (s : Shared) (v : Value), BindsTo s fd ⟨[v], []⟩ [("script", v)]) ∧ ∀ base : Heap, K.In base → base.Ns mainGlobals mg → FnOk l.prog w K mg base CX0 12 fa fd ["script"] (spLaw K) := by
  have e := hfa.symm.trans (PySem.W.mg_of X G a63)
  cases e
  have F0 := fun_mk (st := swidth) l0 c0 k0
  have b0 := F0.binds (ps := ["kind"]) fun _ _ _ _ _ _ us hl => match us, hl with | [_], _ => rfl
  have F1 := fun_mk (st := ssigned) l1 c1 k1
  have b1 := F1.binds (ps := ["w", "x"]) fun _ _ _ _ _ _ us hl => match us, hl with | [_, _], _ => rfl
  have F2 := fun_mk (st := swrap) l2 c2 k2
  have b2 := F2.binds (ps := ["w", "n"]) fun _ _ _ _ _ _ us hl => match us, hl with | [_, _], _ => rfl
  have F3 := fun_mk (st := sbinary) l3 c3 k3
  have b3 := F3.binds (ps := ["op", "w", "x", "y"]) fun _ _ _ _ _ _ us hl => match us, hl with | [_, _, _, _], _ => rfl
  have F4 := fun_mk (st := s_divided) l4 c4 k4
  have b4 := F4.binds (ps := ["op", "w", "x", "y"]) fun _ _ _ _ _ _ us hl => match us, hl with | [_, _, _, _], _ => rfl
  have F5 := fun_mk (st := s_shifted) l5 c5 k5
  have b5 := F5.binds (ps := ["op", "w", "x", "y"]) fun _ _ _ _ _ _ us hl => match us, hl with | [_, _, _, _], _ => rfl
  have F6 := fun_mk (st := scompare) l6 c6 k6
  have b6 := F6.binds (ps := ["predicate", "w", "x", "y"]) fun _ _ _ _ _ _ us hl => match us, hl with | [_, _, _, _], _ => rfl
  have F7 := fun_mk (st := s_ordered) l7 c7 k7
  have b7 := F7.binds (ps := ["relation", "x", "y"]) fun _ _ _ _ _ _ us hl => match us, hl with | [_, _, _], _ => rfl
  have F8 := fun_mk (st := sopposite) l8 c8 k8
  have b8 := F8.binds (ps := ["predicate"]) fun _ _ _ _ _ _ us hl => match us, hl with | [_], _ => rfl
  have F9 := fun_mk (st := sswapped) l9 c9 k9
  have b9 := F9.binds (ps := ["predicate"]) fun _ _ _ _ _ _ us hl => match us, hl with | [_], _ => rfl
  have F10 := fun_mk (st := scast) l10 c10 k10
  have b10 := F10.binds (ps := ["op", "v", "w", "x"]) fun _ _ _ _ _ _ us hl => match us, hl with | [_, _, _, _], _ => rfl
  have F11 := fun_mk (st := stop_of) l11 c11 k11
  have b11 := F11.binds (ps := ["kind"]) fun _ _ _ _ _ _ us hl => match us, hl with | [_], _ => rfl
  have F12 := fun_mk (st := shalf_of) l12 c12 k12
  have b12 := F12.binds (ps := ["kind"]) fun _ _ _ _ _ _ us hl => match us, hl with | [_], _ => rfl
  have F13 := fun_mk (st := sfull) l13 c13 k13
  have b13 := F13.binds (ps := ["kind"]) fun _ _ _ _ _ _ us hl => match us, hl with | [_], _ => rfl
  have F14 := fun_mk (st := ssingle) l14 c14 k14
  have b14 := F14.binds (ps := ["kind", "value"]) fun _ _ _ _ _ _ us hl => match us, hl with | [_, _], _ => rfl
  have F15 := fun_mk (st := sis_single) l15 c15 k15
  have b15 := F15.binds (ps := ["bounds"]) fun _ _ _ _ _ _ us hl => match us, hl with | [_], _ => rfl
  have F16 := fun_mk (st := sunion) l16 c16 k16
  have b16 := F16.binds (ps := ["a", "b"]) fun _ _ _ _ _ _ us hl => match us, hl with | [_, _], _ => rfl
  have F17 := fun_mk (st := s_tightened) l17 c17 k17
  have b17 := F17.binds (ps := ["kind", "bounds"]) fun _ _ _ _ _ _ us hl => match us, hl with | [_, _], _ => rfl
  have F18 := fun_mk (st := snormal) l18 c18 k18
  have b18 := F18.binds (ps := ["kind", "bounds"]) fun _ _ _ _ _ _ us hl => match us, hl with | [_, _], _ => rfl
  have F19 := fun_mk (st := stransfer) l19 c19 k19
  have b19 := F19.binds (ps := ["op", "kind", "data", "kinds", "ranges"]) fun _ _ _ _ _ _ us hl => match us, hl with | [_, _, _, _, _], _ => rfl
  have F20 := fun_mk (st := s_select) l20 c20 k20
  have b20 := F20.binds (ps := ["ranges"]) fun _ _ _ _ _ _ us hl => match us, hl with | [_], _ => rfl
  have F21 := fun_mk (st := s_icmp) l21 c21 k21
  have b21 := F21.binds (ps := ["kind", "predicate", "ranges"]) fun _ _ _ _ _ _ us hl => match us, hl with | [_, _, _], _ => rfl
  have F22 := fun_mk (st := s_cast) l22 c22 k22
  have b22 := F22.binds (ps := ["op", "kind", "old", "bounds"]) fun _ _ _ _ _ _ us hl => match us, hl with | [_, _, _, _], _ => rfl
  have F23 := fun_mk (st := s_and) l23 c23 k23
  have b23 := F23.binds (ps := ["op", "kind", "a", "b"]) fun _ _ _ _ _ _ us hl => match us, hl with | [_, _, _, _], _ => rfl
  have F24 := fun_mk (st := s_or) l24 c24 k24
  have b24 := F24.binds (ps := ["op", "kind", "a", "b"]) fun _ _ _ _ _ _ us hl => match us, hl with | [_, _, _, _], _ => rfl
  have F25 := fun_mk (st := s_xor) l25 c25 k25
  have b25 := F25.binds (ps := ["op", "kind", "a", "b"]) fun _ _ _ _ _ _ us hl => match us, hl with | [_, _, _, _], _ => rfl
  have F26 := fun_mk (st := s_low_bits) l26 c26 k26
  have b26 := F26.binds (ps := ["op", "kind", "a", "b"]) fun _ _ _ _ _ _ us hl => match us, hl with | [_, _, _, _], _ => rfl
  have F27 := fun_mk (st := s_arithmetic) l27 c27 k27
  have b27 := F27.binds (ps := ["op", "kind", "a", "b"]) fun _ _ _ _ _ _ us hl => match us, hl with | [_, _, _, _], _ => rfl
  have F28 := fun_mk (st := s_shift) l28 c28 k28
  have b28 := F28.binds (ps := ["op", "kind", "a", "b"]) fun _ _ _ _ _ _ us hl => match us, hl with | [_, _, _, _], _ => rfl
  have F29 := fun_mk (st := s_divide) l29 c29 k29
  have b29 := F29.binds (ps := ["op", "kind", "a", "b"]) fun _ _ _ _ _ _ us hl => match us, hl with | [_, _, _, _], _ => rfl
  have F30 := fun_mk (st := s_divide_signed) l30 c30 k30
  have b30 := F30.binds (ps := ["op", "kind", "a", "b"]) fun _ _ _ _ _ _ us hl => match us, hl with | [_, _, _, _], _ => rfl
  have F31 := fun_mk (st := sdecide) l31 c31 k31
  have b31 := F31.binds (ps := ["predicate", "kind", "a", "b"]) fun _ _ _ _ _ _ us hl => match us, hl with | [_, _, _, _], _ => rfl
  have F32 := fun_mk (st := s_equal) l32 c32 k32
  have b32 := F32.binds (ps := ["a", "b"]) fun _ _ _ _ _ _ us hl => match us, hl with | [_, _], _ => rfl
  have F33 := fun_mk (st := s_less) l33 c33 k33
  have b33 := F33.binds (ps := ["predicate", "kind", "a", "b"]) fun _ _ _ _ _ _ us hl => match us, hl with | [_, _, _, _], _ => rfl
  have F34 := fun_mk (st := s_law_draw) l34 c34 k34
  have b34 := F34.binds (ps := ["script"]) fun _ _ _ _ _ _ us hl => match us, hl with | [_], _ => rfl
  have F35 := fun_mk (st := s_law_take) l35 c35 k35
  have b35 := F35.binds (ps := ["draw", "many"]) fun _ _ _ _ _ _ us hl => match us, hl with | [_, _], _ => rfl
  have F36 := fun_mk (st := s_law_whole) l36 c36 k36
  have b36 := F36.binds (ps := ["value"]) fun _ _ _ _ _ _ us hl => match us, hl with | [_], _ => rfl
  have F37 := fun_mk (st := s_law_width) l37 c37 k37
  have b37 := F37.binds (ps := ["kind"]) fun _ _ _ _ _ _ us hl => match us, hl with | [_], _ => rfl
  have F38 := fun_mk (st := s_law_number) l38 c38 k38
  have b38 := F38.binds (ps := ["draw", "w"]) fun _ _ _ _ _ _ us hl => match us, hl with | [_, _], _ => rfl
  have F39 := fun_mk (st := s_law_signed) l39 c39 k39
  have b39 := F39.binds (ps := ["w", "x"]) fun _ _ _ _ _ _ us hl => match us, hl with | [_, _], _ => rfl
  have F40 := fun_mk (st := s_law_shift) l40 c40 k40
  have b40 := F40.binds (ps := ["op", "w", "x", "y"]) fun _ _ _ _ _ _ us hl => match us, hl with | [_, _, _, _], _ => rfl
  have F41 := fun_mk (st := s_law_divide) l41 c41 k41
  have b41 := F41.binds (ps := ["op", "w", "x", "y"]) fun _ _ _ _ _ _ us hl => match us, hl with | [_, _, _, _], _ => rfl
  have F42 := fun_mk (st := s_law_binary) l42 c42 k42
  have b42 := F42.binds (ps := ["op", "w", "x", "y"]) fun _ _ _ _ _ _ us hl => match us, hl with | [_, _, _, _], _ => rfl
  have F43 := fun_mk (st := s_law_compare) l43 c43 k43
  have b43 := F43.binds (ps := ["predicate", "w", "x", "y"]) fun _ _ _ _ _ _ us hl => match us, hl with | [_, _, _, _], _ => rfl
  have F44 := fun_mk (st := s_law_cast) l44 c44 k44
  have b44 := F44.binds (ps := ["op", "v", "w", "x"]) fun _ _ _ _ _ _ us hl => match us, hl with | [_, _, _, _], _ => rfl
  have F45 := fun_mk (st := s_law_member) l45 c45 k45
  have b45 := F45.binds (ps := ["bounds", "value"]) fun _ _ _ _ _ _ us hl => match us, hl with | [_, _], _ => rfl
  have F46 := fun_mk (st := s_law_is_range) l46 c46 k46
  have b46 := F46.binds (ps := ["bounds", "w"]) fun _ _ _ _ _ _ us hl => match us, hl with | [_, _], _ => rfl
  have F47 := fun_mk (st := s_law_tight) l47 c47 k47
  have b47 := F47.binds (ps := ["values", "w"]) fun _ _ _ _ _ _ us hl => match us, hl with | [_, _], _ => rfl
  have F48 := fun_mk (st := s_law_loose) l48 c48 k48
  have b48 := F48.binds (ps := ["draw", "bounds", "w"]) fun _ _ _ _ _ _ us hl => match us, hl with | [_, _, _], _ => rfl
  have F49 := fun_mk (st := s_law_normal) l49 c49 k49
  have b49 := F49.binds (ps := ["bounds", "w"]) fun _ _ _ _ _ _ us hl => match us, hl with | [_, _], _ => rfl
  have F50 := fun_mk (st := s_law_turn) l50 c50 k50
  have b50 := F50.binds (ps := ["bounds", "w"]) fun _ _ _ _ _ _ us hl => match us, hl with | [_, _], _ => rfl
  have F51 := fun_mk (st := s_law_low) l51 c51 k51
  have b51 := F51.binds (ps := ["a", "b", "w"]) fun _ _ _ _ _ _ us hl => match us, hl with | [_, _, _], _ => rfl
  have F52 := fun_mk (st := s_law_sum_row) l52 c52 k52
  have b52 := F52.binds (ps := ["op", "w", "a", "b"]) fun _ _ _ _ _ _ us hl => match us, hl with | [_, _, _, _], _ => rfl
  have F53 := fun_mk (st := s_law_shift_row) l53 c53 k53
  have b53 := F53.binds (ps := ["op", "w", "a", "b"]) fun _ _ _ _ _ _ us hl => match us, hl with | [_, _, _, _], _ => rfl
  have F54 := fun_mk (st := s_law_binary_row) l54 c54 k54
  have b54 := F54.binds (ps := ["op", "w", "a", "b"]) fun _ _ _ _ _ _ us hl => match us, hl with | [_, _, _, _], _ => rfl
  have F55 := fun_mk (st := s_law_order) l55 c55 k55
  have b55 := F55.binds (ps := ["predicate", "w", "a", "b"]) fun _ _ _ _ _ _ us hl => match us, hl with | [_, _, _, _], _ => rfl
  have F56 := fun_mk (st := s_law_decided) l56 c56 k56
  have b56 := F56.binds (ps := ["predicate", "w", "a", "b"]) fun _ _ _ _ _ _ us hl => match us, hl with | [_, _, _, _], _ => rfl
  have F57 := fun_mk (st := s_law_exact) l57 c57 k57
  have b57 := F57.binds (ps := ["op", "kind", "data", "kinds", "row"]) fun _ _ _ _ _ _ us hl => match us, hl with | [_, _, _, _, _], _ => rfl
  have F58 := fun_mk (st := s_law_transfer) l58 c58 k58
  have b58 := F58.binds (ps := ["op", "kind", "data", "kinds", "ranges"]) fun _ _ _ _ _ _ us hl => match us, hl with | [_, _, _, _, _], _ => rfl
  have F59 := fun_mk (st := s_law_values) l59 c59 k59
  have b59 := F59.binds (ps := ["draw", "w"]) fun _ _ _ _ _ _ us hl => match us, hl with | [_, _], _ => rfl
  have F60 := fun_mk (st := s_law_case) l60 c60 k60
  have b60 := F60.binds (ps := ["draw"]) fun _ _ _ _ _ _ us hl => match us, hl with | [_], _ => rfl
  have F61 := fun_mk (st := s_law_due) l61 c61 k61
  have b61 := F61.binds (ps := ["case", "values"]) fun _ _ _ _ _ _ us hl => match us, hl with | [_, _], _ => rfl
  have F62 := fun_mk (st := s_law_rows) l62 c62 k62
  have b62 := F62.binds (ps := ["lists"]) fun _ _ _ _ _ _ us hl => match us, hl with | [_], _ => rfl
  have F63 := fun_mk (st := slaw) l63 c63 k63
  have b63 := F63.binds (ps := ["script"]) fun _ _ _ _ _ _ us hl => match us, hl with | [_], _ => rfl
  exact ⟨PySem.W.fnOf "law" "law" (defArgs slaw) (defBody slaw) (defScope slaw) .none kV63 dc63 pm63 an63 cd63 ct63, fun s v => .of_eq rfl, fun base _ _ => ok_law ⟨f0, _, F0, PySem.W.mg_of X G a0, b0, f1, _, F1, PySem.W.mg_of X G a1, b1, f2, _, F2, PySem.W.mg_of X G a2, b2, f3, _, F3, PySem.W.mg_of X G a3, b3, f4, _, F4, PySem.W.mg_of X G a4, b4, f5, _, F5, PySem.W.mg_of X G a5, b5, f6, _, F6, PySem.W.mg_of X G a6, b6, f7, _, F7, PySem.W.mg_of X G a7, b7, f8, _, F8, PySem.W.mg_of X G a8, b8, f9, _, F9, PySem.W.mg_of X G a9, b9, f10, _, F10, PySem.W.mg_of X G a10, b10, f11, _, F11, PySem.W.mg_of X G a11, b11, f12, _, F12, PySem.W.mg_of X G a12, b12, f13, _, F13, PySem.W.mg_of X G a13, b13, f14, _, F14, PySem.W.mg_of X G a14, b14, f15, _, F15, PySem.W.mg_of X G a15, b15, f16, _, F16, PySem.W.mg_of X G a16, b16, f17, _, F17, PySem.W.mg_of X G a17, b17, f18, _, F18, PySem.W.mg_of X G a18, b18, f19, _, F19, PySem.W.mg_of X G a19, b19, f20, _, F20, PySem.W.mg_of X G a20, b20, f21, _, F21, PySem.W.mg_of X G a21, b21, f22, _, F22, PySem.W.mg_of X G a22, b22, f23, _, F23, PySem.W.mg_of X G a23, b23, f24, _, F24, PySem.W.mg_of X G a24, b24, f25, _, F25, PySem.W.mg_of X G a25, b25, f26, _, F26, PySem.W.mg_of X G a26, b26, f27, _, F27, PySem.W.mg_of X G a27, b27, f28, _, F28, PySem.W.mg_of X G a28, b28, f29, _, F29, PySem.W.mg_of X G a29, b29, f30, _, F30, PySem.W.mg_of X G a30, b30, f31, _, F31, PySem.W.mg_of X G a31, b31, f32, _, F32, PySem.W.mg_of X G a32, b32, f33, _, F33, PySem.W.mg_of X G a33, b33, f34, _, F34, PySem.W.mg_of X G a34, b34, f35, _, F35, PySem.W.mg_of X G a35, b35, f36, _, F36, PySem.W.mg_of X G a36, b36, f37, _, F37, PySem.W.mg_of X G a37, b37, f38, _, F38, PySem.W.mg_of X G a38, b38, f39, _, F39, PySem.W.mg_of X G a39, b39, f40, _, F40, PySem.W.mg_of X G a40, b40, f41, _, F41, PySem.W.mg_of X G a41, b41, f42, _, F42, PySem.W.mg_of X G a42, b42, f43, _, F43, PySem.W.mg_of X G a43, b43, f44, _, F44, PySem.W.mg_of X G a44, b44, f45, _, F45, PySem.W.mg_of X G a45, b45, f46, _, F46, PySem.W.mg_of X G a46, b46, f47, _, F47, PySem.W.mg_of X G a47, b47, f48, _, F48, PySem.W.mg_of X G a48, b48, f49, _, F49, PySem.W.mg_of X G a49, b49, f50, _, F50, PySem.W.mg_of X G a50, b50, f51, _, F51, PySem.W.mg_of X G a51, b51, f52, _, F52, PySem.W.mg_of X G a52, b52, f53, _, F53, PySem.W.mg_of X G a53, b53, f54, _, F54, PySem.W.mg_of X G a54, b54, f55, _, F55, PySem.W.mg_of X G a55, b55, f56, _, F56, PySem.W.mg_of X G a56, b56, f57, _, F57, PySem.W.mg_of X G a57, b57, f58, _, F58, PySem.W.mg_of X G a58, b58, f59, _, F59, PySem.W.mg_of X G a59, b59, f60, _, F60, PySem.W.mg_of X G a60, b60, f61, _, F61, PySem.W.mg_of X G a61, b61, f62, _, F62, PySem.W.mg_of X G a62, b62, fa, _, F63, PySem.W.mg_of X G a63, b63, PySem.W.mg_none_of X G z_abs, PySem.W.mg_none_of X G z_min, PySem.W.mg_none_of X G z_int, PySem.W.mg_none_of X G z_max, PySem.W.mg_none_of X G z_len, PySem.W.mg_none_of X G z_isinstance, PySem.W.mg_none_of X G z_bool, PySem.W.mg_none_of X G z_range, PySem.W.mg_none_of X G z_tuple, PySem.W.mg_none_of X G z_list, ad__WIDTHS, PySem.W.mg_of X G ac__WIDTHS, (KdL.cons (kd_i al__WIDTHS ak__WIDTHS ae__WIDTHS_0) rfl (KdL.cons (kd_i al__WIDTHS ak__WIDTHS ae__WIDTHS_1) rfl (KdL.cons (kd_i al__WIDTHS ak__WIDTHS ae__WIDTHS_2) rfl (KdL.cons (kd_i al__WIDTHS ak__WIDTHS ae__WIDTHS_3) rfl (KdL.cons (kd_i al__WIDTHS ak__WIDTHS ae__WIDTHS_4) rfl KdL.nil))))), ad__OPPOSITES, PySem.W.mg_of X G ac__OPPOSITES, (KdL.cons (kd_s al__OPPOSITES ak__OPPOSITES ae__OPPOSITES_0) rfl (KdL.cons (kd_s al__OPPOSITES ak__OPPOSITES ae__OPPOSITES_1) rfl (KdL.cons (kd_s al__OPPOSITES ak__OPPOSITES ae__OPPOSITES_2) rfl (KdL.cons (kd_s al__OPPOSITES ak__OPPOSITES ae__OPPOSITES_3) rfl (KdL.cons (kd_s al__OPPOSITES ak__OPPOSITES ae__OPPOSITES_4) rfl (KdL.cons (kd_s al__OPPOSITES ak__OPPOSITES ae__OPPOSITES_5) rfl (KdL.cons (kd_s al__OPPOSITES ak__OPPOSITES ae__OPPOSITES_6) rfl (KdL.cons (kd_s al__OPPOSITES ak__OPPOSITES ae__OPPOSITES_7) rfl (KdL.cons (kd_s al__OPPOSITES ak__OPPOSITES ae__OPPOSITES_8) rfl (KdL.cons (kd_s al__OPPOSITES ak__OPPOSITES ae__OPPOSITES_9) rfl KdL.nil)))))))))), ad__SWAPPED, PySem.W.mg_of X G ac__SWAPPED, (KdL.cons (kd_s al__SWAPPED ak__SWAPPED ae__SWAPPED_0) rfl (KdL.cons (kd_s al__SWAPPED ak__SWAPPED ae__SWAPPED_1) rfl (KdL.cons (kd_s al__SWAPPED ak__SWAPPED ae__SWAPPED_2) rfl (KdL.cons (kd_s al__SWAPPED ak__SWAPPED ae__SWAPPED_3) rfl (KdL.cons (kd_s al__SWAPPED ak__SWAPPED ae__SWAPPED_4) rfl (KdL.cons (kd_s al__SWAPPED ak__SWAPPED ae__SWAPPED_5) rfl (KdL.cons (kd_s al__SWAPPED ak__SWAPPED ae__SWAPPED_6) rfl (KdL.cons (kd_s al__SWAPPED ak__SWAPPED ae__SWAPPED_7) rfl (KdL.cons (kd_s al__SWAPPED ak__SWAPPED ae__SWAPPED_8) rfl (KdL.cons (kd_s al__SWAPPED ak__SWAPPED ae__SWAPPED_9) rfl KdL.nil)))))))))), ad__ROWS, PySem.W.mg_of X G ac__ROWS, KdF.mk' al__ROWS ak__ROWS lo__ROWS (kdf_cons ae__ROWS_0 (kdf_cons ae__ROWS_1 (kdf_cons ae__ROWS_2 (kdf_cons ae__ROWS_3 (kdf_cons ae__ROWS_4 (kdf_cons ae__ROWS_5 (kdf_cons ae__ROWS_6 (kdf_cons ae__ROWS_7 (kdf_cons ae__ROWS_8 (kdf_cons ae__ROWS_9 (kdf_cons ae__ROWS_10 (kdf_cons ae__ROWS_11 (kdf_cons ae__ROWS_12 kdf_nil)))))))))))))⟩⟩
end Toy
open PySem PySem.W PyProof.Rows
set_option maxRecDepth 100000 in
set_option maxHeartbeats 0 in
theorem PySem.Challenge.cw_burnish_k30_transfer_contains_results_holds : PySem.Challenge.rw_burnish_k30_transfer_contains_results.Holds := by
  w_on; o_law; k_head; (case hw => w_witness2)
  k_fill
  refine L2.walk_of (l := PySem.Challenge.rw_burnish_k30_transfer_contains_results) (n := 63) (k := 12) (x := "script") (CX := fun _ => L2.CX0) (sp := fun w => VL.spLaw _) rfl (by decide) rfl ⟨rfl, by decide, by decide⟩ (fun w h Y => PySem.W.kIn_of Y) ?F (fun _ _ a ns hl _ hS => ⟨a, ns, rfl, hS, hl, fun _ => rfl⟩) (fun _ _ _ _ _ h => h)
  case F =>
    intro w mg fa h KX G hmg
    refine' Toy.all_mk KX G hmg ?a0 ?l0 ?c0 ?k0 ?a1 ?l1 ?c1 ?k1 ?a2 ?l2 ?c2 ?k2 ?a3 ?l3 ?c3 ?k3 ?a4 ?l4 ?c4 ?k4 ?a5 ?l5 ?c5 ?k5 ?a6 ?l6 ?c6 ?k6 ?a7 ?l7 ?c7 ?k7 ?a8 ?l8 ?c8 ?k8 ?a9 ?l9 ?c9 ?k9 ?a10 ?l10 ?c10 ?k10 ?a11 ?l11 ?c11 ?k11 ?a12 ?l12 ?c12 ?k12 ?a13 ?l13 ?c13 ?k13 ?a14 ?l14 ?c14 ?k14 ?a15 ?l15 ?c15 ?k15 ?a16 ?l16 ?c16 ?k16 ?a17 ?l17 ?c17 ?k17 ?a18 ?l18 ?c18 ?k18 ?a19 ?l19 ?c19 ?k19 ?a20 ?l20 ?c20 ?k20 ?a21 ?l21 ?c21 ?k21 ?a22 ?l22 ?c22 ?k22 ?a23 ?l23 ?c23 ?k23 ?a24 ?l24 ?c24 ?k24 ?a25 ?l25 ?c25 ?k25 ?a26 ?l26 ?c26 ?k26 ?a27 ?l27 ?c27 ?k27 ?a28 ?l28 ?c28 ?k28 ?a29 ?l29 ?c29 ?k29 ?a30 ?l30 ?c30 ?k30 ?a31 ?l31 ?c31 ?k31 ?a32 ?l32 ?c32 ?k32 ?a33 ?l33 ?c33 ?k33 ?a34 ?l34 ?c34 ?k34 ?a35 ?l35 ?c35 ?k35 ?a36 ?l36 ?c36 ?k36 ?a37 ?l37 ?c37 ?k37 ?a38 ?l38 ?c38 ?k38 ?a39 ?l39 ?c39 ?k39 ?a40 ?l40 ?c40 ?k40 ?a41 ?l41 ?c41 ?k41 ?a42 ?l42 ?c42 ?k42 ?a43 ?l43 ?c43 ?k43 ?a44 ?l44 ?c44 ?k44 ?a45 ?l45 ?c45 ?k45 ?a46 ?l46 ?c46 ?k46 ?a47 ?l47 ?c47 ?k47 ?a48 ?l48 ?c48 ?k48 ?a49 ?l49 ?c49 ?k49 ?a50 ?l50 ?c50 ?k50 ?a51 ?l51 ?c51 ?k51 ?a52 ?l52 ?c52 ?k52 ?a53 ?l53 ?c53 ?k53 ?a54 ?l54 ?c54 ?k54 ?a55 ?l55 ?c55 ?k55 ?a56 ?l56 ?c56 ?k56 ?a57 ?l57 ?c57 ?k57 ?a58 ?l58 ?c58 ?k58 ?a59 ?l59 ?c59 ?k59 ?a60 ?l60 ?c60 ?k60 ?a61 ?l61 ?c61 ?k61 ?a62 ?l62 ?c62 ?k62 ?a63 ?l63 ?c63 ?k63 ?z_abs ?z_min ?z_int ?z_max ?z_len ?z_isinstance ?z_bool ?z_range ?z_tuple ?z_list ?ac__WIDTHS ?al__WIDTHS ?ak__WIDTHS ?ae__WIDTHS_0 ?ae__WIDTHS_1 ?ae__WIDTHS_2 ?ae__WIDTHS_3 ?ae__WIDTHS_4 ?ac__OPPOSITES ?al__OPPOSITES ?ak__OPPOSITES ?ae__OPPOSITES_0 ?ae__OPPOSITES_1 ?ae__OPPOSITES_2 ?ae__OPPOSITES_3 ?ae__OPPOSITES_4 ?ae__OPPOSITES_5 ?ae__OPPOSITES_6 ?ae__OPPOSITES_7 ?ae__OPPOSITES_8 ?ae__OPPOSITES_9 ?ac__SWAPPED ?al__SWAPPED ?ak__SWAPPED ?ae__SWAPPED_0 ?ae__SWAPPED_1 ?ae__SWAPPED_2 ?ae__SWAPPED_3 ?ae__SWAPPED_4 ?ae__SWAPPED_5 ?ae__SWAPPED_6 ?ae__SWAPPED_7 ?ae__SWAPPED_8 ?ae__SWAPPED_9 ?ac__ROWS ?al__ROWS ?ak__ROWS ?lo__ROWS ?ae__ROWS_0 ?ae__ROWS_1 ?ae__ROWS_2 ?ae__ROWS_3 ?ae__ROWS_4 ?ae__ROWS_5 ?ae__ROWS_6 ?ae__ROWS_7 ?ae__ROWS_8 ?ae__ROWS_9 ?ae__ROWS_10 ?ae__ROWS_11 ?ae__ROWS_12
    (case a0 => k_is)
    (case l0 => k_is)
    (case c0 => k_is)
    (case k0 => k_is)
    (case a1 => k_is)
    (case l1 => k_is)
    (case c1 => k_is)
    (case k1 => k_is)
    (case a2 => k_is)
    (case l2 => k_is)
    (case c2 => k_is)
    (case k2 => k_is)
    (case a3 => k_is)
    (case l3 => k_is)
    (case c3 => k_is)
    (case k3 => k_is)
    (case a4 => k_is)
    (case l4 => k_is)
    (case c4 => k_is)
    (case k4 => k_is)
    (case a5 => k_is)
    (case l5 => k_is)
    (case c5 => k_is)
    (case k5 => k_is)
    (case a6 => k_is)
    (case l6 => k_is)
    (case c6 => k_is)
    (case k6 => k_is)
    (case a7 => k_is)
    (case l7 => k_is)
    (case c7 => k_is)
    (case k7 => k_is)
    (case a8 => k_is)
    (case l8 => k_is)
    (case c8 => k_is)
    (case k8 => k_is)
    (case a9 => k_is)
    (case l9 => k_is)
    (case c9 => k_is)
    (case k9 => k_is)
    (case a10 => k_is)
    (case l10 => k_is)
    (case c10 => k_is)
    (case k10 => k_is)
    (case a11 => k_is)
    (case l11 => k_is)
    (case c11 => k_is)
    (case k11 => k_is)
    (case a12 => k_is)
    (case l12 => k_is)
    (case c12 => k_is)
    (case k12 => k_is)
    (case a13 => k_is)
    (case l13 => k_is)
    (case c13 => k_is)
    (case k13 => k_is)
    (case a14 => k_is)
    (case l14 => k_is)
    (case c14 => k_is)
    (case k14 => k_is)
    (case a15 => k_is)
    (case l15 => k_is)
    (case c15 => k_is)
    (case k15 => k_is)
    (case a16 => k_is)
    (case l16 => k_is)
    (case c16 => k_is)
    (case k16 => k_is)
    (case a17 => k_is)
    (case l17 => k_is)
    (case c17 => k_is)
    (case k17 => k_is)
    (case a18 => k_is)
    (case l18 => k_is)
    (case c18 => k_is)
    (case k18 => k_is)
    (case a19 => k_is)
    (case l19 => k_is)
    (case c19 => k_is)
    (case k19 => k_is)
    (case a20 => k_is)
    (case l20 => k_is)
    (case c20 => k_is)
    (case k20 => k_is)
    (case a21 => k_is)
    (case l21 => k_is)
    (case c21 => k_is)
    (case k21 => k_is)
    (case a22 => k_is)
    (case l22 => k_is)
    (case c22 => k_is)
    (case k22 => k_is)
    (case a23 => k_is)
    (case l23 => k_is)
    (case c23 => k_is)
    (case k23 => k_is)
    (case a24 => k_is)
    (case l24 => k_is)
    (case c24 => k_is)
    (case k24 => k_is)
    (case a25 => k_is)
    (case l25 => k_is)
    (case c25 => k_is)
    (case k25 => k_is)
    (case a26 => k_is)
    (case l26 => k_is)
    (case c26 => k_is)
    (case k26 => k_is)
    (case a27 => k_is)
    (case l27 => k_is)
    (case c27 => k_is)
    (case k27 => k_is)
    (case a28 => k_is)
    (case l28 => k_is)
    (case c28 => k_is)
    (case k28 => k_is)
    (case a29 => k_is)
    (case l29 => k_is)
    (case c29 => k_is)
    (case k29 => k_is)
    (case a30 => k_is)
    (case l30 => k_is)
    (case c30 => k_is)
    (case k30 => k_is)
    (case a31 => k_is)
    (case l31 => k_is)
    (case c31 => k_is)
    (case k31 => k_is)
    (case a32 => k_is)
    (case l32 => k_is)
    (case c32 => k_is)
    (case k32 => k_is)
    (case a33 => k_is)
    (case l33 => k_is)
    (case c33 => k_is)
    (case k33 => k_is)
    (case a34 => k_is)
    (case l34 => k_is)
    (case c34 => k_is)
    (case k34 => k_is)
    (case a35 => k_is)
    (case l35 => k_is)
    (case c35 => k_is)
    (case k35 => k_is)
    (case a36 => k_is)
    (case l36 => k_is)
    (case c36 => k_is)
    (case k36 => k_is)
    (case a37 => k_is)
    (case l37 => k_is)
    (case c37 => k_is)
    (case k37 => k_is)
    (case a38 => k_is)
    (case l38 => k_is)
    (case c38 => k_is)
    (case k38 => k_is)
    (case a39 => k_is)
    (case l39 => k_is)
    (case c39 => k_is)
    (case k39 => k_is)
    (case a40 => k_is)
    (case l40 => k_is)
    (case c40 => k_is)
    (case k40 => k_is)
    (case a41 => k_is)
    (case l41 => k_is)
    (case c41 => k_is)
    (case k41 => k_is)
    (case a42 => k_is)
    (case l42 => k_is)
    (case c42 => k_is)
    (case k42 => k_is)
    (case a43 => k_is)
    (case l43 => k_is)
    (case c43 => k_is)
    (case k43 => k_is)
    (case a44 => k_is)
    (case l44 => k_is)
    (case c44 => k_is)
    (case k44 => k_is)
    (case a45 => k_is)
    (case l45 => k_is)
    (case c45 => k_is)
    (case k45 => k_is)
    (case a46 => k_is)
    (case l46 => k_is)
    (case c46 => k_is)
    (case k46 => k_is)
    (case a47 => k_is)
    (case l47 => k_is)
    (case c47 => k_is)
    (case k47 => k_is)
    (case a48 => k_is)
    (case l48 => k_is)
    (case c48 => k_is)
    (case k48 => k_is)
    (case a49 => k_is)
    (case l49 => k_is)
    (case c49 => k_is)
    (case k49 => k_is)
    (case a50 => k_is)
    (case l50 => k_is)
    (case c50 => k_is)
    (case k50 => k_is)
    (case a51 => k_is)
    (case l51 => k_is)
    (case c51 => k_is)
    (case k51 => k_is)
    (case a52 => k_is)
    (case l52 => k_is)
    (case c52 => k_is)
    (case k52 => k_is)
    (case a53 => k_is)
    (case l53 => k_is)
    (case c53 => k_is)
    (case k53 => k_is)
    (case a54 => k_is)
    (case l54 => k_is)
    (case c54 => k_is)
    (case k54 => k_is)
    (case a55 => k_is)
    (case l55 => k_is)
    (case c55 => k_is)
    (case k55 => k_is)
    (case a56 => k_is)
    (case l56 => k_is)
    (case c56 => k_is)
    (case k56 => k_is)
    (case a57 => k_is)
    (case l57 => k_is)
    (case c57 => k_is)
    (case k57 => k_is)
    (case a58 => k_is)
    (case l58 => k_is)
    (case c58 => k_is)
    (case k58 => k_is)
    (case a59 => k_is)
    (case l59 => k_is)
    (case c59 => k_is)
    (case k59 => k_is)
    (case a60 => k_is)
    (case l60 => k_is)
    (case c60 => k_is)
    (case k60 => k_is)
    (case a61 => k_is)
    (case l61 => k_is)
    (case c61 => k_is)
    (case k61 => k_is)
    (case a62 => k_is)
    (case l62 => k_is)
    (case c62 => k_is)
    (case k62 => k_is)
    (case a63 => k_is)
    (case l63 => k_is)
    (case c63 => k_is)
    (case k63 => k_is)
    (case z_abs => k_is)
    (case z_min => k_is)
    (case z_int => k_is)
    (case z_max => k_is)
    (case z_len => k_is)
    (case z_isinstance => k_is)
    (case z_bool => k_is)
    (case z_range => k_is)
    (case z_tuple => k_is)
    (case z_list => k_is)
    (case ac__WIDTHS => k_is)
    (case al__WIDTHS => k_is)
    (case ak__WIDTHS => k_keys)
    (case ae__WIDTHS_0 => k_is)
    (case ae__WIDTHS_1 => k_is)
    (case ae__WIDTHS_2 => k_is)
    (case ae__WIDTHS_3 => k_is)
    (case ae__WIDTHS_4 => k_is)
    (case ac__OPPOSITES => k_is)
    (case al__OPPOSITES => k_is)
    (case ak__OPPOSITES => k_keys)
    (case ae__OPPOSITES_0 => k_is)
    (case ae__OPPOSITES_1 => k_is)
    (case ae__OPPOSITES_2 => k_is)
    (case ae__OPPOSITES_3 => k_is)
    (case ae__OPPOSITES_4 => k_is)
    (case ae__OPPOSITES_5 => k_is)
    (case ae__OPPOSITES_6 => k_is)
    (case ae__OPPOSITES_7 => k_is)
    (case ae__OPPOSITES_8 => k_is)
    (case ae__OPPOSITES_9 => k_is)
    (case ac__SWAPPED => k_is)
    (case al__SWAPPED => k_is)
    (case ak__SWAPPED => k_keys)
    (case ae__SWAPPED_0 => k_is)
    (case ae__SWAPPED_1 => k_is)
    (case ae__SWAPPED_2 => k_is)
    (case ae__SWAPPED_3 => k_is)
    (case ae__SWAPPED_4 => k_is)
    (case ae__SWAPPED_5 => k_is)
    (case ae__SWAPPED_6 => k_is)
    (case ae__SWAPPED_7 => k_is)
    (case ae__SWAPPED_8 => k_is)
    (case ae__SWAPPED_9 => k_is)
    (case ac__ROWS => k_is)
    (case al__ROWS => k_is)
    (case ak__ROWS => k_keys)
    (case lo__ROWS => rfl)
    (case ae__ROWS_0 => k_is)
    (case ae__ROWS_1 => k_is)
    (case ae__ROWS_2 => k_is)
    (case ae__ROWS_3 => k_is)
    (case ae__ROWS_4 => k_is)
    (case ae__ROWS_5 => k_is)
    (case ae__ROWS_6 => k_is)
    (case ae__ROWS_7 => k_is)
    (case ae__ROWS_8 => k_is)
    (case ae__ROWS_9 => k_is)
    (case ae__ROWS_10 => k_is)
    (case ae__ROWS_11 => k_is)
    (case ae__ROWS_12 => k_is)
