import PyProof.Rows.All
import Wide.All
import OpenK.AllK
import Wide.FinOn
import HandS.ForMost
import HandS.IsInst
import HandS.Wide
import HandS.More
import HandS.WideBits
import KE.GoesEnum
import HandS.TupAny
import KE.DataMinMax
import HandS.SortKw
import HandS.FStr
import HandS.Zip
import HandS.CallLocal
import PyProof.Rows.StrJoinMade
import PyProof.StrLaws
import PyProof.ReprRoads
import HandS.Rev
import HandS.Style
import HandS.Conv
import HandS.Flow
import HandS.CallLocal
import HandS.More
import HandS.NoneIn
import HandS.WordsDict
import HandS.Iter
import HandS.WrittenGet
import HandS.NestedK
import HandS.EndTab
import PySem.Challenge.RW_burnish_k03_edges_by_slots
set_option Elab.async false
set_option linter.all false
set_option maxRecDepth 100000
set_option maxHeartbeats 4000000
/-! A layer of values over the hand layer: data are trees, the heap is hidden. -/
namespace VL
open PySem L2

/-! ### data in a heap -/
def keyD : Key → PyData
  | .inl i => .int i
  | .inr x => .str x
mutual
inductive Rp (K : PySem.W.Frag) (H : Hp) : V → PyData → Prop
  | non : Rp K H .non .none
  | bl (b : Bool) : Rp K H (.bl b) (.bool b)
  | int (i : Int) : Rp K H (.int i) (.int i)
  | str (x : Str) : Rp K H (.str x) (.str x)
  | lst {a : Addr} {xs : List V} {ds : List PyData} : H a = some (.lst xs) → RpA K H xs ds → Rp K H (.ref a) (.list ds)
  | tup {a : Addr} {xs : List V} {ds : List PyData} : SqT K H a xs → RpA K H xs ds → Rp K H (.ref a) (.tuple ds)
  | dic {a : Addr} {od : Obj} {kvs : List (Key × V)} {es : List (PyData × PyData)} : H a = some (.frz od (.dK kvs)) → RpD K H kvs es → Rp K H (.ref a) (.dict es)
inductive RpA (K : PySem.W.Frag) (H : Hp) : List V → List PyData → Prop
  | nil : RpA K H [] []
  | cons {v : V} {vs : List V} {d : PyData} {ds : List PyData} : Rp K H v d → RpA K H vs ds → RpA K H (v :: vs) (d :: ds)
inductive RpD (K : PySem.W.Frag) (H : Hp) : List (Key × V) → List (PyData × PyData) → Prop
  | nil : RpD K H [] []
  | cons {k : Key} {v : V} {kvs : List (Key × V)} {d : PyData} {es : List (PyData × PyData)} : Rp K H v d → RpD K H kvs es → RpD K H ((k, v) :: kvs) ((keyD k, d) :: es)
end
section
variable {K : PySem.W.Frag} {H H' : Hp}
theorem same_t {a : Addr} {xs : List V} (e : Same H H') (h : SqT K H a xs) : SqT K H' a xs := by
  rcases h with (h | ⟨o, h⟩) | h
  · exact .inl (.inl (e _ _ h))
  · exact .inl (.inr ⟨o, e _ _ h⟩)
  · exact .inr h
mutual
theorem Rp.mono (e : Same H H') : ∀ {v : V} {d : PyData}, Rp K H v d → Rp K H' v d
  | _, _, .non => .non
  | _, _, .bl b => .bl b
  | _, _, .int i => .int i
  | _, _, .str x => .str x
  | _, _, .lst h r => .lst (e _ _ h) (RpA.mono e r)
  | _, _, .tup h r => .tup (same_t e h) (RpA.mono e r)
  | _, _, .dic h r => .dic (e _ _ h) (RpD.mono e r)
theorem RpA.mono (e : Same H H') : ∀ {vs : List V} {ds : List PyData}, RpA K H vs ds → RpA K H' vs ds
  | _, _, .nil => .nil
  | _, _, .cons h r => .cons (Rp.mono e h) (RpA.mono e r)
theorem RpD.mono (e : Same H H') : ∀ {vs : List (Key × V)} {ds : List (PyData × PyData)}, RpD K H vs ds → RpD K H' vs ds
  | _, _, .nil => .nil
  | _, _, .cons h r => .cons (Rp.mono e h) (RpD.mono e r)
end
mutual
theorem Rp.dp : ∀ {v : V} {d : PyData}, Rp K H v d → d.canLay0 = true → Dp K H v d
  | _, _, .non, _ => .non
  | _, _, .bl b, _ => .bl b
  | _, _, .int i, _ => .int i
  | _, _, .str x, _ => .str x
  | _, _, .lst h r, c => .lst (SqL.of h) (RpA.dp r (by simpa [PyData.canLay0] using c))
  | _, _, .tup h r, c => .tup h (RpA.dp r (by simpa [PyData.canLay0] using c))
  | _, _, .dic h r, c => by simp [PyData.canLay0] at c
theorem RpA.dp : ∀ {vs : List V} {ds : List PyData}, RpA K H vs ds → PyData.canLayAll0 ds = true → DpAll K H vs ds
  | _, _, .nil, _ => .nil
  | _, _, .cons h r, c => by
    simp only [PyData.canLayAll0, Bool.and_eq_true] at c
    exact .cons (Rp.dp h c.1) (RpA.dp r c.2)
end
theorem RpA.length : ∀ {vs : List V} {ds : List PyData}, RpA K H vs ds → vs.length = ds.length
  | _, _, .nil => rfl
  | _, _, .cons _ r => by rw [List.length_cons, List.length_cons, RpA.length r]
theorem RpA.get : ∀ {vs : List V} {ds : List PyData} {i : Nat} {d : PyData}, RpA K H vs ds → ds[i]? = some d → ∃ v, vs[i]? = some v ∧ Rp K H v d
  | _, _, _, _, .nil, e => by simp at e
  | _, _, 0, _, .cons h _, e => by simp at e; subst e; exact ⟨_, rfl, h⟩
  | _, _, i + 1, _, .cons _ r, e => by
    obtain ⟨v, h1, h2⟩ := RpA.get (i := i) r (by simpa using e)
    exact ⟨v, by simpa using h1, h2⟩
theorem RpA.get' : ∀ {vs : List V} {ds : List PyData} {i : Nat} {v : V}, RpA K H vs ds → vs[i]? = some v → ∃ d, ds[i]? = some d ∧ Rp K H v d
  | _, _, _, _, .nil, e => by simp at e
  | _, _, 0, _, .cons h _, e => by simp at e; subst e; exact ⟨_, rfl, h⟩
  | _, _, i + 1, _, .cons _ r, e => by
    obtain ⟨v, h1, h2⟩ := RpA.get' (i := i) r (by simpa using e)
    exact ⟨v, by simpa using h1, h2⟩
theorem RpA.append : ∀ {vs us : List V} {ds es : List PyData}, RpA K H vs ds → RpA K H us es → RpA K H (vs ++ us) (ds ++ es)
  | _, _, _, _, .nil, r => r
  | _, _, _, _, .cons h r, s => .cons h (RpA.append r s)
theorem RpA.snoc {vs : List V} {ds : List PyData} {v : V} {d : PyData} (r : RpA K H vs ds) (h : Rp K H v d) : RpA K H (vs ++ [v]) (ds ++ [d]) := r.append (.cons h .nil)
theorem RpA.set {v : V} {d : PyData} (h : Rp K H v d) : ∀ {vs : List V} {ds : List PyData} (i : Nat), RpA K H vs ds → RpA K H (vs.set i v) (ds.set i d)
  | _, _, _, .nil => .nil
  | _, _, 0, .cons _ r => .cons h r
  | _, _, i + 1, .cons g r => .cons g (RpA.set h i r)
theorem RpA.take : ∀ {vs : List V} {ds : List PyData} (n : Nat), RpA K H vs ds → RpA K H (vs.take n) (ds.take n)
  | _, _, 0, _ => .nil
  | _, _, _ + 1, .nil => .nil
  | _, _, n + 1, .cons h r => .cons h (RpA.take n r)
theorem RpA.drop : ∀ {vs : List V} {ds : List PyData} (n : Nat), RpA K H vs ds → RpA K H (vs.drop n) (ds.drop n)
  | _, _, 0, r => r
  | _, _, _ + 1, .nil => .nil
  | _, _, n + 1, .cons _ r => RpA.drop n r
theorem RpA.ints : ∀ {vs : List V} {ns : List Int}, RpA K H vs (ns.map PyData.int) → vs = ns.map V.int
  | _, [], .nil => rfl
  | _, _ :: _, .cons (.int _) r => by rw [List.map_cons, RpA.ints r]
end

/-! ### the one object that changes without an owner: the row of numbers that a law draws from, or the table of the law's code -/
def Draw1 (H0 H : Hp) (p : Addr) : Prop := ∃ (c : Addr) (i v s : Int) (cells : List Int), H p = some (.lst [.ref c, .int i, .int v, .int s]) ∧ H0 c = some (.lst (cells.map V.int)) ∧
  (∀ x ∈ cells, 0 ≤ x) ∧ -1 ≤ i ∧ 0 ≤ v ∧ 0 ≤ s ∧ s < 2147483647
/-- the name of each lambda that the law makes -/
def lamName : Str := (("law" : Str) ++ ".<locals>.") ++ "<lambda>"
def TabAt (H0 H : Hp) (p : Addr) : Prop := ∃ ps : Array Value, H p = some (.tbl ps) ∧ TriplesOk ps.toList ∧ ∀ (pos : Pos) (cv : Value), codeAmong pos ps.toList = some cv → ∃ c, cv = .ref c ∧ H0 c = some (LamX.CodeO c lamName)
def IsTb (H : Hp) (p : Addr) : Prop := ∃ ps : Array Value, H p = some (.tbl ps)
/-- He is the heap at the def's start: what was a table stays one -/
def DrawAt (He H0 H : Hp) (p : Addr) : Prop := H0 p = none ∧ (Draw1 H0 H p ∨ TabAt H0 H p) ∧ (IsTb He p → IsTb H p)
section
variable {He H0 H H0' H' : Hp} {p : Addr}
theorem DrawAt.no (h : DrawAt He H0 H p) : H0 p = none := h.1
theorem DrawAt.live (h : DrawAt He H0 H p) : ∃ o, H p = some o := by
  rcases h.2.1 with ⟨_, _, _, _, _, e, _⟩ | ⟨_, e, _⟩ <;> exact ⟨_, e⟩
theorem DrawAt.keep (h : DrawAt He H0 H p) (gr : Same H0 H0') (n : H0' p = none) (e : H' p = H p) : DrawAt He H0' H' p := by
  refine ⟨n, ?_, fun z => ?_⟩
  · rcases h.2.1 with ⟨c, i, v, s, cells, g1, g2, g3⟩ | ⟨ps, g1, g2, g3⟩
    · exact .inl ⟨c, i, v, s, cells, e.trans g1, gr _ _ g2, g3⟩
    · exact .inr ⟨ps, e.trans g1, g2, fun pos cv k => let ⟨c, k1, k2⟩ := g3 pos cv k; ⟨c, k1, gr _ _ k2⟩⟩
  · obtain ⟨ps, z⟩ := h.2.2 z
    exact ⟨ps, e.trans z⟩
theorem DrawAt.in_ (h : DrawAt He H0 H p) : DrawAt H H0 H p := ⟨h.1, h.2.1, id⟩
theorem DrawAt.out (h : DrawAt He H0 H p) (g : DrawAt H H0' H' p) : DrawAt He H0' H' p := ⟨g.1, g.2.1, fun z => g.2.2 (h.2.2 z)⟩
/-- of a table -/
theorem DrawAt.tab (h : DrawAt He H0 H p) (t : IsTb He p) : TabAt H0 H p := h.2.1.elim (fun ⟨_, _, _, _, _, e, _⟩ => by
  obtain ⟨ps, z⟩ := h.2.2 t
  rw [e] at z; cases z) id
end

/-- a lambda without captured names -/
structure LF where
  qual : Str
  params : Arguments
  body : Expr
  scope : Scope
def LamO (f : Addr) (F : LF) (c : Addr) : HO := .ext fun h => ∃ (pm ctv : Value), h.get? f = some (PySem.W.kla_obj "<lambda>" F.qual F.params F.body F.scope [] pm c ctv)

/-! ### slots -/
inductive R where
  | d (x : PyData) | own (a : Addr) (xs : List PyData) | drw | raw (v : V) | scr (ns : List Int) | dct (a : Addr) (es : List (Key × PyData)) | fn (F : LF)
/-- the address of what a slot owns -/
def R.adr : R → Option Addr
  | .own a _ => some a
  | .dct a _ => some a
  | _ => none
inductive RX where
  | d (x : PyData) | own (xs : List PyData)
abbrev Dl := List (Option R)
structure Ctx where
  K : PySem.W.Frag
  ex : Option Addr
  He : Hp
  Hf : Hp
structure Wf (C : Ctx) (H0 H : Hp) : Prop where
  sub : Same H0 H
  kp : ∀ b o, C.ex ≠ some b → C.He b = some o → H b = some o
  fz : Same C.Hf H0
  nw : ∀ b o, H0 b = some o → C.Hf b = some o ∨ C.He b = none
  dr : ∀ p, C.ex = some p → DrawAt C.He H0 H p
/-- entries of an owned dict -/
inductive RpK (K : PySem.W.Frag) (H : Hp) : List (Key × V) → List (Key × PyData) → Prop
  | nil : RpK K H [] []
  | cons {k : Key} {v : V} {d : PyData} {kvs : List (Key × V)} {es : List (Key × PyData)} : Rp K H v d → RpK K H kvs es → RpK K H ((k, v) :: kvs) ((k, d) :: es)
theorem RpK.mono {K : PySem.W.Frag} {H H' : Hp} (e : Same H H') : ∀ {vs : List (Key × V)} {es : List (Key × PyData)}, RpK K H vs es → RpK K H' vs es
  | _, _, .nil => .nil
  | _, _, .cons h r => .cons (Rp.mono e h) (RpK.mono e r)
def entD (es : List (Key × PyData)) : List (PyData × PyData) := es.map fun e => (keyD e.1, e.2)
theorem RpK.rpd {K : PySem.W.Frag} {H : Hp} : ∀ {vs : List (Key × V)} {es : List (Key × PyData)}, RpK K H vs es → RpD K H vs (entD es)
  | _, _, .nil => .nil
  | _, _, .cons h r => .cons h (RpK.rpd r)
theorem RpK.length {K : PySem.W.Frag} {H : Hp} : ∀ {vs : List (Key × V)} {es : List (Key × PyData)}, RpK K H vs es → vs.length = es.length
  | _, _, .nil => rfl
  | _, _, .cons _ r => by rw [List.length_cons, List.length_cons, RpK.length r]
def RR (C : Ctx) (H0 H : Hp) (v : V) : R → Prop
  | .d x => Rp C.K H0 v x
  | .own a xs => v = .ref a ∧ H0 a = none ∧ C.He a = none ∧ C.ex ≠ some a ∧ ∃ vs, H a = some (.lst vs) ∧ RpA C.K H0 vs xs
  | .drw => ∃ p, C.ex = some p ∧ v = .ref p
  | .raw u => v = u
  | .scr ns => ∃ a, v = .ref a ∧ SqL C.K H0 a (ns.map V.int)
  | .fn F => ∃ f c, v = .ref f ∧ H0 f = some (LamO f F c) ∧ H0 c = some (LamX.CodeO c F.qual)
  | .dct a es => v = .ref a ∧ H0 a = none ∧ C.He a = none ∧ C.ex ≠ some a ∧ ∃ kvs, H a = some (.dK kvs) ∧ RpK C.K H0 kvs es
structure St (C : Ctx) (H0 H : Hp) (σ : L2.St) (δ : Dl) : Prop extends Wf C H0 H where
  len : σ.length = δ.length
  sl : ∀ (i : Nat) (r : R), δ[i]? = some (some r) → ∃ v, σ[i]? = some (some v) ∧ RR C H0 H v r
  sep : ∀ (i j : Nat) (a b : Addr) (p q : R), i ≠ j → δ[i]? = some (some p) → δ[j]? = some (some q) → p.adr = some a → q.adr = some b → a ≠ b
/-- an expression's way -/
structure Go (C : Ctx) (H0 H H0' H' : Hp) : Prop where
  wf : Wf C H0' H'
  fz : Same H0 H0'
  kp : ∀ b o, C.ex ≠ some b → H b = some o → H' b = some o
  nw : ∀ b o, H0' b = some o → H0 b = some o ∨ H b = none
section
variable {C : Ctx} {H0 H H0' H' H0'' H'' : Hp} {σ : L2.St} {δ : Dl} {v : V} {x : PyData}
theorem Go.refl (w : Wf C H0 H) : Go C H0 H H0 H := ⟨w, Same.refl _, fun _ _ _ e => e, fun _ _ e => .inl e⟩
theorem Go.trans (a : Go C H0 H H0' H') (b : Go C H0' H' H0'' H'') : Go C H0 H H0'' H'' := by
  refine ⟨b.wf, a.fz.trans b.fz, fun c o n e => b.kp c o n (a.kp c o n e), fun c o e => ?_⟩
  rcases b.nw c o e with h | h
  · exact a.nw c o h
  · cases q : H c with
    | none => exact .inr rfl
    | some u =>
      by_cases n : C.ex = some c
      · have z := (b.wf.dr c n).no
        rw [e] at z; cases z
      · have := a.kp c u n q
        rw [h] at this; cases this
theorem RR.go {r : R} (h : RR C H0 H v r) (g : Go C H0 H H0' H') : RR C H0' H' v r := by
  cases r with
  | d x => exact Rp.mono g.fz h
  | own a xs =>
    obtain ⟨e, h1, h2, h3, vs, h4, h5⟩ := h
    refine ⟨e, ?_, h2, h3, vs, g.kp a _ h3 h4, h5.mono g.fz⟩
    cases q : H0' a with
    | none => rfl
    | some o =>
      rcases g.nw a o q with z | z
      · rw [h1] at z; cases z
      · rw [h4] at z; cases z
  | drw => exact h
  | raw u => exact h
  | scr ns => obtain ⟨a, e, q⟩ := h; exact ⟨a, e, g.fz.seq q⟩
  | fn F => obtain ⟨a, c, e, q, q2⟩ := h; exact ⟨a, c, e, g.fz _ _ q, g.fz _ _ q2⟩
  | dct a es =>
    obtain ⟨e, h1, h2, h3, vs, h4, h5⟩ := h
    refine ⟨e, ?_, h2, h3, vs, g.kp a _ h3 h4, h5.mono g.fz⟩
    cases q : H0' a with
    | none => rfl
    | some o =>
      rcases g.nw a o q with z | z
      · rw [h1] at z; cases z
      · rw [h4] at z; cases z
theorem RR.adr {r : R} {a : Addr} (h : RR C H0 H v r) (e : r.adr = some a) : v = .ref a ∧ H0 a = none ∧ C.He a = none ∧ C.ex ≠ some a := by
  cases r with
  | own b xs => cases e; exact ⟨h.1, h.2.1, h.2.2.1, h.2.2.2.1⟩
  | dct b es => cases e; exact ⟨h.1, h.2.1, h.2.2.1, h.2.2.2.1⟩
  | d x => cases e
  | drw => cases e
  | raw u => cases e
  | scr ns => cases e
  | fn F => cases e
theorem RR.live {r : R} {a : Addr} (h : RR C H0 H v r) (e : r.adr = some a) : ∃ o, H a = some o := by
  cases r with
  | own b xs => cases e; obtain ⟨_, _, _, _, vs, k, _⟩ := h; exact ⟨_, k⟩
  | dct b es => cases e; obtain ⟨_, _, _, _, vs, k, _⟩ := h; exact ⟨_, k⟩
  | d x => cases e
  | drw => cases e
  | raw u => cases e
  | scr ns => cases e
  | fn F => cases e
/-- what a slot says stays where another address is written -/
theorem RR.upd {r : R} {a : Addr} {o : HO} (h : RR C H0 H v r) (n : ∀ b, r.adr = some b → b ≠ a) : RR C H0 (L2.upd H a o) v r := by
  cases r with
  | d x => exact h
  | own b zs =>
    obtain ⟨k1, k2, k3, k4, ws, k5, k6⟩ := h
    exact ⟨k1, k2, k3, k4, ws, by rw [upd_ne (n b rfl)]; exact k5, k6⟩
  | drw => exact h
  | raw u => exact h
  | scr ns => exact h
  | fn F => exact h
  | dct b zs =>
    obtain ⟨k1, k2, k3, k4, ws, k5, k6⟩ := h
    exact ⟨k1, k2, k3, k4, ws, by rw [upd_ne (n b rfl)]; exact k5, k6⟩
/-- .. and where an address is frozen -/
theorem RR.frz {r : R} {a : Addr} {o : HO} (gr : Same H0 (L2.upd H0 a o)) (h : RR C H0 H v r) (n : ∀ b, r.adr = some b → b ≠ a) : RR C (L2.upd H0 a o) H v r := by
  cases r with
  | d x => exact Rp.mono gr h
  | own b zs =>
    obtain ⟨k1, k2, k3, k4, ws, k5, k6⟩ := h
    exact ⟨k1, by rw [upd_ne (n b rfl)]; exact k2, k3, k4, ws, k5, k6.mono gr⟩
  | drw => exact h
  | raw u => exact h
  | scr ns => obtain ⟨a', e', q'⟩ := h; exact ⟨a', e', gr.seq q'⟩
  | fn F => obtain ⟨a', c', e', q', q2⟩ := h; exact ⟨a', c', e', gr _ _ q', gr _ _ q2⟩
  | dct b zs =>
    obtain ⟨k1, k2, k3, k4, ws, k5, k6⟩ := h
    exact ⟨k1, by rw [upd_ne (n b rfl)]; exact k2, k3, k4, ws, k5, k6.mono gr⟩
/-- δ with another slot: what was there before -/
theorem set_at {r p : R} {i j : Nat} (e : (δ.set i (some r))[j]? = some (some p)) : (i = j ∧ p = r) ∨ (i ≠ j ∧ δ[j]? = some (some p)) := by
  by_cases q : i = j
  · subst q
    rw [List.getElem?_set_self'] at e
    cases hd : δ[i]? with
    | none => rw [hd] at e; simp at e
    | some z => rw [hd] at e; simp at e; exact .inl ⟨rfl, e.symm⟩
  · rw [List.getElem?_set_ne q] at e; exact .inr ⟨q, e⟩
theorem St.go (s : St C H0 H σ δ) (g : Go C H0 H H0' H') : St C H0' H' σ δ where
  toWf := g.wf
  len := s.len
  sl := fun i r e => let ⟨v, e1, h⟩ := s.sl i r e; ⟨v, e1, h.go g⟩
  sep := s.sep
theorem St.set_d (s : St C H0 H σ δ) (i : Nat) (h : Rp C.K H0 v x) : St C H0 H (σ.set i (some v)) (δ.set i (some (.d x))) where
  toWf := s.toWf
  len := by rw [List.length_set, List.length_set, s.len]
  sl := fun j r e => by
    by_cases q : i = j
    · subst q
      rw [List.getElem?_set_self'] at e
      cases hd : δ[i]? with
      | none => rw [hd] at e; simp at e
      | some z =>
        rw [hd] at e
        simp at e
        subst e
        have : i < σ.length := by rw [s.len]; exact (List.getElem?_eq_some_iff.mp hd).1
        exact ⟨v, by rw [List.getElem?_set_self this], h⟩
    · rw [List.getElem?_set_ne q] at e
      obtain ⟨u, e1, h1⟩ := s.sl j r e
      exact ⟨u, by rw [List.getElem?_set_ne q]; exact e1, h1⟩
  sep := fun j k a b p q n e1 e2 a1 a2 => by
    rcases set_at e1 with ⟨_, rfl⟩ | ⟨_, e1⟩
    · cases a1
    rcases set_at e2 with ⟨_, rfl⟩ | ⟨_, e2⟩
    · cases a2
    exact s.sep j k a b p q n e1 e2 a1 a2
theorem St.none (s : St C H0 H σ δ) (i : Nat) : St C H0 H (σ.set i none) (δ.set i none) where
  toWf := s.toWf
  len := by rw [List.length_set, List.length_set, s.len]
  sl := fun j r e => by
    by_cases q : i = j
    · subst q
      rw [List.getElem?_set_self'] at e
      cases hd : δ[i]? with
      | none => rw [hd] at e; simp at e
      | some z => rw [hd] at e; simp at e
    · rw [List.getElem?_set_ne q] at e
      obtain ⟨u, e1, h1⟩ := s.sl j r e
      exact ⟨u, by rw [List.getElem?_set_ne q]; exact e1, h1⟩
  sep := fun j k a b p q n e1 e2 a1 a2 => by
    have f : ∀ {j : Nat} {p : R}, (δ.set i (Option.none))[j]? = some (some p) → δ[j]? = some (some p) := fun {j p} e => by
      by_cases q : i = j
      · subst q
        rw [List.getElem?_set_self'] at e
        cases hd : δ[i]? with
        | none => rw [hd] at e; simp at e
        | some z => rw [hd] at e; simp at e
      · rw [List.getElem?_set_ne q] at e; exact e
    exact s.sep j k a b p q n (f e1) (f e2) a1 a2
/-- a new owned object is given to a slot -/
theorem St.set_adr {r : R} {a : Addr} (s : St C H0 H σ δ) (i : Nat) (ea : r.adr = some a) (hf : ∀ (j : Nat) (p : R) (b : Addr), δ[j]? = some (some p) → p.adr = some b → b ≠ a) (hr : RR C H0 H (.ref a) r) :
    St C H0 H (σ.set i (some (.ref a))) (δ.set i (some r)) where
  toWf := s.toWf
  len := by rw [List.length_set, List.length_set, s.len]
  sl := fun j p e => by
    rcases set_at e with ⟨q, rfl⟩ | ⟨q, e⟩
    · subst q
      have hd : i < δ.length := by
        have := (List.getElem?_eq_some_iff.mp e).1
        rwa [List.length_set] at this
      have : i < σ.length := by rw [s.len]; exact hd
      exact ⟨.ref a, by rw [List.getElem?_set_self this], hr⟩
    · obtain ⟨u, e1, h1⟩ := s.sl j p e
      exact ⟨u, by rw [List.getElem?_set_ne q]; exact e1, h1⟩
  sep := fun j k b c p q n e1 e2 a1 a2 => by
    rcases set_at e1 with ⟨q1, rfl⟩ | ⟨q1, z1⟩ <;> rcases set_at e2 with ⟨q2, rfl⟩ | ⟨q2, z2⟩
    · exact absurd (q1.symm.trans q2) n
    · rw [ea] at a1; cases a1; exact (hf k q c z2 a2).symm
    · rw [ea] at a2; cases a2; exact hf j p b z1 a1
    · exact s.sep j k b c p q n z1 z2 a1 a2
theorem St.set_own {a : Addr} {vs : List V} {xs : List PyData} (s : St C H0 H σ δ) (i : Nat) (hf : ∀ (j : Nat) (p : R) (b : Addr), δ[j]? = some (some p) → p.adr = some b → b ≠ a) (h1 : H0 a = Option.none) (h2 : C.He a = Option.none) (h3 : C.ex ≠ some a) (h4 : H a = some (.lst vs)) (h5 : RpA C.K H0 vs xs) :
    St C H0 H (σ.set i (some (.ref a))) (δ.set i (some (.own a xs))) := s.set_adr i rfl hf ⟨rfl, h1, h2, h3, vs, h4, h5⟩
/-- the owned object in slot i is written -/
theorem St.put {a : Addr} {o : HO} {r r' : R} (s : St C H0 H σ δ) (i : Nat) (e : δ[i]? = some (some r)) (ea : r.adr = some a) (ea' : r'.adr = some a) (hr : ∀ H', H' a = some o → H0 a = Option.none → C.He a = Option.none → C.ex ≠ some a → RR C H0 H' (.ref a) r') : St C H0 (upd H a o) σ (δ.set i (some r')) := by
  obtain ⟨v, e1, hv⟩ := s.sl i _ e
  obtain ⟨rfl, h1, h2, h3⟩ := hv.adr ea
  refine ⟨⟨fun b u q => ?_, fun b u n q => ?_, s.fz, s.nw, fun p q => ?_⟩, by rw [List.length_set, s.len], fun j p q => ?_, fun j k b c p q n q1 q2 a1 a2 => ?_⟩
  · rw [upd_ne (fun z => by rw [z, h1] at q; cases q)]; exact s.sub b u q
  · rw [upd_ne (fun z => by rw [z, h2] at q; cases q)]; exact s.kp b u n q
  · exact (s.dr p q).keep (Same.refl _) (s.dr p q).no (upd_ne (fun z => h3 (by rw [← z]; exact q)))
  · rcases set_at q with ⟨z, rfl⟩ | ⟨z, q⟩
    · subst z
      exact ⟨_, e1, hr _ upd_same h1 h2 h3⟩
    · obtain ⟨u, f1, f2⟩ := s.sl j p q
      exact ⟨u, f1, f2.upd fun b hb => s.sep j i b a p r (fun z' => z z'.symm) q e hb ea⟩
  · rcases set_at q1 with ⟨z1, y1⟩ | ⟨z1, y1⟩ <;> rcases set_at q2 with ⟨z2, y2⟩ | ⟨z2, y2⟩
    · exact absurd (z1.symm.trans z2) n
    · rw [y1, ea'] at a1; cases a1; exact (s.sep k i c a q r (fun z => z2 z.symm) y2 e a2 ea).symm
    · rw [y2, ea'] at a2; cases a2; exact s.sep j i b a p r (fun z => z1 z.symm) y1 e a1 ea
    · exact s.sep j k b c p q n y1 y2 a1 a2
theorem St.write {a : Addr} {vs : List V} {xs ys : List PyData} (s : St C H0 H σ δ) (i : Nat) (e : δ[i]? = some (some (.own a ys))) (h5 : RpA C.K H0 vs xs) : St C H0 (upd H a (.lst vs)) σ (δ.set i (some (.own a xs))) :=
  s.put i e rfl rfl fun _ h h1 h2 h3 => ⟨rfl, h1, h2, h3, vs, h, h5⟩
/-- an owned object stands still from here on -/
theorem St.frz {a : Addr} {o : HO} {r : R} {x : PyData} (s : St C H0 H σ δ) (i : Nat) (e : δ[i]? = some (some r)) (ea : r.adr = some a) (h4 : H a = some o) (hx : Same H0 (upd H0 a o) → Rp C.K (upd H0 a o) (.ref a) x) : ∃ H0', Same H0 H0' ∧ St C H0' H σ (δ.set i (some (.d x))) := by
  obtain ⟨v, e1, hv⟩ := s.sl i _ e
  obtain ⟨rfl, h1, h2, h3⟩ := hv.adr ea
  have gr : Same H0 (upd H0 a o) := fun b u q => by rw [upd_ne (fun z => by rw [z, h1] at q; cases q)]; exact q
  have w' : Wf C (upd H0 a o) H := by
    refine ⟨fun b u q => ?_, s.kp, s.fz.trans gr, fun b u q => ?_, fun p q => ?_⟩
    · by_cases z : b = a
      · subst z; rw [upd_same] at q; cases q; exact h4
      · rw [upd_ne z] at q; exact s.sub b u q
    · by_cases z : b = a
      · subst z; exact .inr h2
      · rw [upd_ne z] at q; exact s.nw b u q
    · exact (s.dr p q).keep gr (by rw [upd_ne (fun z => h3 (by rw [← z]; exact q))]; exact (s.dr p q).no) rfl
  refine ⟨_, gr, w', by rw [List.length_set, s.len], fun j p q => ?_, fun j k b c p q n q1 q2 a1 a2 => ?_⟩
  · rcases set_at q with ⟨z, rfl⟩ | ⟨z, q⟩
    · subst z
      exact ⟨_, e1, hx gr⟩
    · obtain ⟨u, f1, f2⟩ := s.sl j p q
      exact ⟨u, f1, f2.frz gr fun b hb => s.sep j i b a p r (fun z' => z z'.symm) q e hb ea⟩
  · rcases set_at q1 with ⟨_, rfl⟩ | ⟨_, q1⟩
    · cases a1
    rcases set_at q2 with ⟨_, rfl⟩ | ⟨_, q2⟩
    · cases a2
    exact s.sep j k b c p q n q1 q2 a1 a2
theorem St.freeze {a : Addr} {xs : List PyData} (s : St C H0 H σ δ) (i : Nat) (e : δ[i]? = some (some (.own a xs))) : ∃ H0', Same H0 H0' ∧ St C H0' H σ (δ.set i (some (.d (.list xs)))) := by
  obtain ⟨v, e1, rfl, h1, h2, h3, us, h4, h6⟩ := s.sl i _ e
  exact s.frz i e rfl h4 fun gr => .lst upd_same (h6.mono gr)
/-- .. as another object -/
theorem St.frzU {a : Addr} {o : HO} {r : R} {x : PyData} (s : St C H0 H σ δ) (i : Nat) (e : δ[i]? = some (some r)) (ea : r.adr = some a) (hx : Same H0 (upd H0 a o) → Rp C.K (upd H0 a o) (.ref a) x) : Same H0 (upd H0 a o) ∧ St C (upd H0 a o) (upd H a o) σ (δ.set i (some (.d x))) := by
  obtain ⟨v, e1, hv⟩ := s.sl i _ e
  obtain ⟨rfl, h1, h2, h3⟩ := hv.adr ea
  have gr : Same H0 (upd H0 a o) := fun b u q => by rw [upd_ne (fun z => by rw [z, h1] at q; cases q)]; exact q
  have w' : Wf C (upd H0 a o) (upd H a o) := by
    refine ⟨fun b u q => ?_, fun b u n q => ?_, s.fz.trans gr, fun b u q => ?_, fun p q => ?_⟩
    · by_cases z : b = a
      · subst z; rw [upd_same] at q ⊢; exact q
      · rw [upd_ne z] at q ⊢; exact s.sub b u q
    · rw [upd_ne (fun z => by rw [z, h2] at q; cases q)]; exact s.kp b u n q
    · by_cases z : b = a
      · subst z; exact .inr h2
      · rw [upd_ne z] at q; exact s.nw b u q
    · have np : p ≠ a := fun z => h3 (by rw [← z]; exact q)
      exact (s.dr p q).keep gr (by rw [upd_ne np]; exact (s.dr p q).no) (upd_ne np)
  refine ⟨gr, w', by rw [List.length_set, s.len], fun j p q => ?_, fun j k b c p q n q1 q2 a1 a2 => ?_⟩
  · rcases set_at q with ⟨z, rfl⟩ | ⟨z, q⟩
    · subst z
      exact ⟨_, e1, hx gr⟩
    · obtain ⟨u, f1, f2⟩ := s.sl j p q
      have nb : ∀ b, p.adr = some b → b ≠ a := fun b hb => s.sep j i b a p r (fun z' => z z'.symm) q e hb ea
      exact ⟨u, f1, (f2.upd nb).frz gr nb⟩
  · rcases set_at q1 with ⟨_, rfl⟩ | ⟨_, q1⟩
    · cases a1
    rcases set_at q2 with ⟨_, rfl⟩ | ⟨_, q2⟩
    · cases a2
    exact s.sep j k b c p q n q1 q2 a1 a2
end

/-! ### what a reading of the hand layer asks, by data -/
abbrev DE := Dl → (PyData → Prop) → Prop
abbrev DT := Dl → (Bool → Prop) → Prop
abbrev DA := Dl → (List PyData → Prop) → Prop
abbrev DR := Dl → (List R → Prop) → Prop
abbrev DO := Dl → (List PyData → Prop) → Prop
def hid (C : Ctx) (H : Hp) : Hp := fun b => if C.ex = some b then none else H b
def loc (C : Ctx) (f : Bool) (H0 H : Hp) : Hp := match f with
  | true => H0
  | false => hid C H
section
variable {C : Ctx} {H0 H H0' H' H0'' H'' : Hp} {σ : L2.St} {δ : Dl} {v : V} {x : PyData} {f g : Bool}
theorem hid_sub (C : Ctx) (H : Hp) : Same (hid C H) H := fun b o e => by
  unfold hid at e
  split at e
  · cases e
  · exact e
theorem hid_of {a : Addr} {o : HO} (h : H a = some o) (n : C.ex ≠ some a) : hid C H a = some o := by
  unfold hid
  rw [if_neg n]
  exact h
theorem Wf.hid (w : Wf C H0 H) : Same H0 (hid C H) := fun b o e => by
  refine hid_of (w.sub b o e) fun z => ?_
  have q := (w.dr b z).no
  rw [e] at q; cases q
theorem Wf.loc (w : Wf C H0 H) : Same (loc C f H0 H) H := by
  cases f with
  | true => exact w.sub
  | false => exact hid_sub C H
theorem Wf.to (w : Wf C H0 H) : Same H0 (VL.loc C f H0 H) := by
  cases f with
  | true => exact Same.refl _
  | false => exact w.hid
theorem Go.loc (q : Go C H0 H H0' H') : Same (loc C f H0 H) (loc C f H0' H') := by
  cases f with
  | true => exact q.fz
  | false =>
    intro b o e
    show VL.hid C H' b = some o
    have e : VL.hid C H b = some o := e
    unfold VL.hid at e
    split at e
    · cases e
    · rename_i n
      exact hid_of (q.kp b o n e) n
/-- a new frozen object -/
theorem Go.new {p : Addr} {o : HO} (w : Wf C H0 H) (hp : H p = none) : Go C H0 H (upd H0 p o) (upd H p o) := by
  have h0 : H0 p = none := by
    cases q : H0 p with
    | none => rfl
    | some u => rw [w.sub p u q] at hp; cases hp
  have gr : Same H0 (upd H0 p o) := fun b u q => by rw [upd_ne (fun z => by rw [z, h0] at q; cases q)]; exact q
  refine ⟨⟨fun b u q => ?_, fun b u n q => ?_, w.fz.trans gr, fun b u q => ?_, fun c q => ?_⟩, gr, fun b u n q => ?_, fun b u q => ?_⟩
  · by_cases z : b = p
    · subst z; rw [upd_same] at q ⊢; exact q
    · rw [upd_ne z] at q ⊢; exact w.sub b u q
  · have e := w.kp b u n q
    rw [upd_ne (fun z => by rw [z, hp] at e; cases e)]; exact e
  · by_cases z : b = p
    · subst z
      cases hq : C.He b with
      | none => exact .inr rfl
      | some y =>
        by_cases n : C.ex = some b
        · obtain ⟨_, g1⟩ := (w.dr b n).live
          rw [hp] at g1; cases g1
        · rw [w.kp b y n hq] at hp; cases hp
    · rw [upd_ne z] at q; exact w.nw b u q
  · obtain ⟨_, g1⟩ := (w.dr c q).live
    have nc : c ≠ p := fun z => by rw [z, hp] at g1; cases g1
    exact (w.dr c q).keep gr (by rw [upd_ne nc]; exact (w.dr c q).no) (upd_ne nc)
  · rw [upd_ne (fun z => by rw [z, hp] at q; cases q)]; exact q
  · by_cases z : b = p
    · subst z; exact .inr hp
    · rw [upd_ne z] at q; exact .inl q
/-- a new object that is not frozen -/
theorem Go.free {p : Addr} {o : HO} (w : Wf C H0 H) (hp : H p = none) : Go C H0 H H0 (upd H p o) := by
  have h0 : H0 p = none := by
    cases q : H0 p with
    | none => rfl
    | some u => rw [w.sub p u q] at hp; cases hp
  refine ⟨⟨fun b u q => ?_, fun b u n q => ?_, w.fz, w.nw, fun c q => ?_⟩, Same.refl _, fun b u n q => ?_, fun b u q => .inl q⟩
  · rw [upd_ne (fun z => by rw [z, h0] at q; cases q)]; exact w.sub b u q
  · have e := w.kp b u n q
    rw [upd_ne (fun z => by rw [z, hp] at e; cases e)]; exact e
  · obtain ⟨_, g1⟩ := (w.dr c q).live
    have nc : c ≠ p := fun z => by rw [z, hp] at g1; cases g1
    exact (w.dr c q).keep (Same.refl _) (w.dr c q).no (upd_ne nc)
  · rw [upd_ne (fun z => by rw [z, hp] at q; cases q)]; exact q

def Sm (C : Ctx) (f : Bool) (te : TE) (de : DE) : Prop := ∀ (σ : L2.St) (δ : Dl) (H0 H : Hp) (Φ : PyData → Prop) (Q : VK), St C H0 H σ δ → de δ Φ →
  (∀ H0' H' v x, Go C H0 H H0' H' → Rp C.K (loc C f H0' H') v x → Φ x → Q v H') → te σ H Q
def SmT (C : Ctx) (tt : TT) (dt : DT) : Prop := ∀ (σ : L2.St) (δ : Dl) (H0 H : Hp) (Φ : Bool → Prop) (Q : Bool → Hp → Prop), St C H0 H σ δ → dt δ Φ →
  (∀ H0' H' b, Go C H0 H H0' H' → Φ b → Q b H') → tt σ H Q
def SmA (C : Ctx) (f : Bool) (ta : TA) (da : DA) : Prop := ∀ (σ : L2.St) (δ : Dl) (H0 H : Hp) (Φ : List PyData → Prop) (Q : List V → Hp → Prop), St C H0 H σ δ → da δ Φ →
  (∀ H0' H' vs xs, Go C H0 H H0' H' → RpA C.K (loc C f H0' H') vs xs → Φ xs → Q vs H') → ta σ H Q
inductive RRs (C : Ctx) (H0 H : Hp) : List V → List R → Prop
  | nil : RRs C H0 H [] []
  | cons {v : V} {r : R} {vs : List V} {rs : List R} : RR C H0 H v r → RRs C H0 H vs rs → RRs C H0 H (v :: vs) (r :: rs)
theorem RRs.go : ∀ {vs : List V} {rs : List R}, RRs C H0 H vs rs → Go C H0 H H0' H' → RRs C H0' H' vs rs
  | _, _, .nil, _ => .nil
  | _, _, .cons h r, g => .cons (h.go g) (RRs.go r g)
theorem RRs.length : ∀ {vs : List V} {rs : List R}, RRs C H0 H vs rs → vs.length = rs.length
  | _, _, .nil => rfl
  | _, _, .cons _ r => by rw [List.length_cons, List.length_cons, RRs.length r]
def SmR (C : Ctx) (ta : TA) (da : DR) : Prop := ∀ (σ : L2.St) (δ : Dl) (H0 H : Hp) (Φ : List R → Prop) (Q : List V → Hp → Prop), St C H0 H σ δ → da δ Φ →
  (∀ H0' H' vs rs, Go C H0 H H0' H' → RRs C H0' H' vs rs → Φ rs → Q vs H') → ta σ H Q
/-- a new list, not frozen yet -/
def SmO (C : Ctx) (te : TE) (de : DO) : Prop := ∀ (σ : L2.St) (δ : Dl) (H0 H : Hp) (Φ : List PyData → Prop) (Q : VK), St C H0 H σ δ → de δ Φ →
  (∀ H0' H' a vs xs, Go C H0 H H0' H' → H a = none → H0' a = none → H' a = some (.lst vs) → RpA C.K H0' vs xs → Φ xs → Q (.ref a) H') → te σ H Q
theorem Go.he {a : Addr} (w : Wf C H0 H) (hp : H a = none) : C.He a = none ∧ C.ex ≠ some a := by
  have n : C.ex ≠ some a := fun z => by
    obtain ⟨_, g1⟩ := (w.dr a z).live
    rw [hp] at g1; cases g1
  refine ⟨?_, n⟩
  cases hq : C.He a with
  | none => rfl
  | some y => rw [w.kp a y n hq] at hp; cases hp
/-- .. is frozen -/
theorem Go.frz {a : Addr} {vs : List V} (w : Wf C H0 H) (q : Go C H0 H H0' H') (hp : H a = none) (h0 : H0' a = none) (h : H' a = some (.lst vs)) : Go C H0 H (upd H0' a (.lst vs)) H' := by
  have gr : Same H0' (upd H0' a (.lst vs)) := fun b u e => by rw [upd_ne (fun z => by rw [z, h0] at e; cases e)]; exact e
  obtain ⟨he, n⟩ := Go.he w hp
  refine ⟨⟨fun b u e => ?_, q.wf.kp, q.wf.fz.trans gr, fun b u e => ?_, fun c e => ?_⟩, q.fz.trans gr, q.kp, fun b u e => ?_⟩
  · by_cases z : b = a
    · subst z; rw [upd_same] at e; cases e; exact h
    · rw [upd_ne z] at e; exact q.wf.sub b u e
  · by_cases z : b = a
    · subst z; exact .inr he
    · rw [upd_ne z] at e; exact q.wf.nw b u e
  · exact (q.wf.dr c e).keep gr (by rw [upd_ne (fun z => n (by rw [← z]; exact e))]; exact (q.wf.dr c e).no) rfl
  · by_cases z : b = a
    · subst z; exact .inr hp
    · rw [upd_ne z] at e; exact q.nw b u e

/-! ### expressions -/
variable {te ta tb tc : TE} {de da db dc : DE} {tt tu : TT} {dt du : DT} {tas : TA} {das : DA} {f1 f2 : Bool}
theorem Sm.fz (h : Sm C true te de) : Sm C f te de := fun σ δ H0 H Φ Q s w q => h σ δ H0 H Φ Q s w fun H0' H' v x g r p => q H0' H' v x g (r.mono g.wf.to) p
theorem SmA.fz (h : SmA C true tas das) : SmA C f tas das := fun σ δ H0 H Φ Q s w q => h σ δ H0 H Φ Q s w fun H0' H' v x g r p => q H0' H' v x g (r.mono g.wf.to) p
@[simp] def dVar (i : Nat) : DE := fun δ Φ => ∃ x, δ[i]? = some (some (.d x)) ∧ Φ x
theorem sm_var (i : Nat) : Sm C f (tVar i) (dVar i) := fun σ δ H0 H Φ Q s ⟨x, e, p⟩ q => by
  obtain ⟨v, e1, h⟩ := s.sl i _ e
  exact ⟨v, e1, q H0 H v x (.refl s.toWf) (Rp.mono s.toWf.to h) p⟩
/-- an owned list, looked at -/
@[simp] def dVarO (i : Nat) : DE := fun δ Φ => ∃ a xs, δ[i]? = some (some (.own a xs)) ∧ Φ (.list xs)
theorem sm_varO (i : Nat) : Sm C false (tVar i) (dVarO i) := fun σ δ H0 H Φ Q s ⟨a, xs, e, p⟩ q => by
  obtain ⟨v, e1, rfl, h1, h2, h3, vs, h4, h5⟩ := s.sl i _ e
  exact ⟨_, e1, q H0 H _ _ (.refl s.toWf) (.lst (hid_of h4 h3) (h5.mono s.toWf.hid)) p⟩
@[simp] def dC (x : PyData) : DE := fun _ Φ => Φ x
theorem sm_int (i : Int) : Sm C f (tC (.int i)) (dC (.int i)) := fun σ δ H0 H Φ Q s p q => q H0 H _ _ (.refl s.toWf) (.int i) p
theorem sm_bl (i : Bool) : Sm C f (tC (.bl i)) (dC (.bool i)) := fun σ δ H0 H Φ Q s p q => q H0 H _ _ (.refl s.toWf) (.bl i) p
theorem sm_str (i : Str) : Sm C f (tC (.str i)) (dC (.str i)) := fun σ δ H0 H Φ Q s p q => q H0 H _ _ (.refl s.toWf) (.str i) p
theorem sm_non : Sm C f (tC .non) (dC .none) := fun σ δ H0 H Φ Q s p q => q H0 H _ _ (.refl s.toWf) .non p
/-- an operation on two values whose answer is scalar and that leaves the heap -/
def OpD (C : Ctx) (r : R2) (g : PyData → PyData → (PyData → Prop) → Prop) : Prop := ∀ (H : Hp) (v u : V) (x y : PyData) (Φ : PyData → Prop) (Q : VK), Rp C.K H v x → Rp C.K H u y → g x y Φ → (∀ w z, (∀ H, Rp C.K H w z) → Φ z → Q w H) → r v u H Q
@[simp] def dOp (g : PyData → PyData → (PyData → Prop) → Prop) (da db : DE) : DE := fun δ Φ => da δ fun x => db δ fun y => g x y Φ
theorem sm_op {r : R2} {g : PyData → PyData → (PyData → Prop) → Prop} (hr : OpD C r g) (ha : Sm C f1 ta da) (hb : Sm C f2 tb db) : Sm C f (tOp r ta tb) (dOp g da db) := fun σ δ H0 H Φ Q s w q =>
  ha σ δ H0 H _ _ s w fun H01 H1 v x g1 r1 w1 => hb σ δ H01 H1 _ _ (s.go g1) w1 fun H02 H2 u y g2 r2 w2 =>
    hr H2 v u x y Φ Q ((r1.mono g2.loc).mono g2.wf.loc) (r2.mono g2.wf.loc) w2 fun w' z hz p => q H02 H2 w' z (g1.trans g2) (hz _) p
def isScalV : V → Option PyData
  | .non => some .none
  | .bl b => some (.bool b)
  | .int i => some (.int i)
  | .str s => some (.str s)
  | _ => none
theorem isScal_rp {K : PySem.W.Frag} {v : V} {x : PyData} (h : isScalV v = some x) (H : Hp) : Rp K H v x := by
  cases v <;> simp [isScalV] at h <;> subst h <;> constructor
@[simp] def gI0 (g : Int → Int → PyData) : PyData → PyData → (PyData → Prop) → Prop := fun x y Φ => ∃ i j, x = .int i ∧ y = .int j ∧ Φ (g i j)
@[simp] def gI (c : Int → Int → Prop) (g : Int → Int → PyData) : PyData → PyData → (PyData → Prop) → Prop := fun x y Φ => ∃ i j, x = .int i ∧ y = .int j ∧ c i j ∧ Φ (g i j)
theorem opd_I0 {g : Int → Int → V} {g' : Int → Int → PyData} (h : ∀ i j, isScalV (g i j) = some (g' i j)) : OpD C (rI0 g) (gI0 g') := fun H v u x y Φ Q rv ru ⟨i, j, e1, e2, p⟩ q => by
  subst e1 e2
  cases rv
  cases ru
  exact ⟨i, j, rfl, rfl, q _ _ (isScal_rp (h i j)) p⟩
theorem opd_I {c : Int → Int → Prop} {g : Int → Int → V} {g' : Int → Int → PyData} (h : ∀ i j, isScalV (g i j) = some (g' i j)) : OpD C (rI c g) (gI c g') := fun H v u x y Φ Q rv ru ⟨i, j, e1, e2, e3, p⟩ q => by
  subst e1 e2
  cases rv
  cases ru
  exact ⟨i, j, rfl, rfl, e3, q _ _ (isScal_rp (h i j)) p⟩
@[simp] def toV : PyData → Option V
  | .none => some .non
  | .bool b => some (.bl b)
  | .int i => some (.int i)
  | .str s => some (.str s)
  | _ => none
theorem toV_rp {K : PySem.W.Frag} {H : Hp} {v w : V} {x : PyData} (h : Rp K H v x) (e : toV x = some w) : v = w := by
  cases h <;> simp [toV] at e <;> subst e <;> rfl
@[simp] def gEq (neg : Bool) : PyData → PyData → (PyData → Prop) → Prop := fun x y Φ => ∃ v u, toV x = some v ∧ toV y = some u ∧ scal v u = true ∧ Φ (.bool (if neg then !decide (v = u) else decide (v = u)))
theorem opd_eq : OpD C rEq (gEq false) := fun H v u x y Φ Q rv ru ⟨v', u', e1, e2, e3, p⟩ q => by
  have a := toV_rp rv e1
  have b := toV_rp ru e2
  subst a b
  exact ⟨e3, q _ _ (fun _ => .bl _) p⟩
theorem opd_ne : OpD C rNe (gEq true) := fun H v u x y Φ Q rv ru ⟨v', u', e1, e2, e3, p⟩ q => by
  have a := toV_rp rv e1
  have b := toV_rp ru e2
  subst a b
  exact ⟨e3, q _ _ (fun _ => .bl _) p⟩
@[simp] def gEqD (neg : Bool) : PyData → PyData → (PyData → Prop) → Prop := fun x y Φ => SeqAt.shaped x = true ∧ SeqAt.shaped y = true ∧ Φ (.bool (if neg then !PyData.eqv x y else PyData.eqv x y))
theorem opd_eqD : OpD C (rEqD C.K) (gEqD false) := fun H v u x y Φ Q rv ru ⟨e1, e2, p⟩ q =>
  ⟨x, y, rv.dp (SeqAt.canLay_of_shaped e1), ru.dp (SeqAt.canLay_of_shaped e2), e1, e2, q _ _ (fun _ => .bl _) p⟩
theorem opd_neD : OpD C (rNeD C.K) (gEqD true) := fun H v u x y Φ Q rv ru ⟨e1, e2, p⟩ q =>
  ⟨x, y, rv.dp (SeqAt.canLay_of_shaped e1), ru.dp (SeqAt.canLay_of_shaped e2), e1, e2, q _ _ (fun _ => .bl _) p⟩
@[simp] def isN : PyData → Bool
  | .none => true
  | _ => false
@[simp] def gIsN (neg : Bool) : PyData → PyData → (PyData → Prop) → Prop := fun x y Φ => y = .none ∧ Φ (.bool (if neg then !isN x else isN x))
theorem isN_rp {K : PySem.W.Frag} {H : Hp} {v : V} {x : PyData} (h : Rp K H v x) : decide (v = .non) = isN x := by
  cases h <;> simp [isN]
theorem opd_isN : OpD C (fun x y H Q => y = .non ∧ Q (.bl (decide (x = .non))) H) (gIsN false) := fun H v u x y Φ Q rv ru ⟨e1, p⟩ q => by
  subst e1
  cases ru
  rw [isN_rp rv]
  exact ⟨rfl, q _ _ (fun _ => .bl _) p⟩
theorem opd_notN : OpD C (fun x y H Q => y = .non ∧ Q (.bl (!decide (x = .non))) H) (gIsN true) := fun H v u x y Φ Q rv ru ⟨e1, p⟩ q => by
  subst e1
  cases ru
  rw [isN_rp rv]
  exact ⟨rfl, q _ _ (fun _ => .bl _) p⟩
@[simp] def flatD : PyData → Bool
  | .none => true
  | .bool _ => true
  | .int _ => true
  | .str _ => true
  | _ => false
theorem flat_rp {K : PySem.W.Frag} {H : Hp} {v : V} {x : PyData} (h : Rp K H v x) : flatV v = flatD x := by
  cases h <;> rfl
theorem flats_rp {K : PySem.W.Frag} {H : Hp} : ∀ {vs : List V} {xs : List PyData}, RpA K H vs xs → vs.all flatV = xs.all flatD
  | _, _, .nil => rfl
  | _, _, .cons h r => by rw [List.all_cons, List.all_cons, flat_rp h, flats_rp r]
theorem eqV_rp {K : PySem.W.Frag} {H : Hp} {v u : V} {x y : PyData} (h : Rp K H v x) (k : Rp K H u y) (fx : flatD x = true) (fy : flatD y = true) : eqV v u = PyData.eqv x y := by
  cases h <;> cases k <;> simp [flatD] at fx fy <;> simp [eqV, PyData.eqv]
def inD (x : PyData) (xs : List PyData) : Bool := xs.any fun y => PyData.eqv y x
theorem inV_rp {K : PySem.W.Frag} {H : Hp} {v : V} {x : PyData} (h : Rp K H v x) (fx : flatD x = true) : ∀ {vs : List V} {xs : List PyData}, RpA K H vs xs → xs.all flatD = true → inV v vs = inD x xs
  | _, _, .nil, _ => rfl
  | _, _, .cons k r, e => by
    rw [List.all_cons, Bool.and_eq_true] at e
    have ih := inV_rp h fx r e.2
    unfold inV inD at *
    rw [List.any_cons, List.any_cons, eqV_rp k h e.1 fx, ih]
@[simp] def seqOf : PyData → Option (List PyData)
  | .list xs => some xs
  | .tuple xs => some xs
  | _ => none
@[simp] def gIn (neg : Bool) : PyData → PyData → (PyData → Prop) → Prop := fun x y Φ => ∃ xs, seqOf y = some xs ∧ flatD x = true ∧ xs.all flatD = true ∧ Φ (.bool (if neg then !inD x xs else inD x xs))
theorem opd_in (neg : Bool) : OpD C (rIn C.K neg) (gIn neg) := fun H v u x y Φ Q rv ru ⟨xs, e1, e2, e3, p⟩ q => by
  cases ru with
  | lst h r =>
    simp [seqOf] at e1
    subst e1
    exact ⟨_, _, rfl, .inl (SqL.of h), by rw [flat_rp rv, e2], by rw [flats_rp r, e3], by rw [inV_rp rv e2 r e3]; exact q _ _ (fun _ => .bl _) p⟩
  | tup h r =>
    simp [seqOf] at e1
    subst e1
    exact ⟨_, _, rfl, .inr h, by rw [flat_rp rv, e2], by rw [flats_rp r, e3], by rw [inV_rp rv e2 r e3]; exact q _ _ (fun _ => .bl _) p⟩
  | _ => simp [seqOf] at e1
/-- a text added to a text -/
def gCatS : PyData → PyData → (PyData → Prop) → Prop := fun x y Φ => ∃ a b, x = .str a ∧ y = .str b ∧ a.length + b.length ≤ sizeLine ∧ Φ (.str (a ++ b))
/-- an item -/
theorem atI_rp {K : PySem.W.Frag} {H : Hp} {vs : List V} {xs : List PyData} {i : Int} {y : PyData} (r : RpA K H vs xs) (e : atI xs i = some y) : ∃ v, atI vs i = some v ∧ Rp K H v y := by
  unfold atI at e ⊢
  rw [r.length]
  cases h : ixN xs.length i with
  | none => rw [h] at e; simp at e
  | some j =>
    rw [h] at e
    exact r.get e
@[simp] def gIx : PyData → PyData → (PyData → Prop) → Prop := fun x y Φ => ∃ i, y = .int i ∧ match x with
  | .list xs => ∃ z, atI xs i = some z ∧ Φ z
  | .tuple xs => ∃ z, atI xs i = some z ∧ Φ z
  | .str s => s.length ≤ sizeLine ∧ ∃ c, atI s.cps.toList i = some c ∧ Φ (.str ⟨#[c]⟩)
  | _ => False
theorem sm_ix (ha : Sm C f ta da) (hb : Sm C f2 tb db) : Sm C f (tOp (rIx C.K) ta tb) (dOp gIx da db) := fun σ δ H0 H Φ Q s w q =>
  ha σ δ H0 H _ _ s w fun H01 H1 v x g1 r1 w1 => hb σ δ H01 H1 _ _ (s.go g1) w1 fun H02 H2 u y g2 r2 w2 => by
    obtain ⟨i, rfl, w2⟩ := w2
    cases r2
    have r3 := r1.mono g2.loc
    cases r3 with
    | lst h r =>
      obtain ⟨z, e, p⟩ := w2
      obtain ⟨v, e1, rv⟩ := atI_rp r e
      exact .inl ⟨_, _, i, v, rfl, rfl, SqL.of (g2.wf.loc _ _ h), e1, q H02 H2 v z (g1.trans g2) rv p⟩
    | tup h r =>
      obtain ⟨z, e, p⟩ := w2
      obtain ⟨v, e1, rv⟩ := atI_rp r e
      exact .inr (.inl ⟨_, _, i, v, rfl, rfl, same_t g2.wf.loc h, e1, q H02 H2 v z (g1.trans g2) rv p⟩)
    | str t =>
      obtain ⟨e0, c, e, p⟩ := w2
      exact .inr (.inr ⟨t, i, c, rfl, rfl, e0, e, q H02 H2 _ _ (g1.trans g2) (.str _) p⟩)
    | _ => exact w2.elim
@[simp] def dUn (g : Int → PyData) (da : DE) : DE := fun δ Φ => da δ fun x => ∃ i, x = .int i ∧ Φ (g i)
theorem sm_un {g : Int → V} {g' : Int → PyData} (h : ∀ i, isScalV (g i) = some (g' i)) (ha : Sm C f1 ta da) : Sm C f (tUn (rU g) ta) (dUn g' da) := fun σ δ H0 H Φ Q s w q =>
  ha σ δ H0 H _ _ s w fun H01 H1 v x g1 r1 ⟨i, e, p⟩ => by
    subst e
    cases r1
    exact ⟨i, rfl, q H01 H1 _ _ g1 (isScal_rp (h i) _) p⟩

/-! ### argument lists, displays, calls -/
@[simp] def dNil : DA := fun _ Φ => Φ []
@[simp] def dCons (da : DE) (ds : DA) : DA := fun δ Φ => da δ fun x => ds δ fun xs => Φ (x :: xs)
theorem sma_nil : SmA C f tNil dNil := fun σ δ H0 H Φ Q s w q => q H0 H _ _ (.refl s.toWf) .nil w
theorem sma_cons (ha : Sm C f ta da) (hb : SmA C f tas das) : SmA C f (tCons ta tas) (dCons da das) := fun σ δ H0 H Φ Q s w q =>
  ha σ δ H0 H _ _ s w fun H01 H1 v x g1 r1 w1 => hb σ δ H01 H1 _ _ (s.go g1) w1 fun H02 H2 us ys g2 r2 w2 =>
    q H02 H2 _ _ (g1.trans g2) (.cons (r1.mono g2.loc) r2) w2
@[simp] def dTup (ds : DA) : DE := fun δ Φ => ds δ fun xs => xs.length ≤ sizeLine ∧ Φ (.tuple xs)
theorem Go.same_new {p : Addr} {o : HO} (h0 : H0 p = none) : Same H0 (upd H0 p o) := fun b u q => by rw [upd_ne (fun z => by rw [z, h0] at q; cases q)]; exact q
theorem Wf.none (w : Wf C H0 H) {p : Addr} (hp : H p = Option.none) : H0 p = Option.none := by
  cases q : H0 p with
  | none => rfl
  | some u => rw [w.sub p u q] at hp; cases hp
theorem sm_tup (ha : SmA C true tas das) : Sm C f (tTup tas) (dTup das) := fun σ δ H0 H Φ Q s w q =>
  ha σ δ H0 H _ _ s w fun H01 H1 vs xs g1 r1 ⟨e, p⟩ => ⟨by rw [r1.length]; exact e, fun l hl => by
    have g2 := Go.new (o := .tup vs) g1.wf hl
    refine q _ _ _ _ (g1.trans g2) ?_ p
    exact Rp.mono g2.wf.to (.tup (SqT.of upd_same) (r1.mono (Go.same_new (g1.wf.none hl))))⟩
@[simp] def oLst (ds : DA) : DO := fun δ Φ => ds δ fun xs => xs.length ≤ sizeLine ∧ Φ xs
theorem smo_lst (ha : SmA C true tas das) : SmO C (tLst tas) (oLst das) := fun σ δ H0 H Φ Q s w q =>
  ha σ δ H0 H _ _ s w fun H01 H1 vs xs g1 r1 ⟨e, p⟩ => ⟨by rw [r1.length]; exact e, fun l hl => by
    have g2 := Go.free (o := .lst vs) g1.wf hl
    refine q _ _ l vs xs (g1.trans g2) ?_ (g1.wf.none hl) upd_same r1 p
    cases z : H l with
    | none => rfl
    | some u =>
      by_cases n : C.ex = some l
      · obtain ⟨_, k1⟩ := (g1.wf.dr l n).live
        rw [hl] at k1; cases k1
      · rw [g1.kp l u n z] at hl; cases hl⟩
/-- a new list as data -/
@[simp] def dO (o : DO) : DE := fun δ Φ => o δ fun xs => Φ (.list xs)
theorem SmO.sm {o : DO} (h : SmO C te o) : Sm C f te (dO o) := fun σ δ H0 H Φ Q s w q =>
  h σ δ H0 H _ _ s w fun H01 H1 a vs xs g1 e1 e2 e3 r p => by
    have g2 := Go.frz s.toWf g1 e1 e2 e3
    refine q _ _ _ _ g2 (Rp.mono g2.wf.to ?_) p
    exact .lst upd_same (r.mono (Go.same_new e2))
/-- a new list, its elements from others -/
@[simp] def oCat (da db : DE) : DO := fun δ Φ => da δ fun x => db δ fun y => ∃ xs ys, x = .list xs ∧ y = .list ys ∧ xs.length + ys.length ≤ sizeLine ∧ Φ (xs ++ ys)
theorem Go.fresh {p : Addr} (g : Go C H0 H H0' H') (hp : H' p = none) : H p = none := by
  cases z : H p with
  | none => rfl
  | some u =>
    by_cases n : C.ex = some p
    · obtain ⟨_, k1⟩ := (g.wf.dr p n).live
      rw [hp] at k1; cases k1
    · rw [g.kp p u n z] at hp; cases hp
theorem smo_cat (ha : Sm C true ta da) (hb : Sm C true tb db) : SmO C (tOp rCat ta tb) (oCat da db) := fun σ δ H0 H Φ Q s w q =>
  ha σ δ H0 H _ _ s w fun H01 H1 v x g1 r1 w1 => hb σ δ H01 H1 _ _ (s.go g1) w1 fun H02 H2 u y g2 r2 ⟨xs, ys, e1, e2, e3, p⟩ => by
    subst e1 e2
    have r3 := r1.mono g2.fz
    cases r3 with
    | @lst a1 us1 _ h r =>
      cases r2 with
      | @lst a2 us2 _ h' r' =>
        refine ⟨_, _, _, _, rfl, rfl, g2.wf.sub _ _ h, g2.wf.sub _ _ h', by rw [r.length, r'.length]; exact e3, fun l hl => ?_⟩
        have g3 := Go.free (o := .lst (us1 ++ us2)) g2.wf hl
        exact q _ _ l _ _ ((g1.trans g2).trans g3) ((g1.trans g2).fresh hl) (g2.wf.none hl) upd_same (r.append r') p
@[simp] def oList (da : DE) : DO := fun δ Φ => da δ fun x => ∃ xs, seqOf x = some xs ∧ Φ xs
theorem smo_list (ha : Sm C true ta da) : SmO C (tCB (fun xs H Q => ∃ p ys, xs = [.ref p] ∧ (SqL C.K H p ys ∨ SqT C.K H p ys) ∧ ∀ l, H l = none → Q (.ref l) (upd H l (.lst ys))) (tCons ta tNil)) (oList da) := fun σ δ H0 H Φ Q s w q =>
  ha σ δ H0 H _ _ s w fun H01 H1 v x g1 r1 ⟨xs, e, p⟩ => by
    cases r1 with
    | lst h r =>
      simp [seqOf] at e
      subst e
      exact ⟨_, _, rfl, .inl (SqL.of (g1.wf.sub _ _ h)), fun l hl => q _ _ l _ _ (g1.trans (Go.free (o := .lst _) g1.wf hl)) (g1.fresh hl) (g1.wf.none hl) upd_same r p⟩
    | tup h r =>
      simp [seqOf] at e
      subst e
      exact ⟨_, _, rfl, .inr (same_t g1.wf.sub h), fun l hl => q _ _ l _ _ (g1.trans (Go.free (o := .lst _) g1.wf hl)) (g1.fresh hl) (g1.wf.none hl) upd_same r p⟩
    | _ => simp [seqOf] at e
/-- tuple(x) -/
@[simp] def dTuple (da : DE) : DE := fun δ Φ => da δ fun x => ∃ xs, seqOf x = some xs ∧ Φ (.tuple xs)
/-- the elements of a list that is looked at, kept in the frozen part -/
theorem sm_tuple (ha : Sm C true ta da) : Sm C f (tCB (fun xs H Q => ∃ p ys, xs = [.ref p] ∧ ((SqL C.K H p ys ∧ ∀ l, H l = none → Q (.ref l) (upd H l (.tup ys))) ∨ (SqT C.K H p ys ∧ Q (.ref p) H))) (tCons ta tNil)) (dTuple da) := fun σ δ H0 H Φ Q s w q =>
  ha σ δ H0 H _ _ s w fun H01 H1 v x g1 r1 ⟨xs, e, p⟩ => by
    cases r1 with
    | @lst a1 us1 _ h r =>
      simp [seqOf] at e
      subst e
      refine ⟨_, _, rfl, .inl ⟨SqL.of (g1.wf.sub _ _ h), fun l hl => ?_⟩⟩
      have g2 := Go.new (o := .tup us1) g1.wf hl
      exact q _ _ _ _ (g1.trans g2) (Rp.mono g2.wf.to (.tup (SqT.of upd_same) (r.mono (Go.same_new (g1.wf.none hl))))) p
    | tup h r =>
      simp [seqOf] at e
      subst e
      exact ⟨_, _, rfl, .inr ⟨same_t g1.wf.sub h, q _ _ _ _ g1 (Rp.mono g1.wf.to (.tup h r)) p⟩⟩
    | _ => simp [seqOf] at e
/-- a built-in on data, its answer scalar -/
def CbD (C : Ctx) (r : List V → Hp → VK → Prop) (g : List PyData → (PyData → Prop) → Prop) : Prop := ∀ (H : Hp) (vs : List V) (xs : List PyData) (Φ : PyData → Prop) (Q : VK), RpA C.K H vs xs → g xs Φ → (∀ w z, (∀ H, Rp C.K H w z) → Φ z → Q w H) → r vs H Q
@[simp] def dCB (g : List PyData → (PyData → Prop) → Prop) (ds : DA) : DE := fun δ Φ => ds δ fun xs => g xs Φ
theorem sm_cb {r : List V → Hp → VK → Prop} {g : List PyData → (PyData → Prop) → Prop} (hr : CbD C r g) (ha : SmA C f1 tas das) : Sm C f (tCB r tas) (dCB g das) := fun σ δ H0 H Φ Q s w q =>
  ha σ δ H0 H _ _ s w fun H01 H1 vs xs g1 r1 w1 => hr H1 vs xs Φ Q (r1.mono g1.wf.loc) w1 fun w' z hz p => q _ _ w' z g1 (hz _) p
@[simp] def gLen : List PyData → (PyData → Prop) → Prop := fun xs Φ => ∃ x, xs = [x] ∧ match x with
  | .list ys => Φ (.int ys.length)
  | .tuple ys => Φ (.int ys.length)
  | .str s => s.length ≤ sizeLine ∧ Φ (.int s.length)
  | _ => False
theorem cbd_len : CbD C (fun xs H Q => ∃ x n, xs = [x] ∧ LenV C.K x H n ∧ Q (.int n) H) gLen := fun H vs xs Φ Q r ⟨x, e, p⟩ q => by
  subst e
  cases r with
  | cons h n =>
    cases n
    cases h with
    | lst h r => exact ⟨_, _, rfl, .inl ⟨_, SqL.of h, rfl⟩, by rw [r.length]; exact q _ _ (fun _ => .int _) p⟩
    | tup h r => exact ⟨_, _, rfl, .inr ⟨_, h, rfl⟩, by rw [r.length]; exact q _ _ (fun _ => .int _) p⟩
    | str t => exact ⟨_, _, rfl, ⟨p.1, rfl⟩, q _ _ (fun _ => .int _) p.2⟩
    | _ => exact p.elim
@[simp] def gAbs : List PyData → (PyData → Prop) → Prop := fun xs Φ => ∃ i, xs = [.int i] ∧ Φ (.int (if i < 0 then -i else i))
theorem cbd_abs : CbD C (fun xs H Q => ∃ i, xs = [.int i] ∧ Q (.int (if i < 0 then -i else i)) H) gAbs := fun H vs xs Φ Q r ⟨i, e, p⟩ q => by
  subst e
  cases r with
  | cons h n => cases n; cases h; exact ⟨i, rfl, q _ _ (fun _ => .int _) p⟩
@[simp] def gMax : List PyData → (PyData → Prop) → Prop := fun xs Φ => ∃ i j, xs = [.int i, .int j] ∧ Φ (.int (if j > i then j else i))
theorem cbd_max : CbD C (fun xs H Q => ∃ i j, xs = [.int i, .int j] ∧ Q (.int (if j > i then j else i)) H) gMax := fun H vs xs Φ Q r ⟨i, j, e, p⟩ q => by
  subst e
  cases r with
  | cons h n => cases h; cases n with | cons h n => cases n; cases h; exact ⟨i, j, rfl, q _ _ (fun _ => .int _) p⟩
@[simp] def gMin : List PyData → (PyData → Prop) → Prop := fun xs Φ => ∃ i j, xs = [.int i, .int j] ∧ Φ (.int (if j < i then j else i))
theorem cbd_min : CbD C (fun xs H Q => ∃ i j, xs = [.int i, .int j] ∧ Q (.int (if j < i then j else i)) H) gMin := fun H vs xs Φ Q r ⟨i, j, e, p⟩ q => by
  subst e
  cases r with
  | cons h n => cases h; cases n with | cons h n => cases n; cases h; exact ⟨i, j, rfl, q _ _ (fun _ => .int _) p⟩
@[simp] def gInt : List PyData → (PyData → Prop) → Prop := fun xs Φ => ∃ x, xs = [x] ∧ match x with
  | .int i => Φ (.int i)
  | .bool k => Φ (.int (if k then 1 else 0))
  | _ => False
theorem cbd_int : CbD C (fun xs H Q => (∃ i, xs = [.int i] ∧ Q (.int i) H) ∨ ∃ k, xs = [.bl k] ∧ Q (.int (if k then 1 else 0)) H) gInt := fun H vs xs Φ Q r ⟨x, e, p⟩ q => by
  subst e
  cases r with
  | cons h n =>
    cases n
    cases h with
    | int i => exact .inl ⟨i, rfl, q _ _ (fun _ => .int _) p⟩
    | bl k => exact .inr ⟨k, rfl, q _ _ (fun _ => .int _) p⟩
    | _ => exact p.elim
@[simp] def gStr : List PyData → (PyData → Prop) → Prop := fun xs Φ => ∃ i, xs = [.int i] ∧ i.natAbs.log2 < 1920 ∧ Φ (.str (toString i))
theorem cbd_str : CbD C (fun xs H Q => ∃ i, xs = [.int i] ∧ i.natAbs.log2 < 1920 ∧ Q (.str (toString i)) H) gStr := fun H vs xs Φ Q r ⟨i, e, e2, p⟩ q => by
  subst e
  cases r with
  | cons h n => cases n; cases h; exact ⟨i, rfl, e2, q _ _ (fun _ => .str _) p⟩
/-- isinstance of data -/
def tyD : PyData → String
  | .none => "NoneType"
  | .bool _ => "bool"
  | .int _ => "int"
  | .str _ => "str"
  | .list _ => "list"
  | .tuple _ => "tuple"
  | .dict _ => "dict"
@[simp] def dIsi (n : String) (da : DE) : DE := fun δ Φ => da δ fun x => ∃ b, kitB (tyD x) n = some b ∧ Φ (.bool b)
theorem tyD_rp {K : PySem.W.Frag} {v : V} {x : PyData} (h : Rp K H v x) : TyX K H v (.type (tyD x)) := by
  cases h with
  | non => exact .base .non
  | bl b => exact .base (.bl b)
  | int b => exact .base (.int b)
  | str b => exact .base (.str b)
  | lst h _ => exact .base (.lst h)
  | dic h _ => exact .fDict h
  | tup h _ =>
    rcases h with (h | ⟨o, h⟩) | ⟨o, its, n, h, c, _⟩
    · exact .base (.tup h)
    · exact .fTuple h
    · exact .kTuple h c
theorem sm_isi (n : String) (ha : Sm C f1 ta da) : Sm C f (tCB (rIsi C.K) (tCons ta (tCons (tC (.ty n)) tNil))) (dIsi n da) := fun σ δ H0 H Φ Q s w q =>
  ha σ δ H0 H _ _ s w fun H01 H1 v x g1 r1 ⟨b, e, p⟩ =>
    ⟨v, .ty n, _, _, b, rfl, .ty n, tyD_rp (r1.mono g1.wf.loc), kit_ty e, q _ _ _ _ g1 (.bl b) p⟩

/-! ### values by tests -/
@[simp] def dIf (dt : DT) (da db : DE) : DE := fun δ Φ => dt δ fun b => if b = true then da δ Φ else db δ Φ
theorem sm_if (ht : SmT C tt dt) (ha : Sm C f ta da) (hb : Sm C f tb db) : Sm C f (tIf tt ta tb) (dIf dt da db) := fun σ δ H0 H Φ Q s w q =>
  ht σ δ H0 H _ _ s w fun H01 H1 b g1 w1 => by
    cases b with
    | true => exact iteT (ha σ δ H01 H1 Φ Q (s.go g1) (by simpa using w1) fun H02 H2 v x g2 r p => q _ _ _ _ (g1.trans g2) r p)
    | false => exact iteF (hb σ δ H01 H1 Φ Q (s.go g1) (by simpa using w1) fun H02 H2 v x g2 r p => q _ _ _ _ (g1.trans g2) r p)
@[simp] def dAndV (da db : DE) : DE := fun δ Φ => da δ fun x => ∃ c, x = .bool c ∧ if c = true then db δ Φ else Φ (.bool false)
theorem sm_and (ha : Sm C f1 ta da) (hb : Sm C f tb db) : Sm C f (tAndV ta tb) (dAndV da db) := fun σ δ H0 H Φ Q s w q =>
  ha σ δ H0 H _ _ s w fun H01 H1 v x g1 r1 ⟨c, e, w1⟩ => by
    subst e
    cases r1
    refine ⟨c, rfl, ?_⟩
    cases c with
    | true => exact iteT (hb σ δ H01 H1 Φ Q (s.go g1) (by simpa using w1) fun H02 H2 v x g2 r p => q _ _ _ _ (g1.trans g2) r p)
    | false => exact iteF (q _ _ _ _ g1 (.bl false) (by simpa using w1))
@[simp] def dOrV (da db : DE) : DE := fun δ Φ => da δ fun x => ∃ c, x = .bool c ∧ if c = true then Φ (.bool true) else db δ Φ
theorem sm_or (ha : Sm C f1 ta da) (hb : Sm C f tb db) : Sm C f (tOrV ta tb) (dOrV da db) := fun σ δ H0 H Φ Q s w q =>
  ha σ δ H0 H _ _ s w fun H01 H1 v x g1 r1 ⟨c, e, w1⟩ => by
    subst e
    cases r1
    refine ⟨c, rfl, ?_⟩
    cases c with
    | false => exact iteF (hb σ δ H01 H1 Φ Q (s.go g1) (by simpa using w1) fun H02 H2 v x g2 r p => q _ _ _ _ (g1.trans g2) r p)
    | true => exact iteT (q _ _ _ _ g1 (.bl true) (by simpa using w1))
@[simp] def dNotV (da : DE) : DE := fun δ Φ => da δ fun x => ∃ c, x = .bool c ∧ Φ (.bool (!c))
theorem sm_not (ha : Sm C f1 ta da) : Sm C f (tNotV ta) (dNotV da) := fun σ δ H0 H Φ Q s w q =>
  ha σ δ H0 H _ _ s w fun H01 H1 v x g1 r1 ⟨c, e, w1⟩ => by
    subst e
    cases r1
    exact ⟨c, rfl, q _ _ _ _ g1 (.bl _) w1⟩

/-! ### tests -/
@[simp] def dB (da : DE) : DT := fun δ Φ => da δ fun x => ∃ c, x = .bool c ∧ Φ c
theorem smt_b (ha : Sm C f1 ta da) : SmT C (tB ta) (dB da) := fun σ δ H0 H Φ Q s w q =>
  ha σ δ H0 H _ _ s w fun H01 H1 v x g1 r1 ⟨c, e, w1⟩ => by
    subst e
    cases r1
    exact ⟨c, rfl, q _ _ _ g1 w1⟩
theorem smt_t (ha : Sm C f1 ta da) : SmT C (tTest ta) (dB da) := fun σ δ H0 H Φ Q s w q =>
  ha σ δ H0 H _ _ s w fun H01 H1 v x g1 r1 ⟨c, e, w1⟩ => by
    subst e
    cases r1
    exact ⟨c, rfl, q _ _ _ g1 w1⟩
@[simp] def dAnd (dt du : DT) : DT := fun δ Φ => dt δ fun c => if c = true then du δ Φ else Φ false
theorem smt_and (ht : SmT C tt dt) (hu : SmT C tu du) : SmT C (tAnd tt tu) (dAnd dt du) := fun σ δ H0 H Φ Q s w q =>
  ht σ δ H0 H _ _ s w fun H01 H1 b g1 w1 => by
    cases b with
    | true => exact iteT (hu σ δ H01 H1 Φ Q (s.go g1) (by simpa using w1) fun H02 H2 c g2 p => q _ _ _ (g1.trans g2) p)
    | false => exact iteF (q _ _ _ g1 (by simpa using w1))
@[simp] def dOr (dt du : DT) : DT := fun δ Φ => dt δ fun c => if c = true then Φ true else du δ Φ
theorem smt_or (ht : SmT C tt dt) (hu : SmT C tu du) : SmT C (tOr tt tu) (dOr dt du) := fun σ δ H0 H Φ Q s w q =>
  ht σ δ H0 H _ _ s w fun H01 H1 b g1 w1 => by
    cases b with
    | false => exact iteF (hu σ δ H01 H1 Φ Q (s.go g1) (by simpa using w1) fun H02 H2 c g2 p => q _ _ _ (g1.trans g2) p)
    | true => exact iteT (q _ _ _ g1 (by simpa using w1))
@[simp] def dNot (dt : DT) : DT := fun δ Φ => dt δ fun c => Φ (!c)
theorem smt_not (ht : SmT C tt dt) : SmT C (tNot tt) (dNot dt) := fun σ δ H0 H Φ Q s w q =>
  ht σ δ H0 H _ _ s w fun H01 H1 b g1 w1 => q _ _ _ g1 w1
end
end VL

namespace VL
open PySem L2
section
variable {C : Ctx} {H0 H H0' H' H0'' H'' : Hp} {σ : L2.St} {δ : Dl} {v : V} {x : PyData} {f : Bool}
variable {te ta tb tc : TE} {de da db dc : DE} {tt tu : TT} {dt du : DT} {tas : TA} {das : DA} {f1 f2 : Bool}
/-! ### calls -/
def RRa (K : PySem.W.Frag) (ex : Option Addr) (H0 : Hp) (v : V) : R → Prop
  | .d x => Rp K H0 v x
  | .own _ _ => False
  | .drw => ∃ p, ex = some p ∧ v = .ref p
  | .raw u => v = u
  | .scr ns => ∃ a, v = .ref a ∧ SqL K H0 a (ns.map V.int)
  | .fn F => ∃ f c, v = .ref f ∧ H0 f = some (LamO f F c) ∧ H0 c = some (LamX.CodeO c F.qual)
  | .dct _ _ => False
theorem RRa.mono {K : PySem.W.Frag} {ex : Option Addr} {r : R} (h : RRa K ex H0 v r) (e : Same H0 H0') : RRa K ex H0' v r := by
  cases r with
  | d x => exact Rp.mono e h
  | own a xs => exact h
  | drw => exact h
  | raw u => exact h
  | scr ns => obtain ⟨a, e', q⟩ := h; exact ⟨a, e', e.seq q⟩
  | fn F => obtain ⟨a, c, e', q, q2⟩ := h; exact ⟨a, c, e', e _ _ q, e _ _ q2⟩
  | dct a es => exact h
inductive RRas (K : PySem.W.Frag) (ex : Option Addr) (H0 : Hp) : List V → List R → Prop
  | nil : RRas K ex H0 [] []
  | cons {v : V} {r : R} {vs : List V} {rs : List R} : RRa K ex H0 v r → RRas K ex H0 vs rs → RRas K ex H0 (v :: vs) (r :: rs)
theorem RRas.length {K : PySem.W.Frag} {ex : Option Addr} : ∀ {vs : List V} {rs : List R}, RRas K ex H0 vs rs → vs.length = rs.length
  | _, _, .nil => rfl
  | _, _, .cons _ r => by rw [List.length_cons, List.length_cons, RRas.length r]
theorem RRas.get {K : PySem.W.Frag} {ex : Option Addr} : ∀ {vs : List V} {rs : List R} {i : Nat} {r : R}, RRas K ex H0 vs rs → rs[i]? = some r → ∃ v, vs[i]? = some v ∧ RRa K ex H0 v r
  | _, _, _, _, .nil, e => by simp at e
  | _, _, 0, _, .cons h _, e => by simp at e; subst e; exact ⟨_, rfl, h⟩
  | _, _, i + 1, _, .cons _ r, e => by
    obtain ⟨v, h1, h2⟩ := RRas.get (i := i) r (by simpa using e)
    exact ⟨v, by simpa using h1, h2⟩
def SmQ (C : Ctx) (ta : TA) (da : DR) : Prop := ∀ (σ : L2.St) (δ : Dl) (H0 H : Hp) (Φ : List R → Prop) (Q : List V → Hp → Prop), St C H0 H σ δ → da δ Φ →
  (∀ H0' H' vs rs, Go C H0 H H0' H' → RRas C.K C.ex H0' vs rs → Φ rs → Q vs H') → ta σ H Q
@[simp] def qNil : DR := fun _ Φ => Φ []
@[simp] def qCons (da : DE) (ds : DR) : DR := fun δ Φ => da δ fun x => ds δ fun xs => Φ (.d x :: xs)
@[simp] def qDrw (i : Nat) (ds : DR) : DR := fun δ Φ => δ[i]? = some (some .drw) ∧ ds δ fun xs => Φ (.drw :: xs)
variable {dqs : DR}
theorem smq_nil : SmQ C tNil qNil := fun σ δ H0 H Φ Q s w q => q H0 H _ _ (.refl s.toWf) .nil w
theorem smq_cons (ha : Sm C true ta da) (hb : SmQ C tas dqs) : SmQ C (tCons ta tas) (qCons da dqs) := fun σ δ H0 H Φ Q s w q =>
  ha σ δ H0 H _ _ s w fun H01 H1 v x g1 r1 w1 => hb σ δ H01 H1 _ _ (s.go g1) w1 fun H02 H2 us ys g2 r2 w2 =>
    q H02 H2 _ _ (g1.trans g2) (RRas.cons (r := R.d x) (Rp.mono g2.fz r1) r2) w2
theorem smq_drw (i : Nat) (hb : SmQ C tas dqs) : SmQ C (tCons (tVar i) tas) (qDrw i dqs) := fun σ δ H0 H Φ Q s ⟨e, w⟩ q => by
  obtain ⟨v, e1, p, h1, h2⟩ := s.sl i _ e
  exact ⟨v, e1, hb σ δ H0 H _ _ s w fun H02 H2 us ys g2 r2 w2 => q H02 H2 _ _ g2 (RRas.cons (r := R.drw) ⟨p, h1, h2⟩ r2) w2⟩

@[simp] def qScr (i : Nat) (ds : DR) : DR := fun δ Φ => ∃ ns, δ[i]? = some (some (.scr ns)) ∧ ds δ fun xs => Φ (.scr ns :: xs)
theorem smq_scr (i : Nat) (hb : SmQ C tas dqs) : SmQ C (tCons (tVar i) tas) (qScr i dqs) := fun σ δ H0 H Φ Q s ⟨ns, e, w⟩ q => by
  obtain ⟨v, e1, a, h1, h2⟩ := s.sl i _ e
  exact ⟨v, e1, hb σ δ H0 H _ _ s w fun H02 H2 us ys g2 r2 w2 => q H02 H2 _ _ g2 (RRas.cons (r := R.scr ns) ⟨a, h1, g2.fz.seq h2⟩ r2) w2⟩

/-- what a def answers, by data -/
abbrev VSp := List R → (RX → Prop) → Prop
def RXR (C : Ctx) (H0 H : Hp) (v : V) : RX → Prop
  | .d x => Rp C.K H0 v x
  | .own xs => ∃ a vs, v = .ref a ∧ H0 a = none ∧ C.He a = none ∧ C.ex ≠ some a ∧ H a = some (.lst vs) ∧ RpA C.K H0 vs xs
def RX.data : RX → PyData
  | .d x => x
  | .own xs => .list xs
@[simp] theorem data_d (x : PyData) : (RX.d x).data = x := rfl
@[simp] theorem data_own (xs : List PyData) : (RX.own xs).data = .list xs := rfl
def toSp (K : PySem.W.Frag) (n : Nat) (p : VSp) : Sp := fun vs H Q _ => vs.length = n ∧ ∃ (ex : Option Addr) (H0 : Hp) (rs : List R) (Φ : RX → Prop), Wf ⟨K, ex, H, H0⟩ H0 H ∧ RRas K ex H0 vs rs ∧ p rs Φ ∧
  ∀ H0' H' v r, Wf ⟨K, ex, H, H0⟩ H0' H' → RXR ⟨K, ex, H, H0⟩ H0' H' v r → Φ r → Q v H'
theorem Wf.inner (w : Wf C H0 H) : Wf ⟨C.K, C.ex, H, H0⟩ H0 H := ⟨w.sub, fun _ _ _ e => e, Same.refl _, fun _ _ e => .inl e, fun p e => (w.dr p e).in_⟩
theorem Go.outer (w : Wf C H0 H) (g : Wf ⟨C.K, C.ex, H, H0⟩ H0' H') : Go C H0 H H0' H' := by
  refine ⟨⟨g.sub, fun b o n e => g.kp b o n (w.kp b o n e), w.fz.trans g.fz, fun b o e => ?_, fun p e => (w.dr p e).out (g.dr p e)⟩, g.fz, g.kp, fun b o e => ?_⟩
  · rcases g.nw b o e with z | z
    · exact w.nw b o z
    · cases q : C.He b with
      | none => exact .inr rfl
      | some y =>
        by_cases n : C.ex = some b
        · have k := (g.dr b n).no
          rw [e] at k; cases k
        · have := w.kp b y n q
          have z : H b = none := z
          rw [this] at z; cases z
  · exact g.nw b o e
@[simp] def dCall (p : VSp) (ds : DR) : DE := fun δ Φ => ds δ fun rs => p rs fun r => Φ r.data
theorem sm_call {n : Nat} {p : VSp} {E : XK} (hp : ∀ rs Φ, p rs Φ → rs.length = n) (ha : SmQ C tas dqs) : Sm C f (tCall (toSp C.K n p) [] E tas) (dCall p dqs) := fun σ δ H0 H Φ Q s w q =>
  ha σ δ H0 H _ _ s w fun H01 H1 vs rs g1 r1 w1 => by
    show toSp C.K n p (vs ++ []) H1 Q E
    rw [List.append_nil]
    refine ⟨by rw [r1.length]; exact hp _ _ w1, C.ex, H01, rs, _, g1.wf.inner, r1, w1, fun H02 H2 v r g2 h2 p2 => ?_⟩
    have g3 := Go.outer g1.wf g2
    cases r with
    | d x => exact q _ _ _ _ (g1.trans g3) (Rp.mono g3.wf.to h2) p2
    | own xs =>
      obtain ⟨a, us, rfl, k1, k2, k3, k4, k5⟩ := h2
      have g4 := Go.frz s.toWf (g1.trans g3) (g1.fresh k2) k1 k4
      exact q _ _ _ _ g4 (Rp.mono g4.wf.to (.lst upd_same (k5.mono (Go.same_new k1)))) p2
@[simp] def oCall (p : VSp) (ds : DR) : DO := fun δ Φ => ds δ fun rs => p rs fun r => ∃ xs, r = .own xs ∧ Φ xs
theorem smo_call {n : Nat} {p : VSp} {E : XK} (hp : ∀ rs Φ, p rs Φ → rs.length = n) (ha : SmQ C tas dqs) : SmO C (tCall (toSp C.K n p) [] E tas) (oCall p dqs) := fun σ δ H0 H Φ Q s w q =>
  ha σ δ H0 H _ _ s w fun H01 H1 vs rs g1 r1 w1 => by
    show toSp C.K n p (vs ++ []) H1 Q E
    rw [List.append_nil]
    refine ⟨by rw [r1.length]; exact hp _ _ w1, C.ex, H01, rs, _, g1.wf.inner, r1, w1, fun H02 H2 v r g2 h2 p2 => ?_⟩
    have g3 := Go.outer g1.wf g2
    obtain ⟨xs, rfl, p2⟩ := p2
    obtain ⟨a, us, rfl, k1, k2, k3, k4, k5⟩ := h2
    exact q _ _ _ _ _ (g1.trans g3) (g1.fresh k2) k1 k4 k5 p2

/-! ### what is walked -/
structure Wk (C : Ctx) (J : It) (H0 : Hp) (xs : List PyData) : Prop where
  stop : ∀ (H0' H' : Hp) (i : Nat), Same H0 H0' → Wf C H0' H' → xs.length = i → J.stop i H'
  go : ∀ (H0' H' : Hp) (i : Nat), Same H0 H0' → Wf C H0' H' → i < xs.length → J.go i H'
  yld : ∀ (H0' H' : Hp) (i : Nat) (v : V) (H'' : Hp), Same H0 H0' → Wf C H0' H' → i < xs.length → J.yld i H' v H'' → ∃ H0'' y, Go C H0' H' H0'' H'' ∧ xs[i]? = some y ∧ Rp C.K H0'' v y
abbrev DI := Dl → (List PyData → Prop) → Prop
def SmI (C : Ctx) (ti : TI) (di : DI) : Prop := ∀ (σ : L2.St) (δ : Dl) (H0 H : Hp) (Φ : List PyData → Prop) (R : It → Hp → Prop), St C H0 H σ δ → di δ Φ →
  (∀ H0' H' J xs, Go C H0 H H0' H' → Wk C J H0' xs → Φ xs → R J H') → ti σ H R
theorem SqL.len_inj {K : PySem.W.Frag} {H : Hp} {a : Addr} {xs ys : List V} (h : H a = some (.lst xs)) (k : H a = some (.lst ys)) : xs = ys := by
  rw [h] at k; cases k; rfl
@[simp] def iL (da : DE) : DI := fun δ Φ => da δ fun x => ∃ xs, x = .list xs ∧ Φ xs
theorem get_lt {α : Type} {xs : List α} {i : Nat} (h : i < xs.length) : ∃ y, xs[i]? = some y := ⟨xs[i], List.getElem?_eq_getElem h⟩
theorem wk_list {a : Addr} {us : List V} {xs : List PyData} (h : H0 a = some (.lst us)) (r : RpA C.K H0 us xs) : Wk C (Itl C.K a) H0 xs := by
  refine ⟨fun H0' H' i e w hi0 => have hi := Nat.le_of_eq hi0; ⟨us, SqL.of (w.sub _ _ (e _ _ h)), by rw [r.length]; exact hi⟩, fun H0' H' i e w hi => ?_, fun H0' H' i v H'' e w hi y => ?_⟩
  · obtain ⟨y, hy⟩ := get_lt hi
    obtain ⟨v, h1, h2⟩ := r.get hy
    exact ⟨us, v, SqL.of (w.sub _ _ (e _ _ h)), h1⟩
  · obtain ⟨rfl, y⟩ := y
    obtain ⟨z, hz⟩ := get_lt hi
    obtain ⟨u, h1, h2⟩ := r.get hz
    have := y us (SqL.of (w.sub _ _ (e _ _ h)))
    rw [h1] at this
    cases this
    exact ⟨H0', z, .refl w, hz, h2.mono e⟩
theorem smi_list (ha : Sm C true ta da) : SmI C (iList C.K ta) (iL da) := fun σ δ H0 H Φ R s w q =>
  ha σ δ H0 H _ _ s w fun H01 H1 v x g1 r1 ⟨xs, e, p⟩ => by
    subst e
    cases r1 with
    | @lst a us _ h r => exact ⟨a, rfl, ⟨us, SqL.of (g1.wf.sub _ _ h)⟩, q _ _ _ _ g1 (wk_list h r) p⟩
/-- the script is walked -/
@[simp] def iScr (i : Nat) : DI := fun δ Φ => ∃ ns : List Int, δ[i]? = some (some (.scr ns)) ∧ Φ (ns.map .int)
theorem smi_scr (i : Nat) : SmI C (iList C.K (tVar i)) (iScr i) := fun σ δ H0 H Φ R s ⟨ns, e, w⟩ q => by
  obtain ⟨v, e1, a, rfl, hq⟩ := s.sl i _ e
  refine ⟨_, e1, a, rfl, ⟨_, s.toWf.sub.seq hq⟩, q H0 H _ _ (.refl s.toWf) ⟨fun H0' H' k e w hk => ?_, fun H0' H' k e w hk => ?_, fun H0' H' k v H'' e w hk y => ?_⟩ w⟩
  · exact ⟨_, w.sub.seq (e.seq hq), by simpa using Nat.le_of_eq hk⟩
  · rw [List.length_map] at hk
    exact ⟨_, .int ns[k], w.sub.seq (e.seq hq), by rw [List.getElem?_map, List.getElem?_eq_getElem hk]; rfl⟩
  · rw [List.length_map] at hk
    obtain ⟨rfl, y⟩ := y
    have := y _ (w.sub.seq (e.seq hq))
    rw [List.getElem?_map, List.getElem?_eq_getElem hk] at this
    cases this
    exact ⟨H0', .int ns[k], .refl w, by rw [List.getElem?_map, List.getElem?_eq_getElem hk]; rfl, .int _⟩
@[simp] def iT (da : DE) : DI := fun δ Φ => da δ fun x => ∃ xs, x = .tuple xs ∧ Φ xs
theorem wk_tup {a : Addr} {us : List V} {xs : List PyData} (h : SqT C.K H0 a us) (r : RpA C.K H0 us xs) : Wk C (Itt C.K a) H0 xs := by
  refine ⟨fun H0' H' i e w hi0 => have hi := Nat.le_of_eq hi0; ⟨us, same_t w.sub (same_t e h), by rw [r.length]; exact hi⟩, fun H0' H' i e w hi => ?_, fun H0' H' i v H'' e w hi y => ?_⟩
  · obtain ⟨y, hy⟩ := get_lt hi
    obtain ⟨v, h1, h2⟩ := r.get hy
    exact ⟨us, v, same_t w.sub (same_t e h), h1⟩
  · obtain ⟨rfl, y⟩ := y
    obtain ⟨z, hz⟩ := get_lt hi
    obtain ⟨u, h1, h2⟩ := r.get hz
    have := y us (same_t w.sub (same_t e h))
    rw [h1] at this
    cases this
    exact ⟨H0', z, .refl w, hz, h2.mono e⟩
theorem smi_tup (ha : Sm C true ta da) : SmI C (iTup C.K ta) (iT da) := fun σ δ H0 H Φ R s w q =>
  ha σ δ H0 H _ _ s w fun H01 H1 v x g1 r1 ⟨xs, e, p⟩ => by
    subst e
    cases r1 with
    | @tup a us _ h r => exact ⟨a, rfl, ⟨us, same_t g1.wf.sub h⟩, q _ _ _ _ g1 (wk_tup h r) p⟩
def rng (lo : Int) (n : Nat) : List PyData := (List.range n).map fun (k : Nat) => PyData.int (lo + (k : Int))
theorem rng_len (lo : Int) (n : Nat) : (rng lo n).length = n := by simp [rng]
theorem rng_get {lo : Int} {n i : Nat} {y : PyData} (h : (rng lo n)[i]? = some y) : i < n ∧ y = .int (lo + (i : Int)) := by
  unfold rng at h
  rw [List.getElem?_map] at h
  cases q : (List.range n)[i]? with
  | none => rw [q] at h; simp at h
  | some k =>
    rw [q] at h
    obtain ⟨a, b⟩ := List.getElem?_eq_some_iff.mp q
    simp at a b h
    subst b
    exact ⟨a, h.symm⟩
theorem rng_at {lo : Int} {n i : Nat} (h : i < n) : (rng lo n)[i]? = some (.int (lo + (i : Int))) := by
  unfold rng
  rw [List.getElem?_map, List.getElem?_range h]
  rfl
theorem wk_rng (lo : Int) (n : Nat) : Wk C (Itr lo n) H0 (rng lo n) := by
  refine ⟨fun H0' H' i e w hi0 => have hi := Nat.le_of_eq hi0; by rw [rng_len] at hi; exact hi, fun H0' H' i e w hi => by rw [rng_len] at hi; exact hi, fun H0' H' i v H'' e w hi y => ?_⟩
  rw [rng_len] at hi
  obtain ⟨rfl, rfl⟩ := y
  exact ⟨H0', _, .refl w, rng_at hi, .int _⟩
@[simp] def iR1 (da : DE) : DI := fun δ Φ => da δ fun x => ∃ j, x = .int j ∧ -(2 ^ 62) ≤ j ∧ j < 2 ^ 62 ∧ Φ (rng 0 j.toNat)
theorem smi_rng1 (ha : Sm C f1 ta da) : SmI C (iRng1 (tCons ta tNil)) (iR1 da) := fun σ δ H0 H Φ R s w q =>
  ha σ δ H0 H _ _ s w fun H01 H1 v x g1 r1 ⟨j, e, h1, h2, p⟩ => by
    subst e
    cases r1
    exact ⟨j, rfl, h1, h2, q _ _ _ _ g1 (wk_rng _ _) p⟩
@[simp] def iR2 (da db : DE) : DI := fun δ Φ => da δ fun x => db δ fun y => ∃ i j, x = .int i ∧ y = .int j ∧ (-(2 ^ 62) ≤ i ∧ i < 2 ^ 62 ∧ -(2 ^ 62) ≤ j ∧ j < 2 ^ 62) ∧ Φ (rng i (j - i).toNat)
theorem smi_rng2 (ha : Sm C f1 ta da) (hb : Sm C f2 tb db) : SmI C (iRng2 (tCons ta (tCons tb tNil))) (iR2 da db) := fun σ δ H0 H Φ R s w q =>
  ha σ δ H0 H _ _ s w fun H01 H1 v x g1 r1 w1 => hb σ δ H01 H1 _ _ (s.go g1) w1 fun H02 H2 u y g2 r2 ⟨i, j, e1, e2, h, p⟩ => by
    subst e1 e2
    cases r1
    cases r2
    exact ⟨i, j, rfl, h, q _ _ _ _ (g1.trans g2) (wk_rng _ _) p⟩
@[simp] def iRv (da : DE) : DI := fun δ Φ => da δ fun x => ∃ xs, x = .list xs ∧ Φ xs.reverse
theorem smi_rev (ha : Sm C true ta da) : SmI C (iRev C.K (tCons ta tNil)) (iRv da) := fun σ δ H0 H Φ R s w q =>
  ha σ δ H0 H _ _ s w fun H01 H1 v x g1 r1 ⟨xs, e, p⟩ => by
    subst e
    cases r1 with
    | @lst a us _ h r =>
      refine ⟨a, us, rfl, SqL.of (g1.wf.sub _ _ h), q _ _ _ _ g1 ⟨fun H0' H' i e w hi0 => have hi := Nat.le_of_eq hi0; ?_, fun H0' H' i e w hi => ?_, fun H0' H' i v H'' e w hi y => ?_⟩ p⟩
      · rw [List.length_reverse] at hi
        show us.length ≤ i
        rw [r.length]; exact hi
      · rw [List.length_reverse] at hi
        obtain ⟨y, hy⟩ := get_lt (show us.length - 1 - i < us.length by rw [r.length]; omega)
        exact ⟨by rw [r.length]; exact hi, us, y, SqL.of (w.sub _ _ (e _ _ h)), hy⟩
      · rw [List.length_reverse] at hi
        obtain ⟨rfl, y⟩ := y
        have y := y us (SqL.of (w.sub _ _ (e _ _ h)))
        obtain ⟨z, hz, rz⟩ := r.get' y
        refine ⟨H0', z, .refl w, ?_, rz.mono e⟩
        rw [List.getElem?_reverse hi, ← r.length]
        exact hz
/-- pairs (number, item) -/
def enumD (xs : List PyData) : List PyData := (List.range xs.length).zipWith (fun (i : Nat) (x : PyData) => PyData.tuple [.int (i : Int), x]) xs
theorem enumD_len (xs : List PyData) : (enumD xs).length = xs.length := by simp [enumD]
theorem enumD_get {xs : List PyData} {i : Nat} {x : PyData} (h : xs[i]? = some x) : (enumD xs)[i]? = some (.tuple [.int (i : Int), x]) := by
  have hi := (List.getElem?_eq_some_iff.mp h).1
  unfold enumD
  rw [List.getElem?_zipWith, List.getElem?_range hi, h]
@[simp] def iEn (da : DE) : DI := fun δ Φ => da δ fun x => ∃ xs, x = .list xs ∧ Φ (enumD xs)
theorem tup_new {p : Addr} {us : List V} {ys : List PyData} (w : Wf C H0 H) (hp : H p = none) (r : RpA C.K H0 us ys) : ∃ H0', Go C H0 H H0' (upd H p (.tup us)) ∧ Rp C.K H0' (.ref p) (.tuple ys) :=
  ⟨_, Go.new w hp, .tup (SqT.of upd_same) (r.mono (Go.same_new (w.none hp)))⟩
theorem smi_enum (ha : Sm C true ta da) : SmI C (iEnum C.K (tCons ta tNil)) (iEn da) := fun σ δ H0 H Φ R s w q =>
  ha σ δ H0 H _ _ s w fun H01 H1 v x g1 r1 ⟨xs, e, p⟩ => by
    subst e
    cases r1 with
    | @lst a us _ h r =>
      refine ⟨a, us, rfl, SqL.of (g1.wf.sub _ _ h), q _ _ _ _ g1 ⟨fun H0' H' i e w hi0 => have hi := Nat.le_of_eq hi0; ?_, fun H0' H' i e w hi => ?_, fun H0' H' i v H'' e w hi y => ?_⟩ p⟩
      · rw [enumD_len] at hi
        exact ⟨us, SqL.of (w.sub _ _ (e _ _ h)), by rw [r.length]; exact hi⟩
      · rw [enumD_len] at hi
        obtain ⟨y, hy⟩ := get_lt hi
        obtain ⟨v, h1, h2⟩ := r.get hy
        exact ⟨us, v, SqL.of (w.sub _ _ (e _ _ h)), h1⟩
      · rw [enumD_len] at hi
        obtain ⟨T, z, rfl, hT, rfl, y⟩ := y
        have y := y us (SqL.of (w.sub _ _ (e _ _ h)))
        obtain ⟨d, hd, rd⟩ := r.get' y
        obtain ⟨H0'', g, r2⟩ := tup_new w hT (.cons (.int (i : Int)) (.cons (rd.mono e) .nil))
        exact ⟨H0'', _, g, enumD_get hd, r2⟩
def zipD (xs ys : List PyData) : List PyData := xs.zipWith (fun x y => .tuple [x, y]) ys
@[simp] def iZp (da db : DE) : DI := fun δ Φ => da δ fun x => db δ fun y => ∃ xs ys, x = .list xs ∧ y = .list ys ∧ Φ (zipD xs ys)
theorem smi_zip (ha : Sm C true ta da) (hb : Sm C true tb db) : SmI C (iZip C.K (tCons ta (tCons tb tNil))) (iZp da db) := fun σ δ H0 H Φ R s w q =>
  ha σ δ H0 H _ _ s w fun H01 H1 v x g1 r1 w1 => hb σ δ H01 H1 _ _ (s.go g1) w1 fun H02 H2 u y g2 r2 ⟨xs, ys, e1, e2, p⟩ => by
    subst e1 e2
    have r3 := r1.mono g2.fz
    cases r3 with
    | @lst a us _ h r =>
      cases r2 with
      | @lst b ws _ h' r' =>
        refine ⟨a, b, us, ws, rfl, SqL.of (g2.wf.sub _ _ h), SqL.of (g2.wf.sub _ _ h'), q _ _ _ _ (g1.trans g2) ⟨fun H0' H' i e w hi0 => have hi := Nat.le_of_eq hi0; ?_, fun H0' H' i e w hi => ?_, fun H0' H' i v H'' e w hi y => ?_⟩ p⟩
        · unfold zipD at hi
          rw [List.length_zipWith] at hi
          refine ⟨us, ws, SqL.of (w.sub _ _ (e _ _ h)), SqL.of (w.sub _ _ (e _ _ h')), ?_⟩
          rw [r.length, r'.length]
          omega
        · unfold zipD at hi
          rw [List.length_zipWith] at hi
          obtain ⟨y1, hy1⟩ := get_lt (show i < xs.length by omega)
          obtain ⟨v1, h1, _⟩ := r.get hy1
          obtain ⟨y2, hy2⟩ := get_lt (show i < ys.length by omega)
          obtain ⟨v2, h2, _⟩ := r'.get hy2
          exact ⟨us, ws, v1, v2, SqL.of (w.sub _ _ (e _ _ h)), SqL.of (w.sub _ _ (e _ _ h')), h1, h2⟩
        · obtain ⟨T, x1, x2, rfl, hT, rfl, y1, y2⟩ := y
          have y1 := y1 us (SqL.of (w.sub _ _ (e _ _ h)))
          have y2 := y2 ws (SqL.of (w.sub _ _ (e _ _ h')))
          obtain ⟨d1, hd1, rd1⟩ := r.get' y1
          obtain ⟨d2, hd2, rd2⟩ := r'.get' y2
          obtain ⟨H0'', g, r2⟩ := tup_new w hT (.cons (rd1.mono e) (.cons (Rp.mono e rd2) .nil))
          refine ⟨H0'', _, g, ?_, r2⟩
          unfold zipD
          rw [List.getElem?_zipWith, hd1, hd2]
/-- the signs of a text -/
def signsD (s : Str) : List PyData := s.cps.toList.map fun c => .str ⟨#[c]⟩
@[simp] def iS (da : DE) : DI := fun δ Φ => da δ fun x => ∃ s, x = .str s ∧ Φ (signsD s)
theorem smi_str (ha : Sm C f1 ta da) : SmI C (iStr ta) (iS da) := fun σ δ H0 H Φ R s w q =>
  ha σ δ H0 H _ _ s w fun H01 H1 v x g1 r1 ⟨z, e, p⟩ => by
    subst e
    cases r1
    refine ⟨z, rfl, q _ _ _ _ g1 ⟨fun H0' H' i e w hi0 => have hi := Nat.le_of_eq hi0; ?_, fun H0' H' i e w hi => ?_, fun H0' H' i v H'' e w hi y => ?_⟩ p⟩
    · show z.cps.size ≤ i
      simpa [signsD] using hi
    · show i < z.cps.size
      simpa [signsD] using hi
    · obtain ⟨rfl, c, hc, rfl⟩ := y
      refine ⟨H0', _, .refl w, ?_, .str _⟩
      unfold signsD
      rw [List.getElem?_map, Array.getElem?_toList, hc]
      rfl
end

/-! ### statements -/
structure DEnds where
  nx : Dl → Prop
  rt : RX → Prop
  bk : Dl → Prop := fun _ => False
  ct : Dl → Prop := fun _ => False
abbrev DS := DEnds → Dl → Prop
structure EndS (C : Ctx) (H0 : Hp) (E : DEnds) (D : Ends) : Prop where
  nx : ∀ (H0' H' : Hp) (σ : L2.St) (δ : Dl), Same H0 H0' → St C H0' H' σ δ → E.nx δ → D.nx σ H'
  rt : ∀ (H0' H' : Hp) (v : V) (r : RX), Same H0 H0' → Wf C H0' H' → RXR C H0' H' v r → E.rt r → D.rt v H'
  bk : ∀ (H0' H' : Hp) (σ : L2.St) (δ : Dl), Same H0 H0' → St C H0' H' σ δ → E.bk δ → D.bk σ H'
  ct : ∀ (H0' H' : Hp) (σ : L2.St) (δ : Dl), Same H0 H0' → St C H0' H' σ δ → E.ct δ → D.ct σ H'
def SmS (C : Ctx) (ts : TS) (ds : DS) : Prop := ∀ (σ : L2.St) (δ : Dl) (H0 H : Hp) (E : DEnds) (D : Ends), St C H0 H σ δ → ds E δ → EndS C H0 E D → ts D σ H
abbrev DG := PyData → Dl → (Dl → Prop) → Prop
abbrev DGs := List PyData → Dl → (Dl → Prop) → Prop
def SmG (C : Ctx) (tg : TG) (dg : DG) : Prop := ∀ (v : V) (x : PyData) (σ : L2.St) (δ : Dl) (H0 H : Hp) (Ψ : Dl → Prop) (Q : L2.St → Hp → Prop), St C H0 H σ δ → Rp C.K H0 v x → dg x δ Ψ →
  (∀ σ' δ', St C H0 H σ' δ' → Ψ δ' → Q σ' H) → tg v σ H Q
def SmGs (C : Ctx) (tg : TGs) (dg : DGs) : Prop := ∀ (vs : List V) (xs : List PyData) (σ : L2.St) (δ : Dl) (H0 H : Hp) (Ψ : Dl → Prop) (Q : L2.St → Hp → Prop), St C H0 H σ δ → RpA C.K H0 vs xs → dg xs δ Ψ →
  (∀ σ' δ', St C H0 H σ' δ' → Ψ δ' → Q σ' H) → tg vs σ H Q
section
variable {C : Ctx} {H0 H H0' H' H0'' H'' : Hp} {σ : L2.St} {δ : Dl} {v : V} {x : PyData} {f : Bool}
variable {te ta tb tc : TE} {de da db dc : DE} {tt tu : TT} {dt du : DT} {tas : TA} {das : DA} {f1 f2 : Bool} {ts tv : TS} {ds dv : DS} {E : DEnds} {D : Ends} {o : DO} {g : TG} {dg : DG} {gs : TGs} {dgs : DGs} {ti : TI} {di : DI}
theorem EndS.mono (h : EndS C H0 E D) (e : Same H0 H0') : EndS C H0' E D :=
  ⟨fun a b c d q => h.nx a b c d (e.trans q), fun a b c d q => h.rt a b c d (e.trans q), fun a b c d q => h.bk a b c d (e.trans q), fun a b c d q => h.ct a b c d (e.trans q)⟩
@[simp] def dgName (i : Nat) : DG := fun x δ Ψ => Ψ (δ.set i (some (.d x)))
theorem smg_name (i : Nat) : SmG C (gName i) (dgName i) := fun v x σ δ H0 H Ψ Q s r w q => q _ _ (s.set_d i r) w
@[simp] def dgNil : DGs := fun xs δ Ψ => xs = [] ∧ Ψ δ
@[simp] def dgCons (dg : DG) (dgs : DGs) : DGs := fun xs δ Ψ => ∃ y ys, xs = y :: ys ∧ dg y δ fun δ' => dgs ys δ' Ψ
theorem smg_nil : SmGs C gNil dgNil := fun vs xs σ δ H0 H Ψ Q s r ⟨e, w⟩ q => by
  subst e
  cases r
  exact ⟨rfl, q _ _ s w⟩
theorem smg_cons (h1 : SmG C g dg) (h2 : SmGs C gs dgs) : SmGs C (gCons g gs) (dgCons dg dgs) := fun vs xs σ δ H0 H Ψ Q s r ⟨y, ys, e, w⟩ q => by
  subst e
  cases r with
  | cons ra rb => exact ⟨_, _, rfl, h1 _ _ σ δ H0 H _ _ s ra w fun σ' δ' s' w' => h2 _ _ σ' δ' H0 H _ _ s' rb w' q⟩
@[simp] def dgTup (n : Nat) (dgs : DGs) : DG := fun x δ Ψ => ∃ xs, x = .tuple xs ∧ xs.length = n ∧ dgs xs δ Ψ
theorem smg_tup {n : Nat} (h : SmGs C gs dgs) : SmG C (gTup C.K n gs) (dgTup n dgs) := fun v x σ δ H0 H Ψ Q s r ⟨xs, e, hn, w⟩ q => by
  subst e
  cases r with
  | @tup a us _ hs r => exact ⟨a, us, rfl, same_t s.toWf.sub hs, by rw [r.length]; exact hn, h _ _ σ δ H0 H _ _ s r w q⟩
@[simp] def dSeq (d1 d2 : DS) : DS := fun E δ => d1 { E with nx := d2 E } δ
theorem sms_seq (h1 : SmS C ts ds) (h2 : SmS C tv dv) : SmS C (tSeq ts tv) (dSeq ds dv) := fun σ δ H0 H E D s w e =>
  h1 σ δ H0 H _ _ s w ⟨fun H0' H' σ' δ' q s' w' => h2 σ' δ' H0' H' E D s' w' (e.mono q), e.rt, e.bk, e.ct⟩
@[simp] def dNext : DS := fun E δ => E.nx δ
theorem sms_next : SmS C tNext dNext := fun σ δ H0 H E D s w e => e.nx H0 H σ δ (Same.refl _) s w
@[simp] def dRet (de : DE) : DS := fun E δ => de δ fun x => E.rt (.d x)
theorem sms_ret (h : Sm C true te de) : SmS C (tRet te) (dRet de) := fun σ δ H0 H E D s w e =>
  h σ δ H0 H _ _ s w fun H0' H' v x g r p => e.rt H0' H' v (.d x) g.fz g.wf r p
@[simp] def dRetO (i : Nat) : DS := fun E δ => ∃ a xs, δ[i]? = some (some (.own a xs)) ∧ E.rt (.own xs)
theorem sms_retO (i : Nat) : SmS C (tRet (tVar i)) (dRetO i) := fun σ δ H0 H E D s ⟨a, xs, h, w⟩ e => by
  obtain ⟨v, e1, rfl, h1, h2, h3, vs, h4, h5⟩ := s.sl i _ h
  exact ⟨_, e1, e.rt H0 H _ (.own xs) (Same.refl _) s.toWf ⟨a, vs, rfl, h1, h2, h3, h4, h5⟩ w⟩
@[simp] def dRetNew (o : DO) : DS := fun E δ => o δ fun xs => E.rt (.own xs)
theorem sms_retNew (h : SmO C te o) : SmS C (tRet te) (dRetNew o) := fun σ δ H0 H E D s w e =>
  h σ δ H0 H _ _ s w fun H0' H' a vs xs g h1 h2 h3 r p => e.rt H0' H' _ (.own xs) g.fz g.wf ⟨a, vs, rfl, h2, (Go.he s.toWf h1).1, (Go.he s.toWf h1).2, h3, r⟩ p
@[simp] def dRetN : DS := fun E δ => E.rt (.d .none)
theorem sms_retN : SmS C tRetN dRetN := fun σ δ H0 H E D s w e => e.rt H0 H _ (.d .none) (Same.refl _) s.toWf .non w
@[simp] def dAsg (de : DE) (dg : DG) : DS := fun E δ => de δ fun x => dg x δ E.nx
theorem sms_asg (h : Sm C true te de) (hg : SmG C g dg) : SmS C (tAsg te g) (dAsg de dg) := fun σ δ H0 H E D s w e =>
  h σ δ H0 H _ _ s w fun H0' H' v x g1 r p => hg v x σ δ H0' H' _ _ (s.go g1) r p fun σ' δ' s' w' => e.nx H0' H' σ' δ' g1.fz s' w'
@[simp] def dSetO (i : Nat) (o : DO) : DS := fun E δ => o δ fun xs => ∀ a, E.nx (δ.set i (some (.own a xs)))
theorem sms_setO (i : Nat) (h : SmO C te o) : SmS C (tAsg te (gName i)) (dSetO i o) := fun σ δ H0 H E D s w e =>
  h σ δ H0 H _ _ s w fun H0' H' a vs xs g1 h1 h2 h3 r p => by
    refine e.nx H0' H' _ _ g1.fz ((s.go g1).set_own i (fun j b ys hj hb z => ?_) h2 (Go.he s.toWf h1).1 (Go.he s.toWf h1).2 h3 r) (p a)
    subst z
    obtain ⟨v, _, hv⟩ := s.sl j _ hj
    obtain ⟨o, k⟩ := hv.live hb
    rw [h1] at k; cases k
@[simp] def dIfS (dt : DT) (d1 d2 : DS) : DS := fun E δ => dt δ fun b => if b = true then d1 E δ else d2 E δ
theorem sms_if (ht : SmT C tt dt) (h1 : SmS C ts ds) (h2 : SmS C tv dv) : SmS C (tIfS tt ts tv) (dIfS dt ds dv) := fun σ δ H0 H E D s w e =>
  ht σ δ H0 H _ _ s w fun H01 H1 b g1 w1 => by
    cases b with
    | true => exact iteT (h1 σ δ H01 H1 E D (s.go g1) (by simpa using w1) (e.mono g1.fz))
    | false => exact iteF (h2 σ δ H01 H1 E D (s.go g1) (by simpa using w1) (e.mono g1.fz))
@[simp] def dDrop (de : DE) : DS := fun E δ => de δ fun _ => E.nx δ
theorem sms_drop (h : Sm C f1 te de) : SmS C (tDrop te) (dDrop de) := fun σ δ H0 H E D s w e =>
  h σ δ H0 H _ _ s w fun H0' H' v x g1 r p => e.nx H0' H' σ δ g1.fz (s.go g1) p
/-- xs.append(e), xs an owned list -/
@[simp] def dApp (i : Nat) (de : DE) : DS := fun E δ => ∃ a xs, δ[i]? = some (some (.own a xs)) ∧ de δ fun x => xs.length < sizeLine ∧ E.nx (δ.set i (some (.own a (xs ++ [x]))))
theorem sms_app (i : Nat) (h : Sm C true te de) : SmS C (tDrop (tBM C.K "list" rAppend (tVar i) (tCons te tNil))) (dApp i de) := fun σ δ H0 H E D s ⟨a0, xs0, e0, w⟩ e => by
  obtain ⟨v, e1, rfl, h1, h2, h3, vs, h4, h5⟩ := s.sl i _ e0
  refine ⟨_, e1, .inl ⟨rfl, vs, SqL.of h4⟩, h σ δ H0 H _ _ s w fun H0' H' y x g1 r ⟨hl, p⟩ => ?_⟩
  have s1 := s.go g1
  obtain ⟨v', f1, f2, f3, f4, f5, us, f6, f7⟩ := s1.sl i _ e0
  refine ⟨a0, us, y, rfl, rfl, f6, by rw [f7.length]; exact hl, e.nx H0' _ σ _ g1.fz (s1.write i e0 (f7.snoc r)) p⟩
@[simp] def dAug (i : Nat) (de : DE) (f : Int → Int → Int) : DS := fun E δ => ∃ a, δ[i]? = some (some (.d (.int a))) ∧ de δ fun y => ∃ b, y = .int b ∧ E.nx (δ.set i (some (.d (.int (f a b)))))
theorem sms_aug (i : Nat) {fn : Int → Int → Int} (h : Sm C f1 te de) : SmS C (tAug i te (ipI fn)) (dAug i de fn) := fun σ δ H0 H E D s ⟨a0, e0, w⟩ e => by
  obtain ⟨v, e1, r0⟩ := s.sl i _ e0
  cases r0
  refine ⟨_, e1, h σ δ H0 H _ _ s w fun H0' H' y x g1 r ⟨b, e3, p⟩ => ?_⟩
  subst e3
  cases r
  exact ⟨a0, b, rfl, rfl, e.nx _ _ _ _ g1.fz ((s.go g1).set_d i (.int _)) p⟩
/-- xs[k] = e, xs an owned list -/
@[simp] def dSetI (i : Nat) (de dk : DE) : DS := fun E δ => de δ fun x => ∃ a xs, δ[i]? = some (some (.own a xs)) ∧ dk δ fun y => ∃ k j, y = .int k ∧ ixN xs.length k = some j ∧ E.nx (δ.set i (some (.own a (xs.set j x))))
theorem sms_setI (i : Nat) (h : Sm C true te de) (hk : Sm C f2 tb db) : SmS C (tAsg te (gSub (tVar i) tb rSetL)) (dSetI i de db) := fun σ δ H0 H E D s w e =>
  h σ δ H0 H _ _ s w fun H01 H1 v x g1 r ⟨a, xs, e0, w1⟩ => by
    have s1 := s.go g1
    obtain ⟨v', e1, f2, f3, f4, f5, us, f6, f7⟩ := s1.sl i _ e0
    refine ⟨v', e1, hk σ δ H01 H1 _ _ s1 w1 fun H02 H2 u y g2 r2 ⟨k, j, e3, e4, p⟩ => ?_⟩
    subst e3 f2
    cases r2
    have s2 := s1.go g2
    obtain ⟨v', e1, f2, f3, f4, f5, us, f6, f7⟩ := s2.sl i _ e0
    exact ⟨a, us, k, j, rfl, rfl, f6, by rw [f7.length]; exact e4, e.nx H02 _ σ _ (g1.fz.trans g2.fz) (s2.write i e0 (f7.set (Rp.mono g2.fz r) j)) p⟩
/-- the slot's list stands still from here on -/
@[simp] def dFrz (i : Nat) (d : DS) : DS := fun E δ => ∃ a xs, δ[i]? = some (some (.own a xs)) ∧ d E (δ.set i (some (.d (.list xs))))
theorem sms_frz (i : Nat) (h : SmS C ts ds) : SmS C ts (dFrz i ds) := fun σ δ H0 H E D s ⟨a, xs, h1, w⟩ e => by
  obtain ⟨H0', g, s'⟩ := s.freeze i h1
  exact h σ _ H0' H E D s' w (e.mono g)
@[simp] def dBreak : DS := fun E δ => E.bk δ
theorem sms_break : SmS C tBreak dBreak := fun σ δ H0 H E D s w e => e.bk H0 H σ δ (Same.refl _) s w
@[simp] def dCont : DS := fun E δ => E.ct δ
theorem sms_cont : SmS C tCont dCont := fun σ δ H0 H E D s w e => e.ct H0 H σ δ (Same.refl _) s w
/-- for .. in ..: -/
def dFor (di : DI) (dg : DG) (db : DS) : DS := fun E δ => di δ fun xs => ∃ I : Nat → Dl → Prop, I 0 δ ∧
  (∀ i y δ', xs[i]? = some y → I i δ' → dg y δ' fun δ'' => db { E with nx := I (i + 1), ct := I (i + 1), bk := E.nx } δ'') ∧ ∀ δ', I xs.length δ' → E.nx δ'
theorem sms_for (hi : SmI C ti di) (hg : SmG C g dg) (hb : SmS C ts ds) : SmS C (tFor ti g ts) (dFor di dg ds) := fun σ δ H0 H E D s w e =>
  hi σ δ H0 H _ _ s w fun H01 H1 J xs g1 wk ⟨I, i0, it, ie⟩ => by
    refine ⟨fun i m σ H => m = xs.length - i ∧ i ≤ xs.length ∧ ∃ H0' δ', Same H01 H0' ∧ St C H0' H σ δ' ∧ I i δ', ⟨_, rfl, Nat.zero_le _, H01, δ, Same.refl _, s.go g1, i0⟩, ?_⟩
    rintro i m σ' H' ⟨rfl, hi, H0', δ', gr, s', p⟩
    by_cases hl : i < xs.length
    · refine .inr ⟨wk.go H0' H' i gr s'.toWf hl, fun σ2 H2 => ∃ H0'' δ'', Same H01 H0'' ∧ St C H0'' H2 σ2 δ'' ∧ I (i + 1) δ'', fun σ2 H2 ⟨H02, δ2, h1, h2, h3⟩ => ⟨_, by omega, rfl, hl, H02, δ2, h1, h2, h3⟩, fun v H'' y => ?_⟩
      obtain ⟨H02, z, g2, hz, rz⟩ := wk.yld H0' H' i v H'' gr s'.toWf hl y
      refine hg v z σ' δ' H02 H'' _ _ (s'.go g2) rz (it i z δ' hz p) fun σ2 δ2 s2 w2 => ?_
      refine hb σ2 δ2 H02 H'' _ _ s2 w2 ⟨fun H03 H3 σ3 δ3 e3 s3 p3 => ⟨H03, δ3, (gr.trans g2.fz).trans e3, s3, p3⟩, fun H03 H3 v3 r3 e3 w3 x3 p3 => e.rt H03 H3 v3 r3 (((g1.fz.trans gr).trans g2.fz).trans e3) w3 x3 p3,
        fun H03 H3 σ3 δ3 e3 s3 p3 => e.nx H03 H3 σ3 δ3 (((g1.fz.trans gr).trans g2.fz).trans e3) s3 p3, fun H03 H3 σ3 δ3 e3 s3 p3 => ⟨H03, δ3, (gr.trans g2.fz).trans e3, s3, p3⟩⟩
    · have hl' : i = xs.length := by omega
      exact .inl ⟨wk.stop H0' H' i gr s'.toWf (by omega), e.nx H0' H' σ' δ' (g1.fz.trans gr) s' (ie δ' (hl' ▸ p))⟩
/-- for .. in an owned list, which the turns leave -/
def dForO (j : Nat) (dg : DG) (db : DS) : DS := fun E δ => ∃ a xs, δ[j]? = some (some (.own a xs)) ∧ ∃ I : Nat → Dl → Prop, I 0 δ ∧
  (∀ i y δ', xs[i]? = some y → I i δ' → δ'[j]? = some (some (.own a xs)) ∧ dg y δ' fun δ'' => db { E with nx := I (i + 1), ct := I (i + 1), bk := E.nx } δ'') ∧ ∀ δ', I xs.length δ' → δ'[j]? = some (some (.own a xs)) ∧ E.nx δ'
theorem sms_forO (j : Nat) (hg : SmG C g dg) (hb : SmS C ts ds) : SmS C (tFor (iList C.K (tVar j)) g ts) (dForO j dg ds) := fun σ δ H0 H E D s ⟨a, xs, e0, I, i0, it, ie⟩ e => by
  obtain ⟨v, e1, rfl, h1, h2, h3, us, h4, h5⟩ := s.sl j _ e0
  refine ⟨_, e1, a, rfl, ⟨us, SqL.of h4⟩, fun i m σ H => m = xs.length - i ∧ i ≤ xs.length ∧ ∃ H0' δ', Same H0 H0' ∧ St C H0' H σ δ' ∧ I i δ', ⟨_, rfl, Nat.zero_le _, H0, δ, Same.refl _, s, i0⟩, ?_⟩
  rintro i m σ' H' ⟨rfl, hi, H0', δ', gr, s', p⟩
  by_cases hl : i < xs.length
  · obtain ⟨y, hy⟩ := get_lt hl
    obtain ⟨k1, k2⟩ := it i y δ' hy p
    obtain ⟨v', e1', e2', f1, f2, f3, ws, f4, f5⟩ := s'.sl j _ k1
    obtain ⟨u, hu, ru⟩ := f5.get hy
    refine .inr ⟨⟨ws, u, SqL.of f4, hu⟩, fun σ2 H2 => ∃ H0'' δ'', Same H0 H0'' ∧ St C H0'' H2 σ2 δ'' ∧ I (i + 1) δ'', fun σ2 H2 ⟨H02, δ2, h1, h2, h3⟩ => ⟨_, by omega, rfl, hl, H02, δ2, h1, h2, h3⟩, fun v H'' y' => ?_⟩
    obtain ⟨rfl, y'⟩ := y'
    have y' := y' ws (SqL.of f4)
    rw [hu] at y'
    cases y'
    refine hg u y σ' δ' H0' H'' _ _ s' ru k2 fun σ2 δ2 s2 w2 => ?_
    refine hb σ2 δ2 H0' H'' _ _ s2 w2 ⟨fun H03 H3 σ3 δ3 e3 s3 p3 => ⟨H03, δ3, gr.trans e3, s3, p3⟩, fun H03 H3 v3 r3 e3 w3 x3 p3 => e.rt H03 H3 v3 r3 (gr.trans e3) w3 x3 p3,
      fun H03 H3 σ3 δ3 e3 s3 p3 => e.nx H03 H3 σ3 δ3 (gr.trans e3) s3 p3, fun H03 H3 σ3 δ3 e3 s3 p3 => ⟨H03, δ3, gr.trans e3, s3, p3⟩⟩
  · have hl' : i = xs.length := by omega
    obtain ⟨k1, k2⟩ := ie δ' (hl' ▸ p)
    obtain ⟨v', e1', e2', f1, f2, f3, ws, f4, f5⟩ := s'.sl j _ k1
    exact .inl ⟨⟨ws, SqL.of f4, by rw [f5.length]; omega⟩, e.nx H0' H' σ' δ' gr s' k2⟩
def dWhile (dt : DT) (db : DS) : DS := fun E δ => ∃ I : Nat → Dl → Prop, (∃ m, I m δ) ∧ ∀ m δ', I m δ' → dt δ' fun b => if b = true then db { E with nx := fun δ'' => ∃ m', m' < m ∧ I m' δ'', ct := fun δ'' => ∃ m', m' < m ∧ I m' δ'', bk := E.nx } δ' else E.nx δ'
theorem sms_while (ht : SmT C tt dt) (hb : SmS C ts ds) : SmS C (tWhile tt ts) (dWhile dt ds) := fun σ δ H0 H E D s ⟨I, ⟨m0, i0⟩, it⟩ e => by
  refine ⟨fun m σ' H' => ∃ H0' δ', Same H0 H0' ∧ St C H0' H' σ' δ' ∧ I m δ', ⟨m0, H0, δ, Same.refl _, s, i0⟩, ?_⟩
  rintro m σ' H' ⟨H0', δ', gr, s', p⟩
  refine ht σ' δ' H0' H' _ _ s' (it m δ' p) fun H01 H1 b g1 w1 => ?_
  cases b with
  | true =>
    refine iteT ⟨fun σ2 H2 => ∃ m', m' < m ∧ ∃ H0'' δ'', Same H0 H0'' ∧ St C H0'' H2 σ2 δ'' ∧ I m' δ'', fun σ2 H2 h => h, ?_⟩
    refine hb σ' δ' H01 H1 { E with nx := fun δ'' => ∃ m', m' < m ∧ I m' δ'', ct := fun δ'' => ∃ m', m' < m ∧ I m' δ'', bk := E.nx } _ (s'.go g1) (by simpa using w1) ⟨fun H03 H3 σ3 δ3 e3 s3 ⟨m', hm, p3⟩ => ⟨m', hm, H03, δ3, (gr.trans g1.fz).trans e3, s3, p3⟩, fun H03 H3 v3 r3 e3 w3 x3 p3 => e.rt H03 H3 v3 r3 ((gr.trans g1.fz).trans e3) w3 x3 p3,
      fun H03 H3 σ3 δ3 e3 s3 p3 => e.nx H03 H3 σ3 δ3 ((gr.trans g1.fz).trans e3) s3 p3, fun H03 H3 σ3 δ3 e3 s3 ⟨m', hm, p3⟩ => ⟨m', hm, H03, δ3, (gr.trans g1.fz).trans e3, s3, p3⟩⟩
  | false => exact iteF (e.nx H01 H1 σ' δ' (gr.trans g1.fz) (s'.go g1) (by simpa using w1))

/-! ### comprehensions -/
@[simp] def dYes : DT := fun _ Φ => Φ true
theorem smt_yes : SmT C tYes dYes := fun σ δ H0 H Φ Q s w q => q H0 H true (.refl s.toWf) w
def oLc (di : DI) (i : Nat) (dt : DT) (de : DE) : DO := fun δ Φ => di δ fun xs => ∃ I : Nat → List PyData → Prop, I 0 [] ∧
  (∀ k y acc, xs[k]? = some y → I k acc → dt (δ.set i (some (.d y))) fun b => if b = true then de (δ.set i (some (.d y))) fun z => acc.length < sizeLine ∧ I (k + 1) (acc ++ [z]) else I (k + 1) acc) ∧ ∀ acc, I xs.length acc → Φ acc
theorem smo_lc {i : Nat} (hi : SmI C ti di) (ht : SmT C tt dt) (he : Sm C true te de) : SmO C (tLc ti (gName i) tt te [i]) (oLc di i dt de) := fun σ δ H0 H Φ Q s w q =>
  hi σ δ H0 H _ _ s w fun H01 H1 J xs g1 wk ⟨I, i0, it, ie⟩ D hD => by
    have hD0 : H D = none := g1.fresh hD
    refine ⟨fun k m H' => m = xs.length - k ∧ k ≤ xs.length ∧ ∃ H0' us acc, Go C H01 H1 H0' H' ∧ H0' D = none ∧ H' D = some (.lst us) ∧ RpA C.K H0' us acc ∧ I k acc, ⟨_, rfl, Nat.zero_le _, H01, [], [], Go.free g1.wf hD, g1.wf.none hD, upd_same, .nil, i0⟩, ?_⟩
    rintro k m H' ⟨rfl, hk, H0', us, acc, g2, hn, hl, r, p⟩
    have nex : C.ex ≠ some D := (Go.he g1.wf hD).2
    by_cases hlt : k < xs.length
    · refine .inr ⟨wk.go H0' H' k g2.fz g2.wf hlt, fun H3 => ∃ H0' us acc, Go C H01 H1 H0' H3 ∧ H0' D = none ∧ H3 D = some (.lst us) ∧ RpA C.K H0' us acc ∧ I (k + 1) acc, fun H3 h => ⟨_, by omega, rfl, hlt, h⟩, fun v H'' y => ?_⟩
      obtain ⟨H02, z, g3, hz, rz⟩ := wk.yld H0' H' k v H'' g2.fz g2.wf hlt y
      have g23 := g2.trans g3
      have keep : ∀ {A B : Hp}, Go C H02 H'' A B → A D = none ∧ B D = some (.lst us) := fun {A B} gg => by
        have h1 : B D = some (.lst us) := gg.kp D _ nex (g3.kp D _ nex hl)
        refine ⟨?_, h1⟩
        cases e : A D with
        | none => rfl
        | some u =>
          rcases (g3.trans gg).nw D u e with h2 | h2
          · rw [hn] at h2; cases h2
          · rw [hl] at h2; cases h2
      show wipe ((wipe σ [i]).set i (some v)) [i] = wipe σ [i] ∧ _
      refine ⟨by simp [wipe], ?_⟩
      have s2 : St C H02 H'' ((wipe σ [i]).set i (some v)) (δ.set i (some (.d z))) := by
        have := ((s.go ((g1.trans g2).trans g3)).none i).set_d i rz
        rw [List.set_set] at this
        rw [List.set_set] at this
        show St C H02 H'' ((σ.set i none).set i (some v)) (δ.set i (some (.d z)))
        rw [List.set_set]
        exact this
      refine ht _ _ H02 H'' _ _ s2 (it k z acc hz p) fun H04 H4 b g4 w4 => ?_
      cases b with
      | false => exact iteF ⟨H04, us, acc, g23.trans g4, (keep g4).1, (keep g4).2, r.mono (g3.fz.trans g4.fz), by simpa using w4⟩
      | true =>
        refine iteT (he _ _ H04 H4 (fun z => acc.length < sizeLine ∧ I (k + 1) (acc ++ [z])) _ (s2.go g4) (by simpa using w4) fun H05 H5 y' z' g5 r5 ⟨w5, p5⟩ => ?_)
        have k5 := keep (g4.trans g5)
        refine ⟨us, k5.2, by rw [r.length]; exact w5, H05, us ++ [y'], acc ++ [z'], ?_, k5.1, upd_same, (r.mono (g3.fz.trans (g4.fz.trans g5.fz))).snoc r5, p5⟩
        -- the list D is written: it is not frozen, and new since H1
        have gg := (g23.trans g4).trans g5
        refine ⟨⟨fun b u e => ?_, fun b u n e => ?_, gg.wf.fz, gg.wf.nw, fun c e => ?_⟩, gg.fz, fun b u n e => ?_, gg.nw⟩
        · rw [upd_ne (fun z => by rw [z, k5.1] at e; cases e)]; exact gg.wf.sub b u e
        · rw [upd_ne (fun z => by rw [z, (Go.he g1.wf hD).1] at e; cases e)]; exact gg.wf.kp b u n e
        · exact (gg.wf.dr c e).keep (Same.refl _) (gg.wf.dr c e).no (upd_ne (fun z => nex (by rw [← z]; exact e)))
        · rw [upd_ne (fun z => by rw [z, hD] at e; cases e)]; exact gg.kp b u n e
    · have hk' : k = xs.length := by omega
      refine .inl ⟨wk.stop H0' H' k g2.fz g2.wf (by omega), q H0' H' D us acc (g1.trans g2) hD0 hn hl r (ie acc (hk' ▸ p))⟩

/-! ### a def -/
@[simp] def startD (n : Nat) (rs : List R) : Dl := rs.map some ++ List.replicate (n - rs.length) none
theorem fn_ok {P : Program} {w : World} {K : PySem.W.Frag} {mg : Str → Option Value} {base : Heap} {x qual : Str} {st : Stmt} {fa : Addr} {fd : FuncData} {N ps : List Str} {k : Nat} {p : VSp}
    (F : Fun K x qual st fa fd) (S : FnScope N ps (defScope st))
    (hbody : ∀ (cdv : Value) (A : Around) (outer : List Env) (s : Shared) (H : Hp) (E : XK), Room k (A.deeper (PyProof.Rows.envOfC qual (defScope st) s.heap.objs.size fa cdv)) →
      ∃ t, PSs (cxOf CX0 P w K mg base N qual (defScope st) fa cdv A outer s H E).nox (defBody st) t ∧ ∃ d : DS, (∀ (ex : Option Addr) (He Hf : Hp), SmS ⟨K, ex, He, Hf⟩ t d) ∧ ∀ rs Φ, p rs Φ → d { nx := fun _ => Φ (.d .none), rt := Φ } (startD N.length rs)) : FnOk P w K mg base CX0 (k + 1) fa fd ps (toSp K ps.length p) := by
  refine F.ok S (fun vs H Q E h => h.1) (fun cdv A outer s H vs Q E hr h => ?_)
  obtain ⟨t, ht, d, hd, hp⟩ := hbody cdv A outer s H E hr
  obtain ⟨hl, ex, H0, rs, Φ, wf, ra, hsp, q⟩ := h
  refine ⟨t, ht, ?_⟩
  have hlen := ra.length
  refine hd ex H H0 _ (startD N.length rs) H0 H _ _ ⟨wf, ?_, fun i r e => ?_, fun i j a b xs ys n e1 e2 a1 a2 => ?_⟩ (hp rs Φ hsp) ⟨fun H0' H' σ δ g s' w' => ?_, fun H0' H' v r g w' xr p' => q H0' H' v r w' xr p', fun _ _ _ _ _ _ h => h.elim, fun _ _ _ _ _ _ h => h.elim⟩
  · simp [L2.start, startD, hlen]
  · unfold startD at e
    by_cases hi : i < rs.length
    · rw [List.getElem?_append_left (by simpa using hi), List.getElem?_map] at e
      cases e1 : rs[i]? with
      | none => rw [e1] at e; simp at e
      | some r' =>
        rw [e1] at e
        simp at e
        subst e
        obtain ⟨v, h1, h2⟩ := ra.get e1
        refine ⟨v, ?_, ?_⟩
        · unfold L2.start
          rw [List.getElem?_append_left (by rw [List.length_map, hlen]; exact hi), List.getElem?_map, h1]
          rfl
        · cases r' with
          | d x => exact h2
          | own a xs => exact h2.elim
          | drw => exact h2
          | raw u => exact h2
          | scr ns => exact h2
          | fn F => exact h2
          | dct a es => exact h2.elim
    · rw [List.getElem?_append_right (by simpa using hi)] at e
      rw [List.getElem?_replicate] at e
      split at e <;> simp at e
  · exfalso
    have f : ∀ {i : Nat} {a : Addr} {r : R}, (startD N.length rs)[i]? = some (some r) → r.adr = some a → False := fun {i a r} e ea => by
      unfold startD at e
      by_cases hi : i < rs.length
      · rw [List.getElem?_append_left (by simpa using hi), List.getElem?_map] at e
        cases e1 : rs[i]? with
        | none => rw [e1] at e; simp at e
        | some r' =>
          rw [e1] at e
          simp at e
          subst e
          obtain ⟨v, h1, h2⟩ := ra.get e1
          cases r' with
          | own a xs => exact h2
          | dct a xs => exact h2
          | d x => cases ea
          | drw => cases ea
          | raw u => cases ea
          | scr ns => cases ea
          | fn F => cases ea
      · rw [List.getElem?_append_right (by simpa using hi)] at e
        rw [List.getElem?_replicate] at e
        split at e <;> simp at e
    exact f e1 a1
  · exact q H0' H' .non (.d .none) s'.toWf .non w'

/-! ### the row of numbers that a law draws from -/
/-- how many a draw may be of -/
def Tk (m : Int) : Prop := 0 < m ∧ m.natAbs < 2 ^ 8000
theorem tk_of {m : Int} (h : 0 < m) (h2 : m ≤ 1180591620717411303424) : Tk m := ⟨h, Nat.lt_of_lt_of_le (show m.natAbs < 2 ^ 71 by omega) (Nat.pow_le_pow_right (by decide) (by decide))⟩
@[simp] theorem tk_simp {m : Int} (h : 0 < m) (h2 : m ≤ 1180591620717411303424) : Tk m ↔ True := ⟨fun _ => trivial, fun _ => tk_of h h2⟩
/-- a number below many -/
@[simp] def spTake : VSp := fun rs Φ => ∃ many : Int, rs = [.drw, .d (.int many)] ∧ Tk many ∧ ∀ r : Int, 0 ≤ r → r < many → Φ (.d (.int r))
theorem spTake_len : ∀ rs Φ, spTake rs Φ → rs.length = 2 := fun rs Φ ⟨_, e, _⟩ => by rw [e]; rfl
/-- the row is made -/
def spDraw (K : PySem.W.Frag) : Sp := fun vs H Q _ => ∃ (a : Addr) (ns : List Int), vs = [.ref a] ∧ SqL K H a (ns.map V.int) ∧ ns.length ≤ 63 ∧
  ∀ H' p c (s : Int) (cells : List Int), Same H H' → H' p = some (.lst [.ref c, .int (-1), .int 0, .int s]) → H' c = some (.lst (cells.map V.int)) → c ≠ p → (∀ x ∈ cells, 0 ≤ x) → 0 ≤ s → s < 2147483647 → Q (.ref p) H'
def spLaw (K : PySem.W.Frag) : Sp := fun vs H Q _ => ∃ (a : Addr) (ns : List Int), vs = [.ref a] ∧ SqL K H a (ns.map V.int) ∧ ns.length ≤ 63 ∧ ∀ H', Q (.bl true) H'
/-- the draw's row is written -/
theorem Wf.draw {p c : Addr} {i v s : Int} (w : Wf C H0 H) (e : C.ex = some p) (h : H p = some (.lst [.ref c, .int i, .int v, .int s])) {i' v' s' : Int} (h1 : -1 ≤ i') (h2 : 0 ≤ v') (h3 : 0 ≤ s') (h4 : s' < 2147483647) :
    Wf C H0 (upd H p (.lst [.ref c, .int i', .int v', .int s'])) := by
  have g3 := (w.dr p e).no
  have gd : Draw1 H0 H p := (w.dr p e).2.1.elim id fun ⟨_, z, _⟩ => by rw [h] at z; cases z
  obtain ⟨c0, i0, v0, s0, cells, g1, g2, g4, g5⟩ := gd
  rw [h] at g1
  cases g1
  refine ⟨fun b u q => ?_, fun b u n q => ?_, w.fz, w.nw, fun p' e' => ?_⟩
  · rw [upd_ne (fun z => by rw [z, g3] at q; cases q)]; exact w.sub b u q
  · rw [upd_ne (fun z => by rw [z] at n; exact n e)]; exact w.kp b u n q
  · rw [e] at e'; cases e'
    exact ⟨g3, .inl ⟨c, i', v', s', cells, upd_same, g2, g4, h1, h2, h3, h4⟩, fun z => by
      obtain ⟨ps, z⟩ := (w.dr p e).2.2 z
      rw [h] at z; cases z⟩
/-- the law's own body behind «draw = _law_draw(script)» -/
theorem law_start {K : PySem.W.Frag} {p c : Addr} {s : Int} {cells : List Int} {H' : Hp} (h1 : H' p = some (.lst [.ref c, .int (-1), .int 0, .int s])) (h2 : H' c = some (.lst (cells.map V.int))) (h3 : c ≠ p) (h4 : ∀ x ∈ cells, 0 ≤ x) (h5 : 0 ≤ s) (h6 : s < 2147483647)
    {a : Addr} {n : Nat} {t : TS} {d : DS} (hd : ∀ (ex : Option Addr) (He Hf : Hp), SmS ⟨K, ex, He, Hf⟩ t d) {Q : VK} (hQ : ∀ H', Q (.bl true) H')
    (hp : ∀ raw : V, d { nx := fun _ => False, rt := fun r => r = .d (.bool true) } (some (.raw raw) :: some .drw :: List.replicate n none)) :
    t { nx := fun _ H' => Q .non H', rt := Q } (some (.ref a) :: some (.ref p) :: List.replicate n none) H' := by
  have w : Wf ⟨K, some p, H', fun b => if b = p then none else H' b⟩ (fun b => if b = p then none else H' b) H' := by
    refine ⟨fun b o e => ?_, fun _ _ _ e => e, Same.refl _, fun _ _ e => .inl e, fun q e => ?_⟩
    · split at e
      · cases e
      · exact e
    · cases e
      exact ⟨if_pos rfl, .inl ⟨c, -1, 0, s, cells, h1, by show (if c = p then none else H' c) = _; rw [if_neg h3]; exact h2, h4, by omega, by omega, h5, h6⟩, id⟩
  refine hd (some p) H' (fun b => if b = p then none else H' b) _ _ _ H' _ _ ⟨w, by simp, fun i r e => ?_, fun i j a b xs ys n e1 e2 a1 a2 => ?_⟩ (hp (.ref a)) ⟨fun _ _ _ _ _ _ h => h.elim, fun H0' H'' v r g w' x e => ?_, fun _ _ _ _ _ _ h => h.elim, fun _ _ _ _ _ _ h => h.elim⟩
  · match i with
    | 0 => simp at e; subst e; exact ⟨_, rfl, rfl⟩
    | 1 => simp at e; subst e; exact ⟨_, rfl, p, rfl, rfl⟩
    | i + 2 =>
      rw [List.getElem?_cons_succ, List.getElem?_cons_succ, List.getElem?_replicate] at e
      split at e <;> simp at e
  · match i with
    | 0 => simp at e1; subst e1; cases a1
    | 1 => simp at e1; subst e1; cases a1
    | i + 2 =>
      rw [List.getElem?_cons_succ, List.getElem?_cons_succ, List.getElem?_replicate] at e1
      split at e1 <;> simp at e1
  · subst e
    cases x
    exact hQ _
end
section
/-- a law that reads its script itself -/
theorem law_plain {K : PySem.W.Frag} {a : Addr} {ns : List Int} {H : Hp} {Q : VK} {n : Nat} {t : TS} {d : DS} (hS : SqL K H a (ns.map V.int)) (k : ∀ H', Q (.bl true) H') (hd : ∀ (ex : Option Addr) (He Hf : Hp), SmS ⟨K, ex, He, Hf⟩ t d)
    (hp : d { nx := fun _ => False, rt := fun r => r = .d (.bool true) } (some (.scr ns) :: List.replicate n none)) : t { nx := fun _ H' => Q .non H', rt := Q } (some (.ref a) :: List.replicate n none) H := by
  refine hd none H H _ _ H H _ _ ⟨⟨Same.refl _, fun _ _ _ e => e, Same.refl _, fun _ _ e => .inl e, fun p e => by cases e⟩, by simp, fun i r e => ?_, fun i j a b xs ys n e1 e2 a1 a2 => ?_⟩ hp ⟨fun _ _ _ _ _ _ h => h.elim, fun H0' H'' v r g w' x e => ?_, fun _ _ _ _ _ _ h => h.elim, fun _ _ _ _ _ _ h => h.elim⟩
  · match i with
    | 0 => simp at e; subst e; exact ⟨_, rfl, a, rfl, hS⟩
    | i + 1 =>
      rw [List.getElem?_cons_succ, List.getElem?_replicate] at e
      split at e <;> simp at e
  · match i with
    | 0 => simp at e1; subst e1; cases a1
    | i + 1 =>
      rw [List.getElem?_cons_succ, List.getElem?_replicate] at e1
      split at e1 <;> simp at e1
  · subst e
    cases x
    exact k _
/-- what is never reached -/
@[simp] def dNever : DS := fun _ _ => False
theorem sms_never {C : Ctx} {t : TS} : SmS C t dNever := fun _ _ _ _ _ _ _ h => h.elim
end
/-! ### rules of the hand layer whose words name the written part: said with it -/
section
variable {X : Cx} {K : PySem.W.Frag}
theorem kx_seq (h : X.K = K) : IxR X (rIx K) := by subst h; exact ix_seq
theorem kx_in (h : X.K = K) : OpR X (compareOp .In) (rIn K false) := by subst h; exact op_in_seq
theorem kx_notIn (h : X.K = K) : OpR X (compareOp .NotIn) (rIn K true) := by subst h; exact op_notIn_seq
theorem kx_eqD (h : X.K = K) (hu : X.A.units + 64 < cLine) : OpR X (compareOp .Eq) (rEqD K) := by subst h; exact op_eqD hu
theorem kx_neD (h : X.K = K) (hu : X.A.units + 64 < cLine) : OpR X (compareOp .NotEq) (rNeD K) := by subst h; exact op_neD hu
theorem kx_len (h : X.K = K) : CallR X (.builtin "len") (fun xs H Q => ∃ x n, xs = [x] ∧ LenV K x H n ∧ Q (.int n) H) := by subst h; exact call_len
theorem kx_list (h : X.K = K) : CallR X (.type "list") (fun xs H Q => ∃ p ys, xs = [.ref p] ∧ (SqL K H p ys ∨ SqT K H p ys) ∧ ∀ l, H l = none → Q (.ref l) (upd H l (.lst ys))) := by subst h; exact call_list_of
theorem kx_tuple (h : X.K = K) : CallR X (.type "tuple") (fun xs H Q => ∃ p ys, xs = [.ref p] ∧ ((SqL K H p ys ∧ ∀ l, H l = none → Q (.ref l) (upd H l (.tup ys))) ∨ (SqT K H p ys ∧ Q (.ref p) H))) := by subst h; exact call_tuple_of
theorem kx_isi (h : X.K = K) : CallR X (.builtin "isinstance") (rIsi K) := by subst h; exact call_isi
theorem kpi_list (h : X.K = K) {tg e : Expr} {tl : TE} (he : PE X e tl) : PI X tg e (iList K tl) := by subst h; exact pi_list he
theorem kpi_tup (h : X.K = K) {tg e : Expr} {tl : TE} (he : PE X e tl) : PI X tg e (iTup K tl) := by subst h; exact pi_tup he
end
end VL

/-! Facts about the layer's words. -/
namespace VL
open PySem L2
@[simp] theorem scal_ii (i j : Int) : scal (.int i) (.int j) = true := rfl
@[simp] theorem scal_ss (i j : Str) : scal (.str i) (.str j) = true := rfl
@[simp] theorem scal_bb (i j : Bool) : scal (.bl i) (.bl j) = true := rfl
@[simp] theorem scal_nn : scal .non .non = true := rfl
@[simp] theorem scal_ni (i : Int) : scal .non (.int i) = true := rfl
@[simp] theorem scal_in (i : Int) : scal (.int i) .non = true := rfl
@[simp] theorem scal_si (s : Str) (i : Int) : scal (.str s) (.int i) = true := rfl
@[simp] theorem scal_is (s : Str) (i : Int) : scal (.int i) (.str s) = true := rfl
@[simp] theorem scal_ns (s : Str) : scal .non (.str s) = true := rfl
@[simp] theorem scal_sn (s : Str) : scal (.str s) .non = true := rfl
@[simp] theorem eqv_ii (i j : Int) : PyData.eqv (.int i) (.int j) = (i == j) := by simp [PyData.eqv]
@[simp] theorem eqv_ss (i j : Str) : PyData.eqv (.str i) (.str j) = decide (i = j) := by rw [Bool.eq_iff_iff]; simp [PyData.eqv]
@[simp] theorem own_ex {α β : Type} {a0 : α} {xs0 : β} {P : α → β → Prop} : (∃ a xs, (a0 = a ∧ xs0 = xs) ∧ P a xs) ↔ P a0 xs0 := ⟨fun ⟨_, _, ⟨e1, e2⟩, h⟩ => by subst e1 e2; exact h, fun h => ⟨_, _, ⟨rfl, rfl⟩, h⟩⟩
@[simp] theorem kit_NoneType_tuple : kitB "NoneType" "tuple" = some false := by decide +kernel
@[simp] theorem kit_NoneType_list : kitB "NoneType" "list" = some false := by decide +kernel
@[simp] theorem kit_NoneType_bool : kitB "NoneType" "bool" = some false := by decide +kernel
@[simp] theorem kit_NoneType_int : kitB "NoneType" "int" = some false := by decide +kernel
@[simp] theorem kit_NoneType_str : kitB "NoneType" "str" = some false := by decide +kernel
@[simp] theorem kit_NoneType_dict : kitB "NoneType" "dict" = some false := by decide +kernel
@[simp] theorem kit_bool_tuple : kitB "bool" "tuple" = some false := by decide +kernel
@[simp] theorem kit_bool_list : kitB "bool" "list" = some false := by decide +kernel
@[simp] theorem kit_bool_bool : kitB "bool" "bool" = some true := by decide +kernel
@[simp] theorem kit_bool_int : kitB "bool" "int" = some true := by decide +kernel
@[simp] theorem kit_bool_str : kitB "bool" "str" = some false := by decide +kernel
@[simp] theorem kit_bool_dict : kitB "bool" "dict" = some false := by decide +kernel
@[simp] theorem kit_int_tuple : kitB "int" "tuple" = some false := by decide +kernel
@[simp] theorem kit_int_list : kitB "int" "list" = some false := by decide +kernel
@[simp] theorem kit_int_bool : kitB "int" "bool" = some false := by decide +kernel
@[simp] theorem kit_int_int : kitB "int" "int" = some true := by decide +kernel
@[simp] theorem kit_int_str : kitB "int" "str" = some false := by decide +kernel
@[simp] theorem kit_int_dict : kitB "int" "dict" = some false := by decide +kernel
@[simp] theorem kit_str_tuple : kitB "str" "tuple" = some false := by decide +kernel
@[simp] theorem kit_str_list : kitB "str" "list" = some false := by decide +kernel
@[simp] theorem kit_str_bool : kitB "str" "bool" = some false := by decide +kernel
@[simp] theorem kit_str_int : kitB "str" "int" = some false := by decide +kernel
@[simp] theorem kit_str_str : kitB "str" "str" = some true := by decide +kernel
@[simp] theorem kit_str_dict : kitB "str" "dict" = some false := by decide +kernel
@[simp] theorem kit_list_tuple : kitB "list" "tuple" = some false := by decide +kernel
@[simp] theorem kit_list_list : kitB "list" "list" = some true := by decide +kernel
@[simp] theorem kit_list_bool : kitB "list" "bool" = some false := by decide +kernel
@[simp] theorem kit_list_int : kitB "list" "int" = some false := by decide +kernel
@[simp] theorem kit_list_str : kitB "list" "str" = some false := by decide +kernel
@[simp] theorem kit_list_dict : kitB "list" "dict" = some false := by decide +kernel
@[simp] theorem kit_tuple_tuple : kitB "tuple" "tuple" = some true := by decide +kernel
@[simp] theorem kit_tuple_list : kitB "tuple" "list" = some false := by decide +kernel
@[simp] theorem kit_tuple_bool : kitB "tuple" "bool" = some false := by decide +kernel
@[simp] theorem kit_tuple_int : kitB "tuple" "int" = some false := by decide +kernel
@[simp] theorem kit_tuple_str : kitB "tuple" "str" = some false := by decide +kernel
@[simp] theorem kit_tuple_dict : kitB "tuple" "dict" = some false := by decide +kernel
@[simp] theorem kit_dict_tuple : kitB "dict" "tuple" = some false := by decide +kernel
@[simp] theorem kit_dict_list : kitB "dict" "list" = some false := by decide +kernel
@[simp] theorem kit_dict_bool : kitB "dict" "bool" = some false := by decide +kernel
@[simp] theorem kit_dict_int : kitB "dict" "int" = some false := by decide +kernel
@[simp] theorem kit_dict_str : kitB "dict" "str" = some false := by decide +kernel
@[simp] theorem kit_dict_dict : kitB "dict" "dict" = some true := by decide +kernel
@[simp] theorem at_0 {α : Type} (a : α) (xs : List α) : atI (a :: xs) 0 = some a := by simp [atI, ixN]
@[simp] theorem at_1 {α : Type} (a b : α) (xs : List α) : atI (a :: b :: xs) 1 = some b := by
  have : (1 : Int) < (xs.length : Int) + 1 + 1 := by omega
  simp [atI, ixN, this]
@[simp] theorem at_2 {α : Type} (a b c : α) (xs : List α) : atI (a :: b :: c :: xs) 2 = some c := by
  have : (2 : Int) < (xs.length : Int) + 1 + 1 + 1 := by omega
  simp [atI, ixN, this]
@[simp] theorem at_3 {α : Type} (a b c d : α) (xs : List α) : atI (a :: b :: c :: d :: xs) 3 = some d := by
  have : (3 : Int) < (xs.length : Int) + 1 + 1 + 1 + 1 := by omega
  simp [atI, ixN, this]
@[simp] theorem at_4 {α : Type} (a b c d e : α) (xs : List α) : atI (a :: b :: c :: d :: e :: xs) 4 = some e := by
  have : (4 : Int) < (xs.length : Int) + 1 + 1 + 1 + 1 + 1 := by omega
  simp [atI, ixN, this]
theorem int_at {ns : List Int} {i : Nat} {z : PyData} (h : (ns.map PyData.int)[i]? = some z) : ∃ u, ns[i]? = some u ∧ z = .int u := by
  rw [List.getElem?_map] at h
  cases e : ns[i]? with
  | none => rw [e] at h; cases h
  | some u => rw [e] at h; exact ⟨u, rfl, (Option.some.inj h).symm⟩
theorem seq_by {d1 d2 : DS} {E : DEnds} {δ : Dl} (J : Dl → Prop) (h2 : ∀ δ', J δ' → d2 E δ') (h1 : ∀ N : Dl → Prop, (∀ δ', J δ' → N δ') → d1 { E with nx := N } δ) : dSeq d1 d2 E δ := h1 _ h2
/-- a comprehension over range(n) -/
theorem oLc_n {da : DE} {i : Nat} {de : DE} {δ : Dl} {Φ : List PyData → Prop} {n : Nat} (hn : n < 1000000) (h : ∀ Ψ : PyData → Prop, Ψ (.int n) → da δ Ψ) (P : List PyData → Prop) (h0 : P [])
    (hs : ∀ (k : Nat) (acc : List PyData) (Ψ : PyData → Prop), k < n → acc.length = k → P acc → (∀ z, P (acc ++ [z]) → Ψ z) → de (δ.set i (some (.d (.int k)))) Ψ) (hΦ : ∀ acc, acc.length = n → P acc → Φ acc) : oLc (iR1 da) i dYes de δ Φ := by
  unfold oLc
  refine h _ ⟨n, rfl, by omega, by omega, fun k acc => acc.length = k ∧ P acc, ⟨rfl, h0⟩, fun k y acc hy ha => ?_, fun acc ha => ?_⟩
  · obtain ⟨hk, rfl⟩ := rng_get hy
    have hk : k < n := hk
    unfold dYes
    dsimp only
    rw [if_pos rfl]
    rw [show (0 : Int) + (k : Int) = (k : Int) from Int.zero_add _]
    refine hs k acc _ hk ha.1 ha.2 fun z hz => ⟨?_, ?_, hz⟩
    · rw [ha.1]
      exact Nat.lt_of_lt_of_le (show k < 1000000 by omega) (by decide)
    · rw [List.length_append, ha.1]; rfl
  · rw [rng_len] at ha
    exact hΦ acc ha.1 ha.2
/-- a comprehension over a walked list, its answer a function of the items -/
theorem oLc_map {di : DI} {i : Nat} {de : DE} {δ : Dl} {Φ : List PyData → Prop} {xs : List PyData} (F : PyData → PyData) (hn : xs.length < 1000000) (h : ∀ Ψ : List PyData → Prop, Ψ xs → di δ Ψ)
    (hs : ∀ (k : Nat) (y : PyData) (Ψ : PyData → Prop), xs[k]? = some y → Ψ (F y) → de (δ.set i (some (.d y))) Ψ) (hΦ : Φ (xs.map F)) : oLc di i dYes de δ Φ := by
  unfold oLc
  refine h _ ⟨fun k acc => acc = (xs.take k).map F, by simp, fun k y acc hy ha => ?_, fun acc ha => ?_⟩
  · subst ha
    unfold dYes
    dsimp only
    rw [if_pos rfl]
    have hk := (List.getElem?_eq_some_iff.mp hy).1
    refine hs k y _ hy ⟨?_, ?_⟩
    · rw [List.length_map, List.length_take]
      exact Nat.lt_of_lt_of_le (show min k xs.length < 1000000 by omega) (by decide)
    · rw [List.take_add_one, hy, List.map_append]
      rfl
  · subst ha
    rw [List.take_length]
    exact hΦ
theorem depth_ints : ∀ ns : List Int, PyData.depthAll (ns.map PyData.int) = 0
  | [] => rfl
  | _ :: r => by simp only [List.map_cons, PyData.depthAll, PyData.depth, depth_ints r, Nat.max_self]
/-! ### data without texts: they compare by themselves -/
theorem canLay_ints : ∀ ns : List Int, PyData.canLayAll0 (ns.map PyData.int) = true
  | [] => rfl
  | _ :: r => by simp only [List.map_cons, PyData.canLayAll0, PyData.canLay0, canLay_ints r, Bool.and_self]
theorem eqvAll_ints : ∀ a b : List Int, PyData.eqvAll (a.map PyData.int) (b.map PyData.int) = decide (a = b)
  | [], [] => by simp [PyData.eqvAll]
  | [], _ :: _ => by simp [PyData.eqvAll]
  | _ :: _, [] => by simp [PyData.eqvAll]
  | x :: a, y :: b => by
    simp only [List.map_cons, PyData.eqvAll, eqv_ii, eqvAll_ints a b, List.cons.injEq]
    by_cases h : x = y <;> by_cases k : a = b <;> simp [h, k]
@[simp] theorem eqv_ints (a b : List Int) : PyData.eqv (.list (a.map PyData.int)) (.list (b.map PyData.int)) = decide (a = b) := by
  rw [PyData.eqv, eqvAll_ints]
@[simp] theorem shaped_ints (ns : List Int) : SeqAt.shaped (.list (ns.map PyData.int)) = true := by
  unfold SeqAt.shaped
  rw [PyData.canLay0, canLay_ints, PyData.depth, depth_ints]
  rfl
@[simp] theorem shaped_intsT (ns : List Int) : SeqAt.shaped (.tuple (ns.map PyData.int)) = true := by
  unfold SeqAt.shaped
  rw [PyData.canLay0, canLay_ints, PyData.depth, depth_ints]
  rfl
@[simp] theorem shaped_i (i : Int) : SeqAt.shaped (.int i) = true := rfl
/-! ### more statements and expressions -/
section
variable {C : Ctx} {f f1 f2 f3 : Bool} {ta tb tc td : TE} {da db dc dd : DE}
@[simp] def dPar (i j : Nat) (da db : DE) : DS := fun E δ => da δ fun x => db δ fun y => E.nx ((δ.set i (some (.d x))).set j (some (.d y)))
theorem sms_par (i j : Nat) (ha : Sm C true ta da) (hb : Sm C true tb db) : SmS C (tPar i j (tCons ta (tCons tb tNil))) (dPar i j da db) := fun σ δ H0 H E D s w e =>
  ha σ δ H0 H _ _ s w fun H01 H1 v x g1 r1 w1 => hb σ δ H01 H1 _ _ (s.go g1) w1 fun H02 H2 u y g2 r2 w2 =>
    ⟨v, u, rfl, e.nx _ _ _ _ (g1.fz.trans g2.fz) ((((s.go g1).go g2).set_d i (Rp.mono g2.fz r1)).set_d j r2) w2⟩
@[simp] def dChain (g g' : PyData → PyData → (PyData → Prop) → Prop) (da db dc : DE) : DE := fun δ Φ => da δ fun x => db δ fun y => g x y fun z => ∃ k, z = .bool k ∧ if k = true then dc δ fun w => g' y w Φ else Φ (.bool false)
theorem sm_chain {r r' : R2} {g g' : PyData → PyData → (PyData → Prop) → Prop} (hr : OpD C r g) (hr' : OpD C r' g') (ha : Sm C f1 ta da) (hb : Sm C f2 tb db) (hc : Sm C f3 tc dc) : Sm C f (tChain r r' ta tb tc) (dChain g g' da db dc) := fun σ δ H0 H Φ Q s w q =>
  ha σ δ H0 H _ _ s w fun H01 H1 v x g1 r1 w1 => hb σ δ H01 H1 _ _ (s.go g1) w1 fun H02 H2 u y g2 r2 w2 =>
    hr H2 v u x y _ _ ((r1.mono g2.loc).mono g2.wf.loc) (r2.mono g2.wf.loc) w2 fun w' z hz ⟨k, e, p⟩ => by
      subst e
      have hz := hz H2
      cases hz
      refine ⟨k, rfl, ?_⟩
      cases k with
      | false => exact iteF (q _ _ _ _ (g1.trans g2) (.bl false) (by simpa using p))
      | true =>
        exact iteT (hc σ δ H02 H2 _ _ ((s.go g1).go g2) (by simpa using p) fun H03 H3 t w3 g3 r3 p3 =>
          hr' H3 u t y w3 Φ Q ((r2.mono g3.loc).mono g3.wf.loc) (r3.mono g3.wf.loc) p3 fun w' z hz p => q _ _ w' z ((g1.trans g2).trans g3) (hz _) p)
/-- an object that is not frozen, new since the start, is written -/
theorem Go.wr {H0 H H0' H' : Hp} {p : Addr} {o : HO} (w : Wf C H0 H) (hp : H p = none) (g : Go C H0 H H0' H') (hn : H0' p = none) : Go C H0 H H0' (upd H' p o) := by
  obtain ⟨he, nex⟩ := Go.he w hp
  refine ⟨⟨fun b u e => ?_, fun b u n e => ?_, g.wf.fz, g.wf.nw, fun c e => ?_⟩, g.fz, fun b u n e => ?_, g.nw⟩
  · rw [upd_ne (fun z => by rw [z, hn] at e; cases e)]; exact g.wf.sub b u e
  · rw [upd_ne (fun z => by rw [z, he] at e; cases e)]; exact g.wf.kp b u n e
  · exact (g.wf.dr c e).keep (Same.refl _) (g.wf.dr c e).no (upd_ne (fun z => nex (by rw [← z]; exact e)))
  · rw [upd_ne (fun z => by rw [z, hp] at e; cases e)]; exact g.kp b u n e
/-- {k1: a, k2: b, k3: c}[d], the keys written texts -/
@[simp] def dMenu3 (k1 k2 k3 : Str) (da db dc dd : DE) : DE := fun δ Φ => da δ fun x => db δ fun y => dc δ fun z => ∃ i j k, x = .int i ∧ y = .int j ∧ z = .int k ∧ ¬ k2 = k1 ∧ ¬ k3 = k1 ∧ ¬ k3 = k2 ∧ dd δ fun t => ∃ s, t = .str s ∧
  ((s = k1 ∧ Φ (.int i)) ∨ (s = k2 ∧ Φ (.int j)) ∨ (s = k3 ∧ Φ (.int k)))
theorem sm_menu3 {k1 k2 k3 : Str} (ha : Sm C f1 ta da) (hb : Sm C f2 tb db) (hc : Sm C f3 tc dc) (hd : Sm C false td dd) : Sm C f (tDGet (tDisp [(tC (.str k1), ta), (tC (.str k2), tb), (tC (.str k3), tc)]) td) (dMenu3 k1 k2 k3 da db dc dd) := fun σ δ H0 H Φ Q s w q => by
  intro p hp
  have gp : Go C H0 H H0 (upd H p (.dK [])) := Go.free s.toWf hp
  have nex := (Go.he s.toWf hp).2
  refine ha σ δ H0 _ _ _ (s.go gp) w fun H01 H1 v x g1 r1 w1 => hb σ δ H01 H1 _ _ ((s.go gp).go g1) w1 fun H02 H2 u y g2 r2 w2 => hc σ δ H02 H2 _ _ (((s.go gp).go g1).go g2) w2 fun H03 H3 t z g3 r3 w3 => ?_
  have g123 := (g1.trans g2).trans g3
  have hk : H3 p = some (.dK []) := g123.kp p _ nex upd_same
  have g0 := gp.trans g123
  have hn : H03 p = none := by
    cases e : H03 p with
    | none => rfl
    | some o =>
      rcases g123.nw p o e with h | h
      · rw [s.toWf.none hp] at h; cases h
      · rw [upd_same] at h; cases h
  obtain ⟨i, j, k, rfl, rfl, rfl, n1, n2, n3, w4⟩ := w3
  cases r1
  cases r2
  cases r3
  have m1 : mergeK [] [((.inr k1 : Key), V.int i), (.inr k2, .int j), (.inr k3, .int k)] = [((.inr k1 : Key), V.int i), (.inr k2, .int j), (.inr k3, .int k)] := by
    simp [mergeK, putK, Ne.symm n1, Ne.symm n2, Ne.symm n3, n1, n2, n3]
  refine ⟨hk, [((.inr k1 : Key), V.int i), (.inr k2, .int j), (.inr k3, .int k)], rfl, by simp, ?_⟩
  rw [m1]
  have g4 := Go.wr (o := .dK [((.inr k1 : Key), V.int i), (.inr k2, .int j), (.inr k3, .int k)]) s.toWf hp g0 hn
  refine hd σ δ H03 _ _ _ (s.go g4) w4 fun H05 H5 v5 x5 g5 r5 ⟨st, e5, p5⟩ => ?_
  subst e5
  cases r5
  have h5 : H5 p = some (.dK [((.inr k1 : Key), V.int i), (.inr k2, .int j), (.inr k3, .int k)]) := g5.kp p _ nex upd_same
  rcases p5 with ⟨rfl, p5⟩ | ⟨rfl, p5⟩ | ⟨rfl, p5⟩
  · refine ⟨p, .int i, rfl, .inl ⟨_, .inr st, .inl h5, rfl, ?_⟩, q _ _ _ _ (g4.trans g5) (.int i) p5⟩
    simp [valV]
  · refine ⟨p, .int j, rfl, .inl ⟨_, .inr st, .inl h5, rfl, ?_⟩, q _ _ _ _ (g4.trans g5) (.int j) p5⟩
    simp [valV, Ne.symm n1]
  · refine ⟨p, .int k, rfl, .inl ⟨_, .inr st, .inl h5, rfl, ?_⟩, q _ _ _ _ (g4.trans g5) (.int k) p5⟩
    simp [valV, Ne.symm n2, Ne.symm n3]
/-- an item of a written dict with text keys -/
def KdL (K : PySem.W.Frag) (w : World) (a : Addr) (L : List (Str × PyData)) : Prop := ∀ k v, (k, v) ∈ L → ∃ u, KDct K w a k u ∧ isScalV u = some v
theorem KdL.nil {K : PySem.W.Frag} {w : World} {a : Addr} : KdL K w a [] := fun _ _ h => nomatch h
theorem KdL.cons {K : PySem.W.Frag} {w : World} {a : Addr} {L : List (Str × PyData)} {k : Str} {v : PyData} {u : V} (h : KDct K w a k u) (e : isScalV u = some v) (t : KdL K w a L) : KdL K w a ((k, v) :: L) := fun k' v' h' => by
  rcases List.mem_cons.mp h' with h' | h'
  · cases h'; exact ⟨u, h, e⟩
  · exact t k' v' h'
theorem kd_i {K : PySem.W.Frag} {w : World} {a : Addr} {es : Array DictEntry} {n : Nat} {k : Str} {i : Int} {t : Tok} (h : K.lookup a = some ⟨.type "dict", none, .dict es n, #[]⟩) (hk : PySem.W.KeysLit w.params es.toList) (e : PySem.W.nsIn K a k = some (some (.int i t))) : KDct K w a k (.int i) := ⟨es, n, _, h, hk, e, ⟨t, rfl⟩⟩
theorem kd_s {K : PySem.W.Frag} {w : World} {a : Addr} {es : Array DictEntry} {n : Nat} {k : Str} {i : Str} {t : Tok} (h : K.lookup a = some ⟨.type "dict", none, .dict es n, #[]⟩) (hk : PySem.W.KeysLit w.params es.toList) (e : PySem.W.nsIn K a k = some (some (.str i t))) : KDct K w a k (.str i) := ⟨es, n, _, h, hk, e, ⟨t, rfl⟩⟩
theorem kx_kdict {X : Cx} {K : PySem.W.Frag} {w : World} (h : X.K = K) (h2 : X.w = w) : IxR X (rIxD K w) := by subst h h2; exact ix_kdict
@[simp] def dKd (L : List (Str × PyData)) (db : DE) : DE := fun δ Φ => db δ fun y => ∃ s v, y = .str s ∧ (s, v) ∈ L ∧ Φ v
theorem sm_kd {w : World} {a : Addr} {L : List (Str × PyData)} {v : V} (hv : v = .ref a) (hL : KdL C.K w a L) (hb : Sm C f1 tb db) : Sm C f (tOp (rIxD C.K w) (tC v) tb) (dKd L db) := fun σ δ H0 H Φ Q s w q =>
  hb σ δ H0 H _ _ s w fun H01 H1 u y g1 r1 ⟨st, z, e, m, p⟩ => by
    subst e
    cases r1
    obtain ⟨z', h1, h2⟩ := hL _ _ m
    exact ⟨a, st, z', hv, rfl, h1, q _ _ _ _ g1 (isScal_rp h2 _) p⟩
/-- a part of a text -/
abbrev DP := Dl → (Option Int → Prop) → Prop
def SmP (C : Ctx) (tp : TO) (dp : DP) : Prop := ∀ (σ : L2.St) (δ : Dl) (H0 H : Hp) (Φ : Option Int → Prop) (Q : Option Int → Hp → Prop), St C H0 H σ δ → dp δ Φ → (∀ H0' H' o, Go C H0 H H0' H' → Φ o → Q o H') → tp σ H Q
@[simp] def pNone : DP := fun _ Φ => Φ none
@[simp] def pSome (da : DE) : DP := fun δ Φ => da δ fun x => ∃ i, x = .int i ∧ Φ (some i)
theorem smp_none : SmP C tNoPart pNone := fun σ δ H0 H Φ Q s w q => q H0 H _ (.refl s.toWf) w
theorem smp_some (ha : Sm C f1 ta da) : SmP C (tPart ta) (pSome da) := fun σ δ H0 H Φ Q s w q =>
  ha σ δ H0 H _ _ s w fun H01 H1 v x g1 r1 ⟨i, e, p⟩ => by
    subst e
    cases r1
    exact ⟨i, rfl, q _ _ _ g1 p⟩
@[simp] def dSlS (da : DE) (dl dh : DP) : DE := fun δ Φ => da δ fun x => dl δ fun l => dh δ fun u => ∃ z, x = .str z ∧ z.length ≤ sizeLine ∧ Φ (.str (cutS z l u))
variable {tl th : TO} {dl dh : DP}
theorem sm_sl_str (ha : Sm C f1 ta da) (hl : SmP C tl dl) (hh : SmP C th dh) : Sm C f (tSl rSlS ta tl th) (dSlS da dl dh) := fun σ δ H0 H Φ Q s w q =>
  ha σ δ H0 H _ _ s w fun H01 H1 v x g1 r1 w1 => hl σ δ H01 H1 _ _ (s.go g1) w1 fun H02 H2 l g2 w2 => hh σ δ H02 H2 _ _ ((s.go g1).go g2) w2 fun H03 H3 u g3 ⟨z, e, hz, p⟩ => by
    subst e
    cases r1
    exact ⟨z, rfl, hz, q _ _ _ _ ((g1.trans g2).trans g3) (.str _) p⟩
end
/-! ### data without dicts, of a bounded depth and length -/
inductive Okd : Nat → PyData → Prop
  | none {n : Nat} : Okd n .none
  | bool {n : Nat} (b : Bool) : Okd n (.bool b)
  | int {n : Nat} (i : Int) : Okd n (.int i)
  | str {n : Nat} {s : Str} (h : PyData.canLay0 (.str s) = true) : Okd n (.str s)
  | list {n : Nat} {xs : List PyData} (h : ∀ y ∈ xs, Okd n y) (hl : xs.length ≤ 1000000) : Okd (n + 1) (.list xs)
  | tuple {n : Nat} {xs : List PyData} (h : ∀ y ∈ xs, Okd n y) (hl : xs.length ≤ 1000000) : Okd (n + 1) (.tuple xs)
theorem Okd.mono {n m : Nat} {x : PyData} (h : Okd n x) (hm : n ≤ m) : Okd m x := by
  induction h generalizing m with
  | none => exact .none
  | bool b => exact .bool b
  | int i => exact .int i
  | str h => exact .str h
  | list h hl ih =>
    obtain ⟨k, rfl⟩ : ∃ k, m = k + 1 := ⟨m - 1, by omega⟩
    exact .list (fun y hy => ih y hy (by omega)) hl
  | tuple h hl ih =>
    obtain ⟨k, rfl⟩ : ∃ k, m = k + 1 := ⟨m - 1, by omega⟩
    exact .tuple (fun y hy => ih y hy (by omega)) hl
theorem depthAll_le {n : Nat} : ∀ {xs : List PyData}, (∀ y ∈ xs, y.depth ≤ n) → PyData.depthAll xs ≤ n
  | [], _ => by rw [PyData.depthAll]; exact Nat.zero_le _
  | x :: xs, h => by
    rw [PyData.depthAll]
    exact Nat.max_le.mpr ⟨h x List.mem_cons_self, depthAll_le fun y hy => h y (List.mem_cons_of_mem _ hy)⟩
theorem layAll_of : ∀ {xs : List PyData}, (∀ y ∈ xs, y.canLay0 = true) → PyData.canLayAll0 xs = true
  | [], _ => by rw [PyData.canLayAll0]
  | x :: xs, h => by
    rw [PyData.canLayAll0, h x List.mem_cons_self, layAll_of fun y hy => h y (List.mem_cons_of_mem _ hy)]
    rfl
theorem Okd.depth {n : Nat} {x : PyData} (h : Okd n x) : x.depth ≤ n := by
  induction h with
  | none => rw [PyData.depth]; exact Nat.zero_le _
  | bool b => rw [PyData.depth]; exact Nat.zero_le _
  | int i => rw [PyData.depth]; exact Nat.zero_le _
  | str h => rw [PyData.depth]; exact Nat.zero_le _
  | list h hl ih => rw [PyData.depth]; exact Nat.succ_le_succ (depthAll_le ih)
  | tuple h hl ih => rw [PyData.depth]; exact Nat.succ_le_succ (depthAll_le ih)
theorem Okd.lay {n : Nat} {x : PyData} (h : Okd n x) : x.canLay0 = true := by
  induction h with
  | none => rw [PyData.canLay0]
  | bool b => rw [PyData.canLay0]
  | int i => rw [PyData.canLay0]
  | str h => exact h
  | list h hl ih => rw [PyData.canLay0]; exact layAll_of ih
  | tuple h hl ih => rw [PyData.canLay0]; exact layAll_of ih
theorem Okd.shaped {n : Nat} {x : PyData} (h : Okd n x) (hn : n ≤ 64) : SeqAt.shaped x = true := by
  unfold SeqAt.shaped
  rw [h.lay, decide_eq_true (Nat.le_trans h.depth hn)]
  rfl
/-! ### texts: a sign in a text, texts joined -/
section
variable {C : Ctx} {f f1 f2 : Bool} {ta tb : TE} {da db : DE}
@[simp] def gInS (neg : Bool) : PyData → PyData → (PyData → Prop) → Prop := fun x y Φ => ∃ (c : Nat) (z : Str), x = .str ⟨#[c]⟩ ∧ y = .str z ∧ Φ (.bool (if neg then !decide (c ∈ z.cps.toList) else decide (c ∈ z.cps.toList)))
theorem opd_inS : OpD C (fun x y H Q => ∃ (c : Nat) (z : Str), x = .str ⟨#[c]⟩ ∧ y = .str z ∧ Q (.bl (decide (c ∈ z.cps.toList))) H) (gInS false) := fun H v u x y Φ Q rv ru ⟨c, z, e1, e2, p⟩ q => by
  subst e1 e2
  cases rv
  cases ru
  exact ⟨c, z, rfl, rfl, q _ _ (fun _ => .bl _) p⟩
theorem opd_niS : OpD C (fun x y H Q => ∃ (c : Nat) (z : Str), x = .str ⟨#[c]⟩ ∧ y = .str z ∧ Q (.bl (!decide (c ∈ z.cps.toList))) H) (gInS true) := fun H v u x y Φ Q rv ru ⟨c, z, e1, e2, p⟩ q => by
  subst e1 e2
  cases rv
  cases ru
  exact ⟨c, z, rfl, rfl, q _ _ (fun _ => .bl _) p⟩
theorem rpa_strs {K : PySem.W.Frag} {H : Hp} : ∀ {vs : List V} {ys : List Str}, RpA K H vs (ys.map .str) → vs = ys.map V.str
  | _, [], .nil => rfl
  | _, y :: ys, .cons h r => by
    cases h
    rw [rpa_strs r]
    rfl
@[simp] def gCatT : PyData → PyData → (PyData → Prop) → Prop := fun x y Φ => ∃ a b, x = .str a ∧ y = .str b ∧ a.length + b.length ≤ sizeLine ∧ Φ (.str (a ++ b))
theorem opd_catS : OpD C (fun x y H Q => ∃ i j, x = V.str i ∧ y = V.str j ∧ i.length + j.length ≤ sizeLine ∧ Q (V.str (i ++ j)) H) gCatT := fun H v u x y Φ Q rv ru ⟨a, b, e1, e2, e3, p⟩ q => by
  subst e1 e2
  cases rv
  cases ru
  exact ⟨a, b, rfl, rfl, e3, q _ _ (fun _ => .str _) p⟩
@[simp] def dJoin (da db : DE) : DE := fun δ Φ => da δ fun x => ∃ a, x = .str a ∧ db δ fun y => ∃ ys : List Str, y = .list (ys.map .str) ∧ (ys.map (·.length)).sum + ys.length * a.length ≤ 16777216 ∧ Φ (.str (Txt.join a ys))
theorem sm_join (ha : Sm C f1 ta da) (hb : Sm C f2 tb db) : Sm C f (tM1 (fun x xs H Q => ∃ a p, ∃ ys : List Str, x = V.str a ∧ xs = [V.ref p] ∧ (SqL C.K H p (ys.map V.str) ∨ SqT C.K H p (ys.map V.str)) ∧ (ys.map (fun x => x.length)).sum + ys.length * a.length ≤ 16777216 ∧ Q (V.str (Txt.join a ys)) H) ta tb) (dJoin da db) := fun σ δ H0 H Φ Q s w q =>
  ha σ δ H0 H _ _ s w fun H01 H1 v x g1 r1 ⟨a, e, w1⟩ => by
    subst e
    cases r1
    refine ⟨⟨a, rfl⟩, hb σ δ H01 H1 _ _ (s.go g1) w1 fun H02 H2 u y g2 r2 ⟨ys, e, hl, p⟩ => ?_⟩
    subst e
    cases r2 with
    | lst h r =>
      have e := rpa_strs r
      subst e
      exact ⟨a, _, ys, rfl, rfl, .inl (SqL.of (g2.wf.loc _ _ h)), hl, q _ _ _ _ (g1.trans g2) (.str _) p⟩
end
/-! ### a part of a list, as a new list -/
section
variable {C : Ctx} {f f1 f2 : Bool} {ta tb : TE} {da db : DE} {tl th : TO} {dl dh : DP}
def cutDt (xs : List PyData) (lo hi : Option Int) : List PyData := List.take (HT.sIx xs.length xs.length hi - HT.sIx xs.length 0 lo) (List.drop (HT.sIx xs.length 0 lo) xs)
theorem rpa_drop {K : PySem.W.Frag} {H : Hp} : ∀ (n : Nat) {vs : List V} {xs : List PyData}, RpA K H vs xs → RpA K H (vs.drop n) (xs.drop n)
  | 0, _, _, h => h
  | n + 1, _, _, .nil => by rw [List.drop_nil, List.drop_nil]; exact .nil
  | n + 1, _, _, .cons _ r => rpa_drop n r
theorem rpa_take {K : PySem.W.Frag} {H : Hp} : ∀ (n : Nat) {vs : List V} {xs : List PyData}, RpA K H vs xs → RpA K H (vs.take n) (xs.take n)
  | 0, _, _, _ => .nil
  | n + 1, _, _, .nil => .nil
  | n + 1, _, _, .cons h r => .cons h (rpa_take n r)
theorem rpa_cut {K : PySem.W.Frag} {H : Hp} {vs : List V} {xs : List PyData} (r : RpA K H vs xs) (lo hi : Option Int) : RpA K H (cutV vs lo hi) (cutDt xs lo hi) := by
  unfold cutV cutDt
  rw [r.length]
  exact rpa_take _ (rpa_drop _ r)
@[simp] def oSlice (da : DE) (dl dh : DP) : DO := fun δ Φ => da δ fun x => dl δ fun l => dh δ fun u => ∃ xs, x = .list xs ∧ Φ (cutDt xs l u)
theorem smo_slice (ha : Sm C true ta da) (hl : SmP C tl dl) (hh : SmP C th dh) : SmO C (tSl (rSlL C.K) ta tl th) (oSlice da dl dh) := fun σ δ H0 H Φ Q s w q =>
  ha σ δ H0 H _ _ s w fun H01 H1 v x g1 r1 w1 => hl σ δ H01 H1 _ _ (s.go g1) w1 fun H02 H2 l g2 w2 => hh σ δ H02 H2 _ _ ((s.go g1).go g2) w2 fun H03 H3 u g3 ⟨xs, e, p⟩ => by
    subst e
    have r3 := (r1.mono g2.fz).mono g3.fz
    cases r3 with
    | @lst a1 us1 _ h r =>
      refine ⟨_, us1, rfl, SqL.of (g3.wf.sub _ _ h), fun l' hl' => ?_⟩
      exact q _ _ l' _ _ (((g1.trans g2).trans g3).trans (Go.free (o := .lst _) g3.wf hl')) (((g1.trans g2).trans g3).fresh hl') (g3.wf.none hl') upd_same (rpa_cut r _ _) p
end
/-! ### the least and the greatest of a list of numbers; a number as a test -/
section
variable {C : Ctx} {f f1 f2 : Bool} {ta tb : TE} {da db : DE}
theorem rpa_ints {K : PySem.W.Frag} {H : Hp} : ∀ {vs : List V} {ns : List Int}, RpA K H vs (ns.map .int) → vs = ns.map V.int
  | _, [], .nil => rfl
  | _, n :: ns, .cons h r => by
    cases h
    rw [rpa_ints r]
    rfl
@[simp] def gMinL : List PyData → (PyData → Prop) → Prop := fun xs Φ => ∃ ns : List Int, xs = [.list (ns.map .int)] ∧ 0 < ns.length ∧ ∀ m ∈ ns, (∀ y ∈ ns, m ≤ y) → Φ (.int m)
@[simp] def gMaxL : List PyData → (PyData → Prop) → Prop := fun xs Φ => ∃ ns : List Int, xs = [.list (ns.map .int)] ∧ 0 < ns.length ∧ ∀ m ∈ ns, (∀ y ∈ ns, y ≤ m) → Φ (.int m)
theorem cbd_minL : CbD C (rMin C.K) gMinL := fun H vs xs Φ Q r ⟨ns, e, hl, p⟩ q => by
  subst e
  cases r with
  | cons h n =>
    cases n
    cases h with
    | lst h r =>
      have e := rpa_ints r
      subst e
      exact ⟨_, ns, rfl, SqL.of h, hl, fun m hm hle => q _ _ (fun _ => .int _) (p m hm hle)⟩
theorem cbd_maxL : CbD C (rMax C.K) gMaxL := fun H vs xs Φ Q r ⟨ns, e, hl, p⟩ q => by
  subst e
  cases r with
  | cons h n =>
    cases n
    cases h with
    | lst h r =>
      have e := rpa_ints r
      subst e
      exact ⟨_, ns, rfl, SqL.of h, hl, fun m hm hle => q _ _ (fun _ => .int _) (p m hm hle)⟩
@[simp] def dTru (da : DE) : DT := fun δ Φ => da δ fun x => ∃ i : Int, x = .int i ∧ Φ (i != 0)
theorem smt_tru (ha : Sm C f1 ta da) : SmT C (fun σ H Q => ta σ H fun x H' => ∃ k, TruV C.K x H' k ∧ Q k H') (dTru da) := fun σ δ H0 H Φ Q s w q =>
  ha σ δ H0 H _ _ s w fun H01 H1 v x g1 r1 ⟨i, e, w1⟩ => by
    subst e
    cases r1
    exact ⟨_, rfl, q _ _ _ g1 w1⟩
end
/-! ### any and all of a list of booleans; the bits of a number -/
section
variable {C : Ctx} {f f1 f2 : Bool} {ta tb : TE} {da db : DE}
theorem rpa_bools {K : PySem.W.Frag} {H : Hp} : ∀ {vs : List V} {bs : List Bool}, RpA K H vs (bs.map .bool) → vs = bs.map V.bl
  | _, [], .nil => rfl
  | _, n :: ns, .cons h r => by
    cases h
    rw [rpa_bools r]
    rfl
@[simp] def gAnyL : List PyData → (PyData → Prop) → Prop := fun xs Φ => ∃ bs : List Bool, xs = [.list (bs.map .bool)] ∧ Φ (.bool (bs.any id))
@[simp] def gAllL : List PyData → (PyData → Prop) → Prop := fun xs Φ => ∃ bs : List Bool, xs = [.list (bs.map .bool)] ∧ Φ (.bool (bs.all id))
theorem cbd_any : CbD C (rAny C.K) gAnyL := fun H vs xs Φ Q r ⟨bs, e, p⟩ q => by
  subst e
  cases r with
  | cons h n =>
    cases n
    cases h with
    | lst h r =>
      have e := rpa_bools r
      subst e
      exact ⟨_, bs, rfl, SqL.of h, q _ _ (fun _ => .bl _) p⟩
theorem cbd_all : CbD C (rAll C.K) gAllL := fun H vs xs Φ Q r ⟨bs, e, p⟩ q => by
  subst e
  cases r with
  | cons h n =>
    cases n
    cases h with
    | lst h r =>
      have e := rpa_bools r
      subst e
      exact ⟨_, bs, rfl, SqL.of h, q _ _ (fun _ => .bl _) p⟩
theorem sm_bits (ha : Sm C f1 ta da) : Sm C f (fun σ H Q => ta σ H fun x H1 => ∃ i, x = V.int i ∧ Q (V.int (Builtin.Int.intBits i : Nat)) H1) (dUn (fun i => .int (Builtin.Int.intBits i : Nat)) da) := fun σ δ H0 H Φ Q s w q =>
  ha σ δ H0 H _ _ s w fun H01 H1 v x g1 r1 ⟨i, e, p⟩ => by
    subst e
    cases r1
    exact ⟨i, rfl, q H01 H1 _ _ g1 (.int _) p⟩
end
/-! ### a number or-ed, and-ed in place -/
theorem ip_orI {X : Cx} : PIp X .BitOr (ipI fun i j => Builtin.bitOr i j) := fun pins s σ H x y v u Q inv rx ry ⟨i, j, e1, e2, q⟩ => by
  subst e1 e2
  obtain ⟨t, rfl⟩ := rx
  obtain ⟨t', rfl⟩ := ry
  exact PyProof.Rows.ior_int ⟨.int _, H, inv.tok _, ⟨_, rfl⟩, q⟩
theorem ip_andI {X : Cx} : PIp X .BitAnd (ipI fun i j => Builtin.bitAnd i j) := fun pins s σ H x y v u Q inv rx ry ⟨i, j, e1, e2, q⟩ => by
  subst e1 e2
  obtain ⟨t, rfl⟩ := rx
  obtain ⟨t', rfl⟩ := ry
  exact PyProof.Rows.iand_int ⟨.int _, H, inv.tok _, ⟨_, rfl⟩, q⟩
/-! ### enumerate over a tuple -/
def IteT (K : PySem.W.Frag) (a : Addr) : It := { go := fun i H => ∃ xs x, SqT K H a xs ∧ xs[i]? = some x, yld := fun i H v H' => ∃ T x, v = .ref T ∧ H T = none ∧ H' = upd H T (.tup [.int (i : Int), x]) ∧ ∀ xs, SqT K H a xs → xs[i]? = some x, stop := fun i H => ∃ xs, SqT K H a xs ∧ xs.length = i }
theorem paired_len {α β : Type} {F : α → β → Prop} : ∀ {xs : List α} {ys : List β}, Paired F xs ys → xs.length = ys.length
  | _, _, .nil => rfl
  | _, _, .cons _ r => congrArg Nat.succ (paired_len r)
theorem turn_enumT {P : Program} {w : World} {K : PySem.W.Frag} {elts : List Expr} {kk : Nat} {tpos : Pos} (a e it : Addr) : Turn P w K (Expr.Tuple elts kk tpos) (IteT K a) [e, it] e fun i h => (∃ old, IsEnum h e it (i : Int) old) ∧ h.IsTupleIter it a i ∧ e ≠ it ∧ a ≠ it ∧ e ≠ a := by
  refine ⟨by simp, ?_, ?_, ?_, ?_, ?_⟩
  · rintro i h ⟨⟨old, h1⟩, ⟨o, h2, h3, h4⟩, _⟩ b hb
    simp at hb
    rcases hb with rfl | rfl
    · exact ⟨_, h1, fun v q => by cases q⟩
    · exact ⟨o, h2, fun v q => by rw [h4] at q; cases q⟩
  · rintro i h h' ⟨⟨old, h1⟩, ⟨o, h2, h3, h4⟩, h5⟩ hk
    exact ⟨⟨old, hk e (by simp) _ h1⟩, ⟨o, hk it (by simp) _ h2, h3, h4⟩, h5⟩
  · rintro X rfl rfl rfl hcalm i pins s σ H E inv fp ⟨⟨old, h1⟩, h2, n1, n2, n3⟩ ⟨xs, x, hx, hi⟩
    obtain ⟨its, hv, ht, hl⟩ := inv.tuple hx
    obtain ⟨u, hu, ru⟩ := hv.get hi
    have hlt : i < its.length := (List.getElem?_eq_some_iff.mp hu).1
    have h2b := h2
    obtain ⟨oi, hoi, _⟩ := h2b
    have le : e < s.heap.objs.size := Heap.lt_size h1
    have li : it < s.heap.objs.size := Heap.lt_size hoi
    refine wpAny_pyNext_enum_itemD (Draws.tuple (A := X.A.in1) (inv.ok.hd hcalm) it a n2 its.toArray) h1 ⟨h2, ht⟩ hlt n1 (by simp [n1, n3]) fun x' h' tk hp ho hst htup hsz hpres => ?_
    refine ⟨_, rfl, ?_⟩
    refine wpAny_letOwnedTupleGo_enum ho fun h'' hen hsame => ?_
    have hT : H s.heap.objs.size = none := inv.hok.fresh (Nat.le_refl _)
    have e1 : x' = u := by
      have : its[i]? = some x' := by simpa using hp
      rw [hu] at this
      exact (Option.some.inj this).symm
    subst e1
    have neT : s.heap.objs.size ≠ e := fun q => absurd le (by rw [← q]; exact Nat.lt_irrefl _)
    have niT : s.heap.objs.size ≠ it := fun q => absurd li (by rw [← q]; exact Nat.lt_irrefl _)
    refine ⟨.ref s.heap.objs.size, upd H s.heap.objs.size (.tup [.int (i : Int), x]), ?_, rfl, ⟨_, x, rfl, hT, rfl, fun ys hy => by rw [inv.tuple_inj hy hx]; exact hi⟩, ⟨⟨x', hen⟩, ?_, n1, n2, n3⟩, fun b hb => ?_⟩
    · refine Inv.turnedNew (s := s) (t' := tk + 1) (ch := [e, it]) inv (fun b o hb hg => ?_) fp (Nat.le_refl _) ?_
      · simp at hb
        rw [hsame.2 b hb.1]
        exact hpres b o hb.1 hb.2 hg
      · exact ⟨show 2 ≤ sizeLine by decide, [Value.int (i : Int) tk, x'], .cons ⟨tk, rfl⟩ (.cons ru .nil), _, (by rw [hsame.2 _ neT]; exact htup), rfl, _, rfl⟩
    · obtain ⟨o, o1, o2⟩ := hst.1
      exact ⟨o, by rw [hsame.2 it n1.symm]; exact o1, o2⟩
    · simp at hb
      rcases hb with rfl | rfl
      · rw [upd_ne neT.symm]; exact (fp b (by simp)).1
      · rw [upd_ne niT.symm]; exact (fp b (by simp)).1
  · rintro X rfl rfl rfl hcalm i pins s σ H E inv fp ⟨⟨old, h1⟩, h2, n1, n2, n3⟩ ⟨xs, hx, hi⟩
    obtain ⟨its, hv, ht, hl⟩ := inv.tuple hx
    have hn : its.toArray.size = i := by
      rw [List.size_toArray, ← paired_len hv]
      exact hi
    subst hn
    refine wpAny_pyNext_enum_endD (Draws.tuple (A := X.A.in1) (inv.ok.hd hcalm) it a n2 its.toArray) h1 ⟨h2, ht⟩ fun h' hext => ⟨rfl, ?_⟩
    obtain ⟨f1, f2, f3, f4, f5, f6⟩ := fp it (by simp)
    exact Inv.turned inv hext f1 f2 f4 f5 f6
  · rintro A i s Q E ⟨⟨old, h1⟩, h2⟩ hq
    exact wpAny_pyIter_enum h1 hq
theorem newc (v : Value) : Builtin.SmallTypes.newClass "enumerate" { pos := [Value.type "enumerate", v] } = pure (Value.type "enumerate", [v]) := by
  unfold Builtin.SmallTypes.newClass
  show (do let a ← isSubtype (Value.type "enumerate") (Value.type "enumerate"); _) = _
  rw [sub_enumerate]
  rfl
theorem wp_ite {M : Model} {A : Around} {α : Type} {E : Value → Shared → Prop} {s : Shared} {Q : α → Shared → Prop} {c : Prop} {d : Decidable c} {t u : Sem α} (h1 : wpAny M A t Q E s) (h2 : wpAny M A u Q E s) : wpAny M A (@ite _ c d t u) Q E s := by
  split
  · exact h1
  · exact h2
theorem wp_else {M : Model} {A : Around} {α : Type} {E : Value → Shared → Prop} {s : Shared} {Q : α → Shared → Prop} {c : Prop} {d : Decidable c} {t u : Sem α} (h : ¬ c) (h2 : wpAny M A u Q E s) : wpAny M A (@ite _ c d t u) Q E s := by
  rw [if_neg h]
  exact h2
theorem meets_enum1 {v : Value} {o : Obj} {H : Heap → Prop} (hb : Begins v o H) : Meets (Builtin.«enumerate.__new__» { pos := [Value.type "enumerate", v] }) (fun A R s => H s.heap ∧ R (.ok (.ret (Value.ref (s.heap.push o).objs.size))) { heap := (s.heap.push o).push { cls := Value.type "enumerate", data := Data.fields #[Value.none, Value.bool false, Value.ref s.heap.objs.size, rawInt 0, Value.none, Value.none] }, gens := s.gens, drawn := s.drawn, toks := s.toks, os := s.os }) := by
  refine Meets.of_wp fun prog w A R s h => ?_
  obtain ⟨hh, hr⟩ := h
  unfold Builtin.«enumerate.__new__»
  refine wpAny_bind ?_
  refine wpAny_of_eq (newc v) ?_
  dsimp only
  rw [if_pos (by decide)]
  refine wpAny_bind ?_
  unfold Builtin.SmallTypes.calledThroughType
  refine wpAny_bind ?_
  refine wpAny_stack_any fun st => ?_
  refine wpAny_pure ?_
  have fin : wpAny (model prog w) A.in1 (do
      let i ← pyIter v
      let r ← Builtin.SmallTypes.newRecord (Value.type "enumerate") (Builtin.SmallTypes.ownedTupleFields ++ [i, rawInt 0, Value.none, Value.none])
      ret r) (fun fin s' => ∃ v, fin = Fin.done (Flow.ret v) ∧ R (Except.ok (Flow.ret v)) s') (fun e s' => R (Except.error e) s') s := by
    refine wpAny_bind ?_
    refine hb.iter prog w A.in1 _ s _ hh ?_
    refine wpAny_bind ?_
    unfold Builtin.SmallTypes.newRecord
    dsimp only
    unfold newObj
    dsimp only
    refine wp_else (show ¬ 6 > sizeLine + 2 by decide) ?_
    unfold newObjAsIs
    refine wpAny_bind ?_
    refine wpAny_alloc' ?_
    refine wpAny_pure ?_
    exact wpAny_pure ⟨_, rfl, hr⟩
  refine wp_ite ?_ ?_
  · refine wpAny_bind ?_
    refine wpAny_of_eq (a := (v, none)) rfl ?_
    exact fin
  · refine wpAny_bind ?_
    refine wpAny_of_eq (a := (v, none)) rfl ?_
    exact fin

theorem call_enum1 {prog : Program} {w : World} {A : Around} {E : Value → Shared → Prop} {s : Shared} {v : Value} {o : Obj} {H : Heap → Prop} {Q : Value → Shared → Prop} (hb : Begins v o H) (hh : H s.heap)
    (hq : ∀ (h' : Heap), IsEnum h' (s.heap.objs.size + 1) s.heap.objs.size 0 Value.none → h'.get? s.heap.objs.size = some o → h'.objs.size = s.heap.objs.size + 2 → (∀ (b : Addr) (o : Obj), s.heap.get? b = some o → h'.get? b = some o) → Q (Value.ref (s.heap.objs.size + 1)) { heap := h', gens := s.gens, drawn := s.drawn, toks := s.toks, os := s.os }) :
    wpAny (model prog w) A (call (Value.type "enumerate") [v]) Q E s := by
  refine callType_new F.called_enumerate (by decide) (F.typeCall_enumerate_1 _) (F.newCall_enumerate_1 _) (fun obj => F.args_object_init_2 _ _) F.entry_enumerate_new (meets_enum1 hb) ⟨hh, ?_⟩
  have e1 : (s.heap.push o).objs.size = s.heap.objs.size + 1 := Heap.size_push _ _
  have g1 : (s.heap.push o).get? s.heap.objs.size = some o := Heap.get?_push_size _ hb.free
  have g2 := Heap.get?_push_size (s.heap.push o) (o := { cls := Value.type "enumerate", data := Data.fields #[Value.none, Value.bool false, Value.ref s.heap.objs.size, rawInt 0, Value.none, Value.none] }) rfl
  refine ⟨⟨_, g2, rfl⟩, ?_⟩
  rw [e1] at g2 ⊢
  refine hq _ g2 (Heap.get?_push_of_some _ g1) ?_ (fun b o' h => Heap.get?_push_of_some _ (Heap.get?_push_of_some _ h))
  rw [Heap.size_push, e1]

def iEnumT : PySem.W.Frag → TA → TI := fun K ta σ H R => ta σ H fun vs H1 => ∃ a xs, vs = [V.ref a] ∧ SqT K H1 a xs ∧ R (IteT K a) H1
theorem pi_enumT {X : Cx} {e : Expr} {ta : TA} {p pos tpos : Pos} {elts : List Expr} {kk : Nat} (hg : Gl X "enumerate") (hm : X.mg "enumerate" = none) (ha : PA X [e] ta) (hs : starEach [e] X.env = [(false, eval e X.env)] := by rfl) : PI X (Expr.Tuple elts kk tpos) ((Expr.Name "enumerate" p).Call [e] [] pos) (iEnumT X.K ta) := ⟨fun pins s σ H R inv h => by
  refine PyProof.Rows.Call_ (ld_blt inv hg hm PyProof.Rows.boot_enumerate ?_)
  refine PyProof.Rows.callWith_type1 (thn (ha.run pos pins s σ H _ inv h) fun us s1 ap => ?_) (by rw [hs]; rfl)
  obtain ⟨vs, H1, inv1, hv, a, xs, rfl, hx, hr⟩ := ap
  cases hv with
  | cons r n =>
    cases n
    obtain rfl := r
    obtain ⟨its, hv2, ht, hl⟩ := inv1.tuple hx
    have ht2 := ht
    obtain ⟨oa, hoa, _⟩ := ht2
    have la := Heap.lt_size hoa
    refine call_enum1 (begins_tuple a its.toArray) ht fun h' h1 h2 h3 h4 => ?_
    refine wpAny_pyIter_enum h1 ?_
    have na : a ≠ s1.heap.objs.size := fun q => absurd la (by rw [q]; exact Nat.lt_irrefl _)
    have ne : s1.heap.objs.size + 1 ≠ a := fun q => absurd la (by rw [← q]; exact Nat.not_lt.mpr (Nat.le_succ _))
    refine ⟨_, [s1.heap.objs.size + 1, s1.heap.objs.size], _, IteT X.K a, H1, rfl, inv1.kept (t' := s1.toks) h4, turn_enumT a (s1.heap.objs.size + 1) s1.heap.objs.size, ⟨⟨_, h1⟩, ⟨_, h2, rfl, rfl⟩, Nat.succ_ne_self _, na, ne⟩, fun b hb => ?_, hr⟩
    simp at hb
    have hle : s1.heap.objs.size ≤ b := by
      rcases hb with rfl | rfl
      · exact Nat.le_succ _
      · exact Nat.le_refl _
    exact inv1.fpOk hle (inv1.hok.fresh hle)⟩

section
variable {C : Ctx} {ta : TE} {da : DE}
@[simp] def iEnT (da : DE) : DI := fun δ Φ => da δ fun x => ∃ xs, x = .tuple xs ∧ Φ (enumD xs)
theorem smi_enumT (ha : Sm C true ta da) : SmI C (iEnumT C.K (tCons ta tNil)) (iEnT da) := fun σ δ H0 H Φ R s w q =>
  ha σ δ H0 H _ _ s w fun H01 H1 v x g1 r1 ⟨xs, e, p⟩ => by
    subst e
    cases r1 with
    | @tup a us _ h r =>
      refine ⟨a, us, rfl, same_t g1.wf.sub h, q _ _ _ _ g1 ⟨fun H0' H' i e w hi => ?_, fun H0' H' i e w hi => ?_, fun H0' H' i v H'' e w hi y => ?_⟩ p⟩
      · rw [enumD_len] at hi
        exact ⟨us, same_t w.sub (same_t e h), r.length.trans hi⟩
      · rw [enumD_len] at hi
        obtain ⟨y, hy⟩ := get_lt hi
        obtain ⟨v, h1, h2⟩ := r.get hy
        exact ⟨us, v, same_t w.sub (same_t e h), h1⟩
      · rw [enumD_len] at hi
        obtain ⟨T, z, rfl, hT, rfl, y⟩ := y
        have y := y us (same_t w.sub (same_t e h))
        obtain ⟨d, hd, rd⟩ := r.get' y
        obtain ⟨H0'', g, r2⟩ := tup_new w hT (.cons (.int (i : Int)) (.cons (rd.mono e) .nil))
        exact ⟨H0'', _, g, enumD_get hd, r2⟩
end
end VL

/-! More rules of the layer: texts by their letters, tuples added and cut, comprehensions with any target. -/
namespace VL
open PySem L2
theorem ofStr_inj_h {a b : String} (h : Str.ofString a = Str.ofString b) : a = b := by
  rw [Str.ofString_eq_toList, Str.ofString_eq_toList] at h
  have h1 := congrArg Str.cps h
  have h2 : a.toList.map Char.toNat = b.toList.map Char.toNat := by
    have := congrArg Array.toList h1
    simpa using this
  have h3 : a.toList = b.toList := by
    exact (List.map_inj_right (fun x y e => Char.ext (UInt32.toNat_inj.mp e))).mp h2
  exact String.toList_inj.mp h3
@[simp] theorem ofStr_inj (a b : String) : (Str.ofString a = Str.ofString b) = (a = b) := propext ⟨ofStr_inj_h, fun h => by rw [h]⟩
section
variable {C : Ctx} {f f1 f2 : Bool} {ta tb : TE} {da db : DE} {tl th : TO} {dl dh : DP}
/-! ### tuples added, a part of a tuple -/
theorem kx_catA {X : Cx} {K : PySem.W.Frag} (h : X.K = K) : OpR X (binaryOp .Add) (rCatA K) := by subst h; exact op_catA
theorem kx_slTA {X : Cx} {K : PySem.W.Frag} (h : X.K = K) : SlR X (rSlA K) := by subst h; exact sl_tupA
@[simp] def dCatA (da db : DE) : DE := fun δ Φ => da δ fun x => db δ fun y => ∃ xs ys, x = .tuple xs ∧ y = .tuple ys ∧ xs.length + ys.length ≤ sizeLine ∧ Φ (.tuple (xs ++ ys))
theorem sm_catA (ha : Sm C true ta da) (hb : Sm C true tb db) : Sm C f (tOp (rCatA C.K) ta tb) (dCatA da db) := fun σ δ H0 H Φ Q s w q =>
  ha σ δ H0 H _ _ s w fun H01 H1 v x g1 r1 w1 => hb σ δ H01 H1 _ _ (s.go g1) w1 fun H02 H2 u y g2 r2 ⟨xs, ys, e1, e2, e3, pp⟩ => by
    subst e1 e2
    have r3 := r1.mono g2.fz
    cases r3 with
    | @tup a1 us1 _ h r =>
      cases r2 with
      | @tup a2 us2 _ h' r' =>
        refine ⟨a1, a2, us1, us2, rfl, rfl, same_t g2.wf.sub h, same_t g2.wf.sub h', by rw [r.length, r'.length]; exact e3, fun z => ?_, fun z1 z2 => ?_, fun z1 z2 p hp => ?_⟩
        · subst z
          cases r
          exact q _ _ _ _ (g1.trans g2) (Rp.mono g2.wf.to (.tup h' r')) pp
        · subst z2
          cases r'
          rw [List.append_nil] at pp
          exact q _ _ _ _ (g1.trans g2) (Rp.mono g2.wf.to (.tup h r)) pp
        · have g3 := Go.new (o := .tup (us1 ++ us2)) g2.wf hp
          exact q _ _ _ _ ((g1.trans g2).trans g3) (Rp.mono g3.wf.to (.tup (SqT.of upd_same) ((r.append r').mono (Go.same_new (g2.wf.none hp))))) pp
theorem cutDt_whole {xs : List PyData} {lo hi : Option Int} (h : HT.sIx xs.length 0 lo = 0 ∧ HT.sIx xs.length xs.length hi = xs.length) : cutDt xs lo hi = xs := by
  unfold cutDt
  rw [h.1, h.2, List.drop_zero, Nat.sub_zero, List.take_length]
@[simp] def dSlT (da : DE) (dl dh : DP) : DE := fun δ Φ => da δ fun x => dl δ fun l => dh δ fun u => ∃ xs, x = .tuple xs ∧ Φ (.tuple (cutDt xs l u))
theorem sm_sl_tupA (ha : Sm C true ta da) (hl : SmP C tl dl) (hh : SmP C th dh) : Sm C f (tSl (rSlA C.K) ta tl th) (dSlT da dl dh) := fun σ δ H0 H Φ Q s w q =>
  ha σ δ H0 H _ _ s w fun H01 H1 v x g1 r1 w1 => hl σ δ H01 H1 _ _ (s.go g1) w1 fun H02 H2 l g2 w2 => hh σ δ H02 H2 _ _ ((s.go g1).go g2) w2 fun H03 H3 u g3 ⟨xs, e, p⟩ => by
    subst e
    have r3 := (r1.mono g2.fz).mono g3.fz
    cases r3 with
    | @tup a1 us1 _ h r =>
      have g123 := (g1.trans g2).trans g3
      refine ⟨a1, us1, rfl, same_t g3.wf.sub h, fun z => ?_, fun z p' hp => ?_⟩
      · rw [r.length] at z
        rw [cutDt_whole z] at p
        exact q _ _ _ _ g123 (Rp.mono g3.wf.to (.tup h r)) p
      · have g4 := Go.new (o := .tup (cutV us1 l u)) g3.wf hp
        exact q _ _ _ _ (g123.trans g4) (Rp.mono g4.wf.to (.tup (SqT.of upd_same) ((rpa_cut r l u).mono (Go.same_new (g3.wf.none hp))))) p
end
/-! ### comprehensions with any target of names -/
theorem wipe_set_out {σ : L2.St} {i : Nat} {x : Option V} : ∀ {vs : List Nat}, i ∉ vs → wipe (σ.set i x) vs = (wipe σ vs).set i x
  | [], _ => rfl
  | v :: vs, h => by
    rw [List.mem_cons, not_or] at h
    show (wipe (σ.set i x) vs).set v none = ((wipe σ vs).set v none).set i x
    rw [wipe_set_out h.2, List.set_comm _ _ h.1]
theorem wipe_set_in {σ : L2.St} {i : Nat} {x : Option V} : ∀ {vs : List Nat}, i ∈ vs → wipe (σ.set i x) vs = wipe σ vs
  | v :: vs, h => by
    show (wipe (σ.set i x) vs).set v none = (wipe σ vs).set v none
    by_cases k : i ∈ vs
    · rw [wipe_set_in k]
    · have e : i = v := by
        rcases List.mem_cons.mp h with h | h
        · exact h
        · exact absurd h k
      subst e
      rw [wipe_set_out k, List.set_set]
theorem wipe_wipe {σ : L2.St} : ∀ {vs : List Nat}, wipe (wipe σ vs) vs = wipe σ vs
  | [] => rfl
  | v :: vs => by
    show (wipe ((wipe σ vs).set v none) vs).set v none = (wipe σ vs).set v none
    by_cases k : v ∈ vs
    · rw [wipe_set_in k, wipe_wipe]
    · rw [wipe_set_out k, wipe_wipe, List.set_set]
def dwipe (δ : Dl) : List Nat → Dl
  | [] => δ
  | v :: vs => (dwipe δ vs).set v none
@[simp] theorem dwipe_nil (δ : Dl) : dwipe δ [] = δ := rfl
@[simp] theorem dwipe_cons (δ : Dl) (v : Nat) (vs : List Nat) : dwipe δ (v :: vs) = (dwipe δ vs).set v none := rfl
theorem St.wipe {C : Ctx} {H0 H : Hp} {σ : L2.St} {δ : Dl} (s : St C H0 H σ δ) : ∀ vs : List Nat, St C H0 H (L2.wipe σ vs) (dwipe δ vs)
  | [] => s
  | v :: vs => (St.wipe s vs).none v
def Kps (own : List Nat) (g : TG) : Prop := ∀ v σ H Q, g v σ H Q → g v σ H fun σ' H' => wipe σ' own = wipe σ own ∧ Q σ' H'
def KpsS (own : List Nat) (g : TGs) : Prop := ∀ v σ H Q, g v σ H Q → g v σ H fun σ' H' => wipe σ' own = wipe σ own ∧ Q σ' H'
theorem kps_name {own : List Nat} {i : Nat} (h : i ∈ own) : Kps own (gName i) := fun v σ H Q q => ⟨wipe_set_in h, q⟩
theorem kps_nil {own : List Nat} : KpsS own gNil := fun v σ H Q ⟨e, q⟩ => ⟨e, rfl, q⟩
theorem gcons_mono {t : TG} {u : TGs} {vs : List V} {σ : L2.St} {H : Hp} {Q : L2.St → Hp → Prop} : gCons t u vs σ H Q ↔ ∃ v r, vs = v :: r ∧ t v σ H fun σ' H' => u r σ' H' Q := Iff.rfl
theorem kps_cons {own : List Nat} {i : Nat} {gs : TGs} (h : i ∈ own) (k : KpsS own gs) : KpsS own (gCons (gName i) gs) := fun vs σ H Q ⟨v, r, e, q⟩ => by
  refine ⟨v, r, e, ?_⟩
  have := k r (σ.set i (some v)) H Q q
  rw [wipe_set_in h] at this
  exact this
theorem kps_tup {own : List Nat} {K : PySem.W.Frag} {n : Nat} {gs : TGs} (k : KpsS own gs) : Kps own (gTup K n gs) := fun v σ H Q ⟨a, xs, e, h, hl, q⟩ => ⟨a, xs, e, h, hl, k xs σ H Q q⟩
def oLcG (di : DI) (own : List Nat) (dg : DG) (dt : DT) (de : DE) : DO := fun δ Φ => di δ fun xs => ∃ I : Nat → List PyData → Prop, I 0 [] ∧
  (∀ k y acc, xs[k]? = some y → I k acc → dg y (dwipe δ own) fun δ' => dt δ' fun b => if b = true then de δ' fun z => acc.length < sizeLine ∧ I (k + 1) (acc ++ [z]) else I (k + 1) acc) ∧ ∀ acc, I xs.length acc → Φ acc
section
variable {C : Ctx} {te : TE} {de : DE} {tt : TT} {dt : DT} {g : TG} {dg : DG} {ti : TI} {di : DI}
theorem smo_lcG {own : List Nat} (hk : Kps own g) (hi : SmI C ti di) (hg : SmG C g dg) (ht : SmT C tt dt) (he : Sm C true te de) : SmO C (tLc ti g tt te own) (oLcG di own dg dt de) := fun σ δ H0 H Φ Q s w q =>
  hi σ δ H0 H _ _ s w fun H01 H1 J xs g1 wk ⟨I, i0, it, ie⟩ D hD => by
    have hD0 : H D = none := g1.fresh hD
    refine ⟨fun k m H' => m = xs.length - k ∧ k ≤ xs.length ∧ ∃ H0' us acc, Go C H01 H1 H0' H' ∧ H0' D = none ∧ H' D = some (.lst us) ∧ RpA C.K H0' us acc ∧ I k acc, ⟨_, rfl, Nat.zero_le _, H01, [], [], Go.free g1.wf hD, g1.wf.none hD, upd_same, .nil, i0⟩, ?_⟩
    rintro k m H' ⟨rfl, hk', H0', us, acc, g2, hn, hl, r, p⟩
    have nex : C.ex ≠ some D := (Go.he g1.wf hD).2
    by_cases hlt : k < xs.length
    · refine .inr ⟨wk.go H0' H' k g2.fz g2.wf hlt, fun H3 => ∃ H0' us acc, Go C H01 H1 H0' H3 ∧ H0' D = none ∧ H3 D = some (.lst us) ∧ RpA C.K H0' us acc ∧ I (k + 1) acc, fun H3 h => ⟨_, by omega, rfl, hlt, h⟩, fun v H'' y => ?_⟩
      obtain ⟨H02, z, g3, hz, rz⟩ := wk.yld H0' H' k v H'' g2.fz g2.wf hlt y
      have g23 := g2.trans g3
      have keep : ∀ {A B : Hp}, Go C H02 H'' A B → A D = none ∧ B D = some (.lst us) := fun {A B} gg => by
        have h1 : B D = some (.lst us) := gg.kp D _ nex (g3.kp D _ nex hl)
        refine ⟨?_, h1⟩
        cases e : A D with
        | none => rfl
        | some u =>
          rcases (g3.trans gg).nw D u e with h2 | h2
          · rw [hn] at h2; cases h2
          · rw [hl] at h2; cases h2
      have sw : St C H02 H'' (wipe σ own) (dwipe δ own) := (s.go ((g1.trans g2).trans g3)).wipe own
      have fin := hk v (wipe σ own) H'' _ (hg v z (wipe σ own) (dwipe δ own) H02 H'' _ (fun σ2 H2 => tt σ2 H2 fun b H3 => if b = true then te σ2 H3 fun y H4 => ∃ acc, H4 D = some (.lst acc) ∧ acc.length < sizeLine ∧ ∃ H0' us acc', Go C H01 H1 H0' (upd H4 D (.lst (acc ++ [y]))) ∧ H0' D = none ∧ (upd H4 D (.lst (acc ++ [y]))) D = some (.lst us) ∧ RpA C.K H0' us acc' ∧ I (k + 1) acc' else ∃ H0' us acc, Go C H01 H1 H0' H3 ∧ H0' D = none ∧ H3 D = some (.lst us) ∧ RpA C.K H0' us acc ∧ I (k + 1) acc) sw rz (it k z acc hz p) fun σ2 δ2 s2 w2 => ?_)
      · rw [wipe_wipe] at fin
        exact fin
      · refine ht _ _ H02 H'' _ _ s2 w2 fun H04 H4 b g4 w4 => ?_
        cases b with
        | false => exact iteF ⟨H04, us, acc, g23.trans g4, (keep g4).1, (keep g4).2, r.mono (g3.fz.trans g4.fz), by simpa using w4⟩
        | true =>
          refine iteT (he _ _ H04 H4 (fun z => acc.length < sizeLine ∧ I (k + 1) (acc ++ [z])) _ (s2.go g4) (by simpa using w4) fun H05 H5 y' z' g5 r5 ⟨w5, p5⟩ => ?_)
          have k5 := keep (g4.trans g5)
          refine ⟨us, k5.2, by rw [r.length]; exact w5, H05, us ++ [y'], acc ++ [z'], ?_, k5.1, upd_same, (r.mono (g3.fz.trans (g4.fz.trans g5.fz))).snoc r5, p5⟩
          have gg := (g23.trans g4).trans g5
          refine ⟨⟨fun b u e => ?_, fun b u n e => ?_, gg.wf.fz, gg.wf.nw, fun c e => ?_⟩, gg.fz, fun b u n e => ?_, gg.nw⟩
          · rw [upd_ne (fun z => by rw [z, k5.1] at e; cases e)]; exact gg.wf.sub b u e
          · rw [upd_ne (fun z => by rw [z, (Go.he g1.wf hD).1] at e; cases e)]; exact gg.wf.kp b u n e
          · exact (gg.wf.dr c e).keep (Same.refl _) (gg.wf.dr c e).no (upd_ne (fun z => nex (by rw [← z]; exact e)))
          · rw [upd_ne (fun z => by rw [z, hD] at e; cases e)]; exact gg.kp b u n e
    · have hk' : k = xs.length := by omega
      refine .inl ⟨wk.stop H0' H' k g2.fz g2.wf (by omega), q H0' H' D us acc (g1.trans g2) hD0 hn hl r (ie acc (hk' ▸ p))⟩
end
/-! ### loops by an invariant, their bodies untouched -/
theorem dFor_n {da : DE} {i : Nat} {db : DS} {E : DEnds} {δ : Dl} {n : Nat} (hn : n < 4611686018427387904) (h : ∀ Ψ : PyData → Prop, Ψ (.int n) → da δ Ψ) (I : Nat → Dl → Prop) (h0 : I 0 δ)
    (hs : ∀ (k : Nat) (δ' : Dl), k < n → I k δ' → db { E with nx := I (k + 1), ct := I (k + 1), bk := E.nx } (δ'.set i (some (.d (.int k))))) (he : ∀ δ', I n δ' → E.nx δ') : dFor (iR1 da) (dgName i) db E δ := by
  unfold dFor
  refine h _ ⟨n, rfl, by omega, by omega, I, h0, fun k y δ' hy hI => ?_, fun δ' hI => ?_⟩
  · obtain ⟨hk, rfl⟩ := rng_get hy
    have := hs k δ' hk hI
    rw [show (k : Int) = 0 + (k : Int) from (Int.zero_add _).symm] at this
    exact this
  · rw [rng_len] at hI
    exact he δ' hI
theorem dFor_w {di : DI} {dg : DG} {db : DS} {E : DEnds} {δ : Dl} {xs : List PyData} (h : ∀ Ψ : List PyData → Prop, Ψ xs → di δ Ψ) (I : Nat → Dl → Prop) (h0 : I 0 δ)
    (hs : ∀ (k : Nat) (y : PyData) (δ' : Dl), xs[k]? = some y → I k δ' → dg y δ' fun δ'' => db { E with nx := I (k + 1), ct := I (k + 1), bk := E.nx } δ'') (he : ∀ δ', I xs.length δ' → E.nx δ') : dFor di dg db E δ := by
  unfold dFor
  exact h _ ⟨I, h0, hs, he⟩
/-! ### side conditions that numbers settle -/
theorem le_size {n : Nat} (h : n ≤ 1000000) : (n ≤ sizeLine) = True := eq_true (Nat.le_trans h (by decide))
theorem lt_size {n : Nat} (h : n ≤ 1000000) : (n < sizeLine) = True := eq_true (Nat.lt_of_le_of_lt h (by decide))
theorem cmul_l {i j : Int} (h0 : -1000000000000000000 < i) (h1 : i < 1000000000000000000) : CMul i j = True := eq_true (.inl ⟨by omega, by omega⟩)
theorem cpow_l {i j : Int} (h0 : 0 ≤ j) (h1 : j ≤ 1000) (h2 : -1000000 ≤ i) (h3 : i ≤ 1000000) : CPow i j = True := eq_true ⟨h0, by omega, by omega⟩
theorem cdiv_l {i j : Int} (h0 : 0 < j) (h1 : j ≤ 18446744073709551616) : CDivW i j = True := eq_true ⟨h0, Nat.lt_of_lt_of_le (PySem.Flt.log2_lt_of (k := 65) (by decide) (by omega)) (by decide)⟩
@[simp] theorem own_ex2 {α β : Type} {a0 : α} {xs0 : β} {P : α → β → Prop} : (∃ a xs, (a0 = a ∧ xs = xs0) ∧ P a xs) ↔ P a0 xs0 := ⟨fun ⟨_, _, ⟨e1, e2⟩, h⟩ => by subst e1 e2; exact h, fun h => ⟨_, _, ⟨rfl, rfl⟩, h⟩⟩
/-- a statement at a time: what follows is a letter -/
theorem seq_op {d1 d2 : DS} {E : DEnds} {δ : Dl} (h : ∀ N : Dl → Prop, (∀ δ', d2 E δ' → N δ') → d1 { E with nx := N } δ) : dSeq d1 d2 E δ := h _ fun _ h => h
end VL

/-! max of a list of numbers, with a default. -/
namespace VL
open PySem L2
def rMaxD (K : PySem.W.Frag) : List V → List V → Hp → VK → Prop := fun xs zs H Q => ∃ (a : Addr) (ns : List Int) (d : Int), xs = [V.ref a] ∧ zs = [V.int d] ∧ SqL K H a (ns.map V.int) ∧ (ns = [] → Q (V.int d) H) ∧ ∀ m ∈ ns, (∀ y ∈ ns, y ≤ m) → Q (V.int m) H
theorem reads_ints {h : Heap} : ∀ {us : List Value} {ns : List Int}, PyProof.Rows.IntsAre us ns → ReadsAll h us (ns.map .int) []
  | _, _, .nil => .nil
  | _, _, .cons n t r => .cons (.int n t) (reads_ints r)
theorem foldl_max (n : Int) : ∀ ns : List Int, ns.foldl max n ∈ n :: ns ∧ ∀ y ∈ n :: ns, y ≤ ns.foldl max n := by
  intro ns
  induction ns generalizing n with
  | nil => exact ⟨List.mem_cons_self, fun y hy => by rw [List.mem_singleton.mp hy]; exact Int.le_refl _⟩
  | cons k r ih =>
    obtain ⟨h1, h2⟩ := ih (max n k)
    rw [List.foldl_cons]
    refine ⟨?_, fun y hy => ?_⟩
    · rcases List.mem_cons.mp h1 with h1 | h1
      · rw [h1]
        by_cases c : n ≤ k
        · rw [Int.max_eq_right c]; simp
        · rw [Int.max_eq_left (by omega)]; simp
      · simp [h1]
    · have hm := h2 (max n k) List.mem_cons_self
      rcases List.mem_cons.mp hy with rfl | hy
      · omega
      · rcases List.mem_cons.mp hy with rfl | hy
        · omega
        · exact h2 y (List.mem_cons_of_mem _ hy)
theorem crk_maxD {X : Cx} (hc : X.calm = true) (hu : X.A.units + 1 < cLine) : CallRK X (.builtin "max") ["default"] (rMaxD X.K) := by
  intro pins s σ H xs zs us ws Q I r1 r2 h
  obtain ⟨a, ns, d, rfl, rfl, hs, q0, q1⟩ := h
  obtain ⟨its, rv, hl, _⟩ := I.list hs
  rw [Vals.ref1 r1]
  cases r2 with
  | cons rd rn =>
    cases rn
    obtain ⟨t, rfl⟩ := rd
    have hi := rv.ints
    refine PySem.W.max_list_default (I.ok.hd hc) hl.isList (reads_ints hi) ⟨?_, ?_⟩ ?_ ?_ ?_
    · intro x hx y hy
      obtain ⟨i, _, rfl⟩ := List.mem_map.mp hx
      obtain ⟨j, _, rfl⟩ := List.mem_map.mp hy
      rfl
    · intro x hx
      obtain ⟨i, _, rfl⟩ := List.mem_map.mp hx
      intro z
      cases z
    · rw [depth_ints]
      exact hu
    · intro e h' tk hk
      exact ⟨.int _, H, I.kept hk, ⟨_, rfl⟩, q0 (List.map_eq_nil_iff.mp e)⟩
    · intro y ys i v h' tk bs e hv hr hk
      cases ns with
      | nil => cases e
      | cons n ns =>
        cases e
        rw [PySem.W.maxD_ints] at hr
        cases hr
        obtain ⟨m1, m2⟩ := foldl_max n ns
        exact ⟨.int _, H, I.kept hk, ⟨_, rfl⟩, q1 _ m1 m2⟩
theorem kx_maxD {X : Cx} {K : PySem.W.Frag} (h : X.K = K) (hc : X.calm = true) (hu : X.A.units + 1 < cLine) : CallRK X (.builtin "max") ["default"] (rMaxD K) := by subst h; exact crk_maxD hc hu
section
variable {C : Ctx} {f f1 f2 : Bool} {ta tb : TE} {da db : DE}
@[simp] def dMaxD (da db : DE) : DE := fun δ Φ => da δ fun x => db δ fun y => ∃ (ns : List Int) (d : Int), x = .list (ns.map .int) ∧ y = .int d ∧ (ns = [] → Φ (.int d)) ∧ ∀ m ∈ ns, (∀ y ∈ ns, y ≤ m) → Φ (.int m)
theorem sm_maxD (ha : Sm C f1 ta da) (hb : Sm C f2 tb db) : Sm C f (tCKw (rMaxD C.K) (tCons ta tNil) (tCons tb tNil)) (dMaxD da db) := fun σ δ H0 H Φ Q s w q =>
  ha σ δ H0 H _ _ s w fun H01 H1 v x g1 r1 w1 => hb σ δ H01 H1 _ _ (s.go g1) w1 fun H02 H2 u y g2 r2 ⟨ns, d, e1, e2, q0, q1⟩ => by
    subst e1 e2
    have r3 := r1.mono g2.loc
    cases r3 with
    | lst h r =>
      have e := rpa_ints r
      subst e
      cases r2
      exact ⟨_, ns, d, rfl, rfl, SqL.of (g2.wf.loc _ _ h), fun e => q _ _ _ _ (g1.trans g2) (.int _) (q0 e), fun m m1 m2 => q _ _ _ _ (g1.trans g2) (.int _) (q1 m m1 m2)⟩
end
end VL
namespace VL
open PySem L2
/-! ### a written tuple of the program's top -/
def KTu (K : PySem.W.Frag) (a : Addr) (ds : List PyData) : Prop := ∃ xs : List V, (∃ (o : Obj) (its : Array Value) (n : Nat), K.lookup a = some o ∧ o.cls = .type "tuple" ∧ o.data = .seq its n ∧ its.size ≤ sizeLine ∧ Vals xs its.toList) ∧ ∀ H, RpA K H xs ds
/-- scalar items as values -/
inductive PaiV : List Value → List PyData → Prop
  | nil : PaiV [] []
  | cons {v : Value} {d : PyData} {vs : List Value} {ds : List PyData} (h : (∃ x : V, RelV x v ∧ isScalV x = some d)) (r : PaiV vs ds) : PaiV (v :: vs) (d :: ds)
theorem PaiV.n : ∃ x : V, RelV x Value.none ∧ isScalV x = some .none := ⟨.non, rfl, rfl⟩
theorem PaiV.b {k : Bool} : ∃ x : V, RelV x (Value.bool k) ∧ isScalV x = some (.bool k) := ⟨.bl k, rfl, rfl⟩
theorem PaiV.i {k : Int} {t : Tok} : ∃ x : V, RelV x (Value.int k t) ∧ isScalV x = some (.int k) := ⟨.int k, ⟨t, rfl⟩, rfl⟩
theorem PaiV.s {k : Str} {t : Tok} : ∃ x : V, RelV x (Value.str k t) ∧ isScalV x = some (.str k) := ⟨.str k, ⟨t, rfl⟩, rfl⟩
theorem PaiV.vals {K : PySem.W.Frag} : ∀ {vs : List Value} {ds : List PyData}, PaiV vs ds → ∃ xs : List V, Vals xs vs ∧ ∀ H, RpA K H xs ds
  | _, _, .nil => ⟨[], .nil, fun _ => .nil⟩
  | _, _, .cons ⟨x, h1, h2⟩ r => by
    obtain ⟨xs, k1, k2⟩ := PaiV.vals (K := K) r
    exact ⟨x :: xs, .cons h1 k1, fun H => .cons (isScal_rp h2 H) (k2 H)⟩
theorem KTu.mk {K : PySem.W.Frag} {a : Addr} {ds : List PyData} {o : Obj} {its : Array Value} {n : Nat} {vs : List Value} (h : K.lookup a = some o) (hc : o.cls = .type "tuple") (hd : o.data = .seq its n) (hi : its.toList = vs) (hl : vs.length ≤ 100) (p : PaiV vs ds) : KTu K a ds := by
  obtain ⟨xs, k1, k2⟩ := p.vals (K := K)
  refine ⟨xs, ⟨o, its, n, h, hc, hd, ?_, by rw [hi]; exact k1⟩, k2⟩
  rw [← Array.length_toList, hi]
  exact Nat.le_trans hl (by decide)
theorem sm_globT {C : Ctx} {f : Bool} {a : Addr} {ds : List PyData} {v : V} (hv : v = .ref a) (h : KTu C.K a ds) : Sm C f (tC v) (dC (.tuple ds)) := fun σ δ H0 H Φ Q s p q => by
  obtain ⟨xs, h1, h2⟩ := h
  subst hv
  exact q H0 H _ _ (.refl s.toWf) (.tup (.inr h1) (h2 _)) p
end VL
namespace VL
open PySem L2
section
variable {C : Ctx} {te : TE} {de : DE}
/-- xs.extend(ys), xs an owned list -/
@[simp] def dExt (i : Nat) (de : DE) : DS := fun E δ => ∃ a xs, δ[i]? = some (some (.own a xs)) ∧ de δ fun x => ∃ ys, x = .list ys ∧ xs.length + ys.length ≤ sizeLine ∧ E.nx (δ.set i (some (.own a (xs ++ ys))))
theorem sms_ext (i : Nat) (h : Sm C true te de) : SmS C (tDrop (tBM C.K "list" rExtend (tVar i) (tCons te tNil))) (dExt i de) := fun σ δ H0 H E D s ⟨a0, xs0, e0, w⟩ e => by
  obtain ⟨v, e1, rfl, h1, h2, h3, vs, h4, h5⟩ := s.sl i _ e0
  refine ⟨_, e1, .inl ⟨rfl, vs, SqL.of h4⟩, h σ δ H0 H _ _ s w fun H0' H' y x g1 r ⟨ys, ex, hl, p⟩ => ?_⟩
  subst ex
  have s1 := s.go g1
  obtain ⟨v', f1, f2, f3, f4, f5, us, f6, f7⟩ := s1.sl i _ e0
  cases r with
  | @lst b zs _ hb rb =>
    exact ⟨a0, b, us, zs, rfl, rfl, f6, g1.wf.sub _ _ hb, by rw [f7.length, rb.length]; exact hl, e.nx H0' _ σ _ g1.fz (s1.write i e0 (f7.append rb)) p⟩
end
end VL
namespace VL
open PySem L2
theorem oLcG_map {di : DI} {own : List Nat} {dg : DG} {de : DE} {δ : Dl} {Φ : List PyData → Prop} {xs : List PyData} (F : PyData → PyData) (hn : xs.length < 1000000) (h : ∀ Ψ : List PyData → Prop, Ψ xs → di δ Ψ)
    (hs : ∀ (k : Nat) (y : PyData) (Ψ : PyData → Prop), xs[k]? = some y → Ψ (F y) → dg y (dwipe δ own) fun δ' => de δ' Ψ) (hΦ : Φ (xs.map F)) : oLcG di own dg dYes de δ Φ := by
  unfold oLcG
  refine h _ ⟨fun k acc => acc = (xs.take k).map F, by simp, fun k y acc hy ha => ?_, fun acc ha => ?_⟩
  · subst ha
    have hk := (List.getElem?_eq_some_iff.mp hy).1
    refine hs k y _ hy ⟨?_, ?_⟩
    · rw [List.length_map, List.length_take]
      exact Nat.lt_of_lt_of_le (show min k xs.length < 1000000 by omega) (by decide)
    · show (xs.take k).map F ++ [F y] = (xs.take (k + 1)).map F
      rw [List.take_add_one, hy, List.map_append]
      rfl
  · subst ha
    rw [List.take_length]
    exact hΦ
end VL

/-! Texts put together: f'..', zip of two tuples. -/
namespace VL
open PySem L2 RZ
section
variable {C : Ctx} {f f1 f2 : Bool} {te ta tb : TE} {de da db : DE}
@[simp] def dFmt (da : DE) : DE := fun δ Φ => da δ fun x => match x with
  | .str y => y.length ≤ sizeLine ∧ Φ (.str y)
  | .int i => i.natAbs.log2 < 1920 ∧ Φ (.str (toString i))
  | _ => False
theorem sm_fmt (ha : Sm C f1 ta da) : Sm C f (tFmt ta) (dFmt da) := fun σ δ H0 H Φ Q s w q =>
  ha σ δ H0 H _ _ s w fun H01 H1 v x g1 r1 w1 => by
    cases r1 with
    | str y => exact .inl ⟨y, rfl, w1.1, q _ _ _ _ g1 (.str _) w1.2⟩
    | int i => exact .inr ⟨i, rfl, w1.1, q _ _ _ _ g1 (.str _) w1.2⟩
    | _ => exact w1.elim
def dJs : List DE → Str → Dl → (Str → Prop) → Prop
  | [], acc, _, Φ => Φ acc
  | d :: ds, acc, δ, Φ => d δ fun x => ∃ y : Str, x = .str y ∧ (acc ++ y).length ≤ sizeLine ∧ dJs ds (acc ++ y) δ Φ
@[simp] theorem dJs_nil (acc : Str) (δ : Dl) (Φ : Str → Prop) : dJs [] acc δ Φ = Φ acc := rfl
@[simp] theorem dJs_cons (d : DE) (ds : List DE) (acc : Str) (δ : Dl) (Φ : Str → Prop) : dJs (d :: ds) acc δ Φ = d δ fun x => ∃ y : Str, x = .str y ∧ (acc ++ y).length ≤ sizeLine ∧ dJs ds (acc ++ y) δ Φ := rfl
@[simp] def dJoined (ds : List DE) : DE := fun δ Φ => dJs ds Str.empty δ fun out => Φ (.str out)
inductive SmJ (C : Ctx) : List TE → List DE → Prop
  | nil : SmJ C [] []
  | cons {te : TE} {de : DE} {ts : List TE} {ds : List DE} (h : Sm C false te de) (r : SmJ C ts ds) : SmJ C (te :: ts) (de :: ds)
theorem smj_run {ts : List TE} {ds : List DE} (h : SmJ C ts ds) : ∀ (acc : Str) (σ : L2.St) (δ : Dl) (H0 H : Hp) (Φ : Str → Prop) (Q : Str → Hp → Prop), St C H0 H σ δ → dJs ds acc δ Φ → (∀ H0' H' out, Go C H0 H H0' H' → Φ out → Q out H') → tJs ts acc σ H Q := by
  induction h with
  | nil => exact fun acc σ δ H0 H Φ Q s w q => q H0 H acc (.refl s.toWf) w
  | cons h r ih =>
    intro acc σ δ H0 H Φ Q s w q
    refine h σ δ H0 H _ _ s w fun H01 H1 v x g1 r1 ⟨y, e, hl, w1⟩ => ?_
    subst e
    cases r1
    exact ⟨y, rfl, hl, ih (acc ++ y) σ δ H01 H1 Φ Q (s.go g1) w1 fun H02 H2 out g2 p => q _ _ _ (g1.trans g2) p⟩
theorem sm_joined {ts : List TE} {ds : List DE} (h : SmJ C ts ds) : Sm C f (fun σ H Q => tJs ts Str.empty σ H fun out H1 => Q (.str out) H1) (dJoined ds) := fun σ δ H0 H Φ Q s w q =>
  smj_run h Str.empty σ δ H0 H _ _ s w fun H0' H' out g p => q _ _ _ _ g (.str _) p
/-- zip of two tuples -/
@[simp] def iZpT (da db : DE) : DI := fun δ Φ => da δ fun x => db δ fun y => ∃ xs ys, x = .tuple xs ∧ y = .tuple ys ∧ Φ (zipD xs ys)
theorem smi_zipT (ha : Sm C true ta da) (hb : Sm C true tb db) : SmI C (iZipA C.K (tCons ta (tCons tb tNil))) (iZpT da db) := fun σ δ H0 H Φ R s w q =>
  ha σ δ H0 H _ _ s w fun H01 H1 v x g1 r1 w1 => hb σ δ H01 H1 _ _ (s.go g1) w1 fun H02 H2 u y g2 r2 ⟨xs, ys, e1, e2, p⟩ => by
    subst e1 e2
    have r3 := r1.mono g2.fz
    cases r3 with
    | @tup a us _ h r =>
      cases r2 with
      | @tup b ws _ h' r' =>
        refine ⟨a, b, us, ws, rfl, .inr ⟨same_t g2.wf.sub h, same_t g2.wf.sub h', q _ _ _ _ (g1.trans g2) ⟨fun H0' H' i e w hi0 => have hi := Nat.le_of_eq hi0; ?_, fun H0' H' i e w hi => ?_, fun H0' H' i v H'' e w hi y => ?_⟩ p⟩⟩
        · unfold zipD at hi
          rw [List.length_zipWith] at hi
          refine ⟨us, ws, same_t w.sub (same_t e h), same_t w.sub (same_t e h'), ?_⟩
          rw [r.length, r'.length]
          omega
        · unfold zipD at hi
          rw [List.length_zipWith] at hi
          obtain ⟨y1, hy1⟩ := get_lt (show i < xs.length by omega)
          obtain ⟨v1, h1, _⟩ := r.get hy1
          obtain ⟨y2, hy2⟩ := get_lt (show i < ys.length by omega)
          obtain ⟨v2, h2, _⟩ := r'.get hy2
          exact ⟨us, ws, v1, v2, same_t w.sub (same_t e h), same_t w.sub (same_t e h'), h1, h2⟩
        · obtain ⟨T, x1, x2, rfl, hT, rfl, y1, y2⟩ := y
          have y1 := y1 us (same_t w.sub (same_t e h))
          have y2 := y2 ws (same_t w.sub (same_t e h'))
          obtain ⟨d1, hd1, rd1⟩ := r.get' y1
          obtain ⟨d2, hd2, rd2⟩ := r'.get' y2
          obtain ⟨H0'', g, r2⟩ := tup_new w hT (.cons (rd1.mono e) (.cons (Rp.mono e rd2) .nil))
          refine ⟨H0'', _, g, ?_, r2⟩
          unfold zipD
          rw [List.getElem?_zipWith, hd1, hd2]
end
/-! ### texts of numbers, their lengths -/
theorem len_app (a b : Str) : (a ++ b).length = a.length + b.length := by
  show (a.cps ++ b.cps).size = _
  rw [Array.size_append]
  rfl
theorem len_lit (s : String) : (Str.ofString s).length = s.length := PyProof.Rows.ofString_len s
theorem len_nat {v : Int} (h0 : 0 ≤ v) (h : v < 100000000000000000000) : (Str.ofString (toString v)).length ≤ 20 := PyProof.Rows.toString_length_le (k := 20) h0 (by decide) (by simpa using h)
theorem neg_str {n : Nat} : toString (-((n + 1 : Nat) : Int)) = "-" ++ toString ((n + 1 : Nat) : Int) := rfl
theorem len_int {v : Int} (h0 : -(100000000000000000000) < v) (h : v < 100000000000000000000) : (Str.ofString (toString v)).length ≤ 21 := by
  by_cases c : 0 ≤ v
  · have := len_nat c h
    omega
  · obtain ⟨n, rfl⟩ : ∃ n : Nat, v = -((n + 1 : Nat) : Int) := ⟨(-v - 1).toNat, by omega⟩
    rw [neg_str, len_lit, String.length_append]
    have h2 := len_nat (v := ((n + 1 : Nat) : Int)) (by omega) (by omega)
    rw [len_lit] at h2
    have : "-".length = 1 := rfl
    omega
theorem log_int {v : Int} (h0 : -(100000000000000000000) < v) (h : v < 100000000000000000000) : v.natAbs.log2 < 1920 := by
  have : v.natAbs < 2 ^ 70 := by omega
  exact Nat.lt_of_lt_of_le (PySem.Flt.log2_lt_of (k := 70) (by decide) this) (by decide)
end VL
namespace VL
open PySem L2
theorem oLc_of {α : Type} {di : DI} {i : Nat} {de : DE} {δ : Dl} {Φ : List PyData → Prop} (xs : List α) (D G : α → PyData) (hn : xs.length < 1000000) (h : ∀ Ψ : List PyData → Prop, Ψ (xs.map D) → di δ Ψ)
    (hs : ∀ (k : Nat) (a : α) (Ψ : PyData → Prop), xs[k]? = some a → Ψ (G a) → de (δ.set i (some (.d (D a)))) Ψ) (hΦ : Φ (xs.map G)) : oLc di i dYes de δ Φ := by
  unfold oLc
  refine h _ ⟨fun k acc => acc = (xs.take k).map G, by simp, fun k y acc hy ha => ?_, fun acc ha => ?_⟩
  · subst ha
    rw [List.getElem?_map] at hy
    obtain ⟨a, ha, rfl⟩ := Option.map_eq_some_iff.mp hy
    unfold dYes
    dsimp only
    rw [if_pos rfl]
    have hk := (List.getElem?_eq_some_iff.mp ha).1
    refine hs k a _ ha ⟨?_, ?_⟩
    · rw [List.length_map, List.length_take]
      exact Nat.lt_of_lt_of_le (show min k xs.length < 1000000 by omega) (by decide)
    · show (xs.take k).map G ++ [G a] = (xs.take (k + 1)).map G
      rw [List.take_add_one, ha, List.map_append]
      rfl
  · subst ha
    rw [List.length_map, List.take_length]
    exact hΦ
end VL

/-! A slot that holds a def; a list extended with a tuple. -/
namespace VL
open PySem L2
open PySem.AutoSeq1 in
theorem list_extend_tup (l : Addr) (items : Array Value) (n : Nat) (b : Addr) (items2 : Array Value) (n2 : Nat) (c2 : Value) (dd : Option Addr) (sl : Array (Option Value)) (hc : c2 = .type "tuple") (hs0 : ¬(!items.isEmpty && Builtin.List.listTooLong (items.size + items2.size)) = true) (hs1 : items.size ≤ sizeLine) (hs2 : items.size + items2.size ≤ sizeLine + 1) :
    Meets (Builtin.«list.extend» ⟨[.ref l, .ref b], []⟩) (fun _ R s => s.heap.get? l = some { cls := .type "list", dict := none, data := .seq items n, slots := #[] } ∧ s.heap.get? b = some { cls := c2, dict := dd, data := .seq items2 n2, slots := sl } ∧ R (.ok (.ret Value.none)) { s with heap := s.heap.update l (Obj.mapSeq fun x => x ++ items2), toks := s.toks }) := by
  subst hc
  exact .of_wp fun prog w A R s h => by
    obtain ⟨hp, g, d, tk, os⟩ := s; obtain ⟨hl, hb, h⟩ := h; have f1 := idx_int; have f2 := sub_tuple_tuple; have f3 := sub_list_list; have f4 := sub_tuple_list; have f5 := sub_list_tuple;
    have hz' : (items ++ items2).size ≤ sizeLine + 1 := by rw [Array.size_append]; exact hs2
    wp_walk using (wpAny_updateSeq hl rfl (hz := hs1) (_hz' := hz')), wpAny_loadPart' hl, wpAny_loadPart' hb; exact ⟨_, rfl, h⟩
def rExtT (K : PySem.W.Frag) : V → List V → Hp → VK → Prop := fun x vs H Q => ∃ l b xs zs, x = .ref l ∧ vs = [.ref b] ∧ H l = some (.lst xs) ∧ SqT K H b zs ∧ xs.length + zs.length ≤ sizeLine ∧ Q .non (upd H l (.lst (xs ++ zs)))
theorem mt_extT {X : Cx} : MtM X "list.extend" (rExtT X.K) := by
  intro pins s σ H x vs v us Q I rx rv h
  obtain ⟨l, b, xs, zs, rfl, rfl, hH, hB, hz, q⟩ := h
  cases rx
  obtain ⟨u, rfl, ru⟩ := rv.one
  cases ru
  obtain ⟨z, its, n, r, hl, e⟩ := I.lstM hH
  obtain ⟨its2, r2, ⟨o, e2, hc, n2, hd⟩, z2⟩ := I.tuple hB
  obtain ⟨c2, dd, da, sl⟩ := o
  simp only at hc hd
  subst hd
  have hl2 := r2.length
  have hsz : its.toArray.size + its2.toArray.size ≤ sizeLine := by rw [List.size_toArray, List.size_toArray]; omega
  have hlong : ¬ (!its.toArray.isEmpty && Builtin.List.listTooLong (its.toArray.size + its2.toArray.size)) = true := by
    rw [notLongL hsz, Bool.and_false]
    exact Bool.false_ne_true
  refine call_meets F.slot_list_extend ⟨_, e, rfl⟩ F.entry_list_extend (F.args_list_extend_2 _ _)
    (list_extend_tup l its.toArray n b its2.toArray n2 c2 dd sl hc hlong (by rw [List.size_toArray]; omega) (by omega)) ⟨e, e2, ?_⟩
  refine ⟨.non, _, I.lset (its' := its ++ its2) hH e (by simp) (r.append r2) ?_, rfl, q⟩
  rw [List.length_append]
  omega
theorem kx_extT {X : Cx} {K : PySem.W.Frag} (h : X.K = K) : MtM X "list.extend" (rExtT K) := by subst h; exact mt_extT
section
variable {C : Ctx} {te : TE} {de : DE} {tas : TA} {dqs : DR} {f : Bool}
/-- xs.extend(ys), xs an owned list, ys a tuple -/
@[simp] def dExtT (i : Nat) (de : DE) : DS := fun E δ => ∃ a xs, δ[i]? = some (some (.own a xs)) ∧ de δ fun x => ∃ ys, x = .tuple ys ∧ xs.length + ys.length ≤ sizeLine ∧ E.nx (δ.set i (some (.own a (xs ++ ys))))
theorem sms_extT (i : Nat) (h : Sm C true te de) : SmS C (tDrop (tBM C.K "list" (rExtT C.K) (tVar i) (tCons te tNil))) (dExtT i de) := fun σ δ H0 H E D s ⟨a0, xs0, e0, w⟩ e => by
  obtain ⟨v, e1, rfl, h1, h2, h3, vs, h4, h5⟩ := s.sl i _ e0
  refine ⟨_, e1, .inl ⟨rfl, vs, SqL.of h4⟩, h σ δ H0 H _ _ s w fun H0' H' y x g1 r ⟨ys, ex, hl, p⟩ => ?_⟩
  subst ex
  have s1 := s.go g1
  obtain ⟨v', f1, f2, f3, f4, f5, us, f6, f7⟩ := s1.sl i _ e0
  cases r with
  | @tup b zs _ hb rb =>
    exact ⟨a0, b, us, zs, rfl, rfl, f6, same_t g1.wf.sub hb, by rw [f7.length, rb.length]; exact hl, e.nx H0' _ σ _ g1.fz (s1.write i e0 (f7.append rb)) p⟩
/-- a call of a def that a slot holds -/
@[simp] def dCallL (i : Nat) (fa : Addr) (p : VSp) (ds : DR) : DE := fun δ Φ => δ[i]? = some (some (.raw (.ref fa))) ∧ dCall p ds δ Φ
theorem sm_callL {n : Nat} {p : VSp} {E : XK} {fa : Addr} (i : Nat) (hp : ∀ rs Φ, p rs Φ → rs.length = n) (ha : SmQ C tas dqs) : Sm C f (tCallL i fa (toSp C.K n p) [] E tas) (dCallL i fa p dqs) := fun σ δ H0 H Φ Q s ⟨e, w⟩ q => by
  obtain ⟨v, e1, e2⟩ := s.sl i _ e
  have e3 : v = .ref fa := e2
  subst e3
  exact ⟨e1, (sm_call (f := f) (E := E) hp ha) σ δ H0 H Φ Q s w q⟩
/-- a def of the program's top, handed to another -/
@[simp] def qGlob (v : V) (ds : DR) : DR := fun δ Φ => ds δ fun xs => Φ (.raw v :: xs)
theorem smq_glob {v : V} (hb : SmQ C tas dqs) : SmQ C (tCons (tC v) tas) (qGlob v dqs) := fun σ δ H0 H Φ Q s w q =>
  hb σ δ H0 H _ _ s w fun H02 H2 us ys g2 r2 w2 => q H02 H2 _ _ g2 (RRas.cons (r := R.raw v) rfl r2) w2
/-- a slot that holds a def, handed on -/
@[simp] def qRaw (i : Nat) (ds : DR) : DR := fun δ Φ => ∃ v, δ[i]? = some (some (.raw v)) ∧ ds δ fun xs => Φ (.raw v :: xs)
theorem smq_raw (i : Nat) (hb : SmQ C tas dqs) : SmQ C (tCons (tVar i) tas) (qRaw i dqs) := fun σ δ H0 H Φ Q s ⟨v, e, w⟩ q => by
  obtain ⟨u, e1, e2⟩ := s.sl i _ e
  have e3 : u = v := e2
  subst e3
  exact ⟨u, e1, hb σ δ H0 H _ _ s w fun H02 H2 us ys g2 r2 w2 => q H02 H2 _ _ g2 (RRas.cons (r := R.raw u) rfl r2) w2⟩
end
end VL

/-! zip of any two sources: each is known by its next item, its end, and what it keeps. -/
namespace VZ
open PySem PySem.Spec PyProof.Rows L2 RZ
/-- at turn k the iterator `it` over the object `l` of the items xs stands so -/
structure Src (it l : Addr) (xs : Array Value) (S : Heap → Nat → Prop) : Prop where
  keep : ∀ {h h' : Heap} {k : Nat}, S h k → (∀ o, h.get? it = some o → h'.get? it = some o) → (∀ o, h.get? l = some o → h'.get? l = some o) → S h' k
  obj : ∀ {h : Heap} {k : Nat}, S h k → ∃ o, h.get? it = some o ∧ ∀ v, o.data ≠ .cell v
  item : ∀ {prog : Program} {w : World} {A : Around} {E : Value → Shared → Prop} {s : Shared} {k : Nat} {x : Value} {Q : Value → Shared → Prop}, S s.heap k → xs[k]? = some x →
    (∀ h', S h' (k + 1) → Heap.SameBut it s.heap h' → Q x { s with heap := h' }) → wpAny (model prog w) A (Builtin.SmallTypes.nextOf (.ref it)) Q E s
  stop : ∀ {prog : Program} {w : World} {A : Around} {E : Value → Shared → Prop} {s : Shared} {k : Nat} {Q : Value → Shared → Prop}, A.handled = none → S s.heap k → xs[k]? = none →
    (∀ h' e, Heap.ExtBut it s.heap h' → (∃ o, h'.get? e = some o ∧ o.cls = .type "StopIteration") → E (.ref e) { s with heap := h' }) → wpAny (model prog w) A (Builtin.SmallTypes.nextOf (.ref it)) Q E s
def SL (it l : Addr) (xs : Array Value) (h : Heap) (k : Nat) : Prop := h.IsListIter it l k ∧ h.IsList l xs
def ST (it l : Addr) (xs : Array Value) (h : Heap) (k : Nat) : Prop := h.IsTupleIter it l k ∧ h.IsTuple l xs
theorem srcL {it l : Addr} {xs : Array Value} (ne : l ≠ it) : Src it l xs (SL it l xs) where
  keep := fun ⟨a, b⟩ f g => ⟨Heap.IsListIter.at a f, Heap.IsList.at b g⟩
  obj := fun ⟨⟨o, e, _, d⟩, _⟩ => ⟨o, e, fun v q => by rw [d] at q; cases q⟩
  item := fun ⟨a, b⟩ hx q => wpAny_nextOf_list_item a b hx fun h' c d => q h' ⟨c, b.extBut d.extBut ne⟩ d
  stop := fun hh ⟨a, b⟩ hx q => wpAny_nextOf_list_end hh a b hx q
theorem srcT {it l : Addr} {xs : Array Value} (ne : l ≠ it) : Src it l xs (ST it l xs) where
  keep := fun ⟨a, b⟩ f g => ⟨Heap.IsTupleIter.at a f, Heap.IsTuple.at b g⟩
  obj := fun ⟨⟨o, e, _, d⟩, _⟩ => ⟨o, e, fun v q => by rw [d] at q; cases q⟩
  item := fun ⟨a, b⟩ hx q => nextOf_tuple_item a b hx fun h' c d => q h' ⟨c, b.extBut d.extBut ne⟩ d
  stop := fun hh ⟨a, b⟩ hx q => nextOf_tuple_end hh a b hx q
section
variable {prog : Program} {w : World} {A : Around} {E : Value → Shared → Prop} {s : Shared} {z TI TO i1 i2 l1 l2 : Addr} {xs ys : Array Value} {S1 S2 : Heap → Nat → Prop} {k : Nat}
theorem Src.bump {it l c : Addr} {S : Heap → Nat → Prop} {h h' : Heap} (sr : Src it l xs S) (st : S h k) (e : Heap.ExtBut c h h') (n1 : it ≠ c) (n2 : l ≠ c) : S h' k := sr.keep st (fun o q => e _ o n1 q) fun o q => e _ o n2 q
/-- the two places of the pair that stands ready, one behind the other -/
theorem next_item (s1 : Src i1 l1 xs S1) (s2 : Src i2 l2 ys S2) {x y a b : Value} {Q : Value → Shared → Prop} (D : ZipApart z TI TO i1 i2 l1 l2)
    (hz : IsZip s.heap z TI TO .none) (hTI : IsPair s.heap TI (.ref i1) (.ref i2)) (hTO : IsPair s.heap TO a b) (h1 : S1 s.heap k) (h2 : S2 s.heap k) (hx : xs[k]? = some x) (hy : ys[k]? = some y)
    (hQ : ∀ h', IsZip h' z TI TO (rawInt s.heap.objs.size) → IsPair h' TO x y → S1 h' (k + 1) → S2 h' (k + 1) → IsPair h' s.heap.objs.size x y →
      (∀ c o, c ≠ z → c ≠ TO → c ≠ i1 → c ≠ i2 → s.heap.get? c = some o → h'.get? c = some o) → Q (.ref s.heap.objs.size) { s with heap := h' }) :
    wpAny (model prog w) A (Builtin.«zip.__next__» ⟨[.ref z], []⟩) (fun fin s' => ∃ v, fin = .done (.ret v) ∧ Q v s') E s := by
  show wpAny _ _ (field (.ref z) 2 >>= _) _ _ _
  refine wpAny_bind (wpAny_field hz rfl (x := .bool false) rfl ?_)
  show wpAny _ _ (field (.ref z) 3 >>= _) _ _ _
  refine wpAny_bind (wpAny_field hz rfl (x := .ref TI) rfl (wpAny_bind (wpAny_seqItems hTI rfl ?_)))
  show wpAny _ _ (Builtin.SmallTypes.ownedTupleIsFree (.ref z) >>= _) _ _ _
  refine wpAny_bind ?_
  unfold Builtin.SmallTypes.ownedTupleIsFree
  refine wpAny_bind (wpAny_field hz rfl (x := .none) rfl (wpAny_pure ?_))
  simp only [if_true]
  refine wpAny_bind (wpAny_rule (wpAny_bind (wpAny_field hz rfl (x := .ref TO) rfl (wpAny_bind (wpAny_setField_rec hz (by simp) fun ha za ea => ?_)))))
  replace za : IsZip ha z TI TO .ellipsis := za
  have pa : IsPair ha TO a b := ea.extBut _ _ D.TOz hTO
  have qa1 := s1.bump h1 ea.extBut D.i1z D.l1z
  have qa2 := s2.bump h2 ea.extBut D.i2z D.l2z
  refine wpAny_bind ?_
  simp only [List.zipIdx_cons, List.zipIdx_nil, List.forIn_cons, List.forIn_nil]
  refine wpAny_bind (wpAny_bind (wpAny_onRaise ?_))
  show wpAny _ _ (Builtin.SmallTypes.nextOf (.ref i1) >>= _) _ _ _
  refine wpAny_bind (s1.item qa1 hx fun hb qb1 eb => wpAny_pure ?_)
  have pb : IsPair hb TO a b := eb.extBut _ _ D.TOi1 pa
  have qb2 := s2.bump qa2 eb.extBut D.i12.symm D.l2i1
  refine wpAny_bind (wpAny_seqItems pb rfl (wpAny_bind (wpAny_updateSeq_pair pb fun hc pc ec => ?_)))
  replace pc : IsPair hc TO x b := pc
  have qc1 := s1.bump qb1 ec.extBut D.TOi1.symm D.l1TO
  have qc2 := s2.bump qb2 ec.extBut D.TOi2.symm D.l2TO
  refine wpAny_bind (wpAny_letGo (wpAny_pure ?_))
  refine wpAny_bind (wpAny_bind (wpAny_onRaise ?_))
  show wpAny _ _ (Builtin.SmallTypes.nextOf (.ref i2) >>= _) _ _ _
  refine wpAny_bind (s2.item qc2 hy fun hd qd2 ed => wpAny_pure ?_)
  have pd : IsPair hd TO x b := ed.extBut _ _ D.TOi2 pc
  have qd1 := s1.bump qc1 ed.extBut D.i12 D.l1i2
  refine wpAny_bind (wpAny_seqItems pd rfl (wpAny_bind (wpAny_updateSeq_pair pd fun he pe ee => ?_)))
  replace pe : IsPair he TO x y := pe
  have qe1 := s1.bump qd1 ee.extBut D.TOi1.symm D.l1TO
  have qe2 := s2.bump qd2 ee.extBut D.TOi2.symm D.l2TO
  refine wpAny_bind (wpAny_letGo (wpAny_pure (wpAny_pure ?_)))
  refine wpAny_bind (wpAny_seqItems pe rfl (wpAny_bind (wpAny_newTuple ?_)))
  have sz : he.objs.size = s.heap.objs.size := by rw [ee.1, ed.1, ec.1, eb.1, ea.1]
  have ze : IsZip he z TI TO .ellipsis := ee.extBut _ _ D.TOz.symm (ed.extBut _ _ D.i2z.symm (ec.extBut _ _ D.TOz.symm (eb.extBut _ _ D.i1z.symm za)))
  have ke : ∀ c o, c ≠ z → c ≠ TO → c ≠ i1 → c ≠ i2 → s.heap.get? c = some o → he.get? c = some o := fun c o c1 c2 c3 c4 e =>
    ee.extBut _ _ c2 (ed.extBut _ _ c4 (ec.extBut _ _ c2 (eb.extBut _ _ c3 (ea.extBut _ _ c1 e))))
  have lz : z < he.objs.size := Heap.lt_size ze
  show wpAny _ _ (Builtin.SmallTypes.ownedTupleHandOut (.ref z) (.ref he.objs.size) >>= _) _ _ _
  refine wpAny_bind ?_
  unfold Builtin.SmallTypes.ownedTupleHandOut
  have zf : IsZip (he.push { cls := .type "tuple", data := .seq #[x, y] }) z TI TO .ellipsis := Heap.get?_push_of_some _ ze
  refine wpAny_bind (wpAny_setField_rec zf (by simp) fun hg zg eg => ?_)
  replace zg : IsZip hg z TI TO (rawInt he.objs.size) := zg
  refine wpAny_setField_rec zg (by simp) fun hi zi ei => ?_
  replace zi : IsZip hi z TI TO (rawInt he.objs.size) := zi
  have up : ∀ c o, c ≠ z → he.get? c = some o → hi.get? c = some o := fun c o c1 e => ei.extBut _ _ c1 (eg.extBut _ _ c1 (Heap.get?_push_of_some _ e))
  have pi : IsPair hi he.objs.size x y := ei.extBut _ _ (Nat.ne_of_gt lz) (eg.extBut _ _ (Nat.ne_of_gt lz) (Heap.get?_push_size _ rfl))
  rw [sz] at zi pi
  refine wpAny_pure ⟨_, rfl, ?_⟩
  show Q (.ref he.objs.size) _
  rw [sz]
  exact hQ hi zi (up _ _ D.TOz pe) (s1.keep qe1 (fun o e => up _ o D.i1z e) fun o e => up _ o D.l1z e) (s2.keep qe2 (fun o e => up _ o D.i2z e) fun o e => up _ o D.l2z e) pi fun c o c1 c2 c3 c4 e => up c o c1 (ke c o c1 c2 c3 c4 e)
theorem next_end (s1 : Src i1 l1 xs S1) (s2 : Src i2 l2 ys S2) {a b : Value} {Q : Fin → Shared → Prop} (hh : A.handled = none) (D : ZipApart z TI TO i1 i2 l1 l2)
    (hz : IsZip s.heap z TI TO .none) (hTI : IsPair s.heap TI (.ref i1) (.ref i2)) (hTO : IsPair s.heap TO a b) (h1 : S1 s.heap k) (h2 : S2 s.heap k) (hend : xs[k]? = none ∨ ys[k]? = none)
    (hE : ∀ h' e, (∀ c o, c ≠ z → c ≠ TO → c ≠ i1 → c ≠ i2 → s.heap.get? c = some o → h'.get? c = some o) → (∃ o, h'.get? e = some o ∧ o.cls = .type "StopIteration") → E (.ref e) { s with heap := h' }) :
    wpAny (model prog w) A (Builtin.«zip.__next__» ⟨[.ref z], []⟩) Q E s := by
  show wpAny _ _ (field (.ref z) 2 >>= _) _ _ _
  refine wpAny_bind (wpAny_field hz rfl (x := .bool false) rfl ?_)
  show wpAny _ _ (field (.ref z) 3 >>= _) _ _ _
  refine wpAny_bind (wpAny_field hz rfl (x := .ref TI) rfl (wpAny_bind (wpAny_seqItems hTI rfl ?_)))
  show wpAny _ _ (Builtin.SmallTypes.ownedTupleIsFree (.ref z) >>= _) _ _ _
  refine wpAny_bind ?_
  unfold Builtin.SmallTypes.ownedTupleIsFree
  refine wpAny_bind (wpAny_field hz rfl (x := .none) rfl (wpAny_pure ?_))
  simp only [if_true]
  refine wpAny_bind (wpAny_rule (wpAny_bind (wpAny_field hz rfl (x := .ref TO) rfl (wpAny_bind (wpAny_setField_rec hz (by simp) fun ha za ea => ?_)))))
  replace za : IsZip ha z TI TO .ellipsis := za
  have pa : IsPair ha TO a b := ea.extBut _ _ D.TOz hTO
  have qa1 := s1.bump h1 ea.extBut D.i1z D.l1z
  have qa2 := s2.bump h2 ea.extBut D.i2z D.l2z
  -- what is raised leaves the pair's mark free again
  have free : ∀ (h' : Heap) (e : Addr), IsZip h' z TI TO .ellipsis → (∃ o, h'.get? e = some o ∧ o.cls = .type "StopIteration") → ∀ h'', Heap.SameBut z h' h'' → ∃ o, h''.get? e = some o ∧ o.cls = .type "StopIteration" := fun h' e zq ⟨o, ho, hc⟩ h'' eq =>
    ⟨o, eq.extBut _ _ (fun x => by subst x; rw [zq] at ho; cases ho; simp at hc) ho, hc⟩
  refine wpAny_bind ?_
  simp only [List.zipIdx_cons, List.zipIdx_nil, List.forIn_cons, List.forIn_nil]
  refine wpAny_bind (wpAny_bind (wpAny_onRaise ?_))
  show wpAny _ _ (Builtin.SmallTypes.nextOf (.ref i1) >>= _) _ _ _
  cases hx : xs[k]? with
  | none =>
    refine wpAny_bind (s1.stop hh qa1 hx fun hb e eb he => ?_)
    have zb : IsZip hb z TI TO .ellipsis := eb _ _ D.i1z.symm za
    exact wpAny_setField_rec zb (by simp) fun hc _ ec => hE hc e (fun c o c1 _ c3 _ x => ec.extBut _ _ c1 (eb _ _ c3 (ea.extBut _ _ c1 x))) (free hb e zb he hc ec)
  | some x =>
    have hy : ys[k]? = none := hend.elim (fun q => by rw [hx] at q; cases q) id
    refine wpAny_bind (s1.item qa1 hx fun hb qb1 eb => wpAny_pure ?_)
    have pb : IsPair hb TO a b := eb.extBut _ _ D.TOi1 pa
    have qb2 := s2.bump qa2 eb.extBut D.i12.symm D.l2i1
    refine wpAny_bind (wpAny_seqItems pb rfl (wpAny_bind (wpAny_updateSeq_pair pb fun hc pc ec => ?_)))
    have qc2 := s2.bump qb2 ec.extBut D.TOi2.symm D.l2TO
    refine wpAny_bind (wpAny_letGo (wpAny_pure ?_))
    refine wpAny_bind (wpAny_bind (wpAny_onRaise ?_))
    show wpAny _ _ (Builtin.SmallTypes.nextOf (.ref i2) >>= _) _ _ _
    refine wpAny_bind (s2.stop hh qc2 hy fun hd e ed he => ?_)
    have zd : IsZip hd z TI TO .ellipsis := ed _ _ D.i2z.symm (ec.extBut _ _ D.TOz.symm (eb.extBut _ _ D.i1z.symm za))
    exact wpAny_setField_rec zd (by simp) fun hf _ ef => hE hf e (fun c o c1 c2 c3 c4 x => ef.extBut _ _ c1 (ed _ _ c4 (ec.extBut _ _ c2 (eb.extBut _ _ c3 (ea.extBut _ _ c1 x))))) (free hd e zd he hf ef)
end
/-- a tuple at a beside a list at b -/
def ItzM (K : PySem.W.Frag) (a b : Addr) : It where
  go := fun i H => ∃ (xs ys : List V) (x y : V), SqT K H a xs ∧ SqL K H b ys ∧ xs[i]? = some x ∧ ys[i]? = some y
  yld := fun i H v H' => ∃ T x y, v = .ref T ∧ H T = none ∧ H' = upd H T (.tup [x, y]) ∧ (∀ xs, SqT K H a xs → xs[i]? = some x) ∧ ∀ ys, SqL K H b ys → ys[i]? = some y
  stop := fun i H => ∃ xs ys : List V, SqT K H a xs ∧ SqL K H b ys ∧ (xs.length ≤ i ∨ ys.length ≤ i)
theorem turnM {P : Program} {w : World} {K : PySem.W.Frag} {elts : List Expr} {kk : Nat} {tpos : Pos} {a b z TI TO i1 i2 : Addr} (D : ZipApart z TI TO i1 i2 a b) :
    Turn P w K (.Tuple elts kk tpos) (ItzM K a b) [z, TI, TO, i1, i2] z (fun i h => IsZip h z TI TO .none ∧ IsPair h TI (.ref i1) (.ref i2) ∧ (∃ x y, IsPair h TO x y) ∧ h.IsTupleIter i1 a i ∧ h.IsListIter i2 b i) where
  mem := by simp
  obj := fun i h ⟨hz, hTI, ⟨x, y, hTO⟩, ⟨o1, e1, _, d1⟩, ⟨o2, e2, _, d2⟩⟩ c hc => by
    simp only [List.mem_cons, List.not_mem_nil, or_false] at hc
    rcases hc with rfl | rfl | rfl | rfl | rfl
    · exact ⟨_, hz, fun v q => nomatch q⟩
    · exact ⟨_, hTI, fun v q => nomatch q⟩
    · exact ⟨_, hTO, fun v q => nomatch q⟩
    · exact ⟨o1, e1, fun v q => by rw [d1] at q; cases q⟩
    · exact ⟨o2, e2, fun v q => by rw [d2] at q; cases q⟩
  keep := fun i h h' ⟨hz, hTI, ⟨x, y, hTO⟩, h1, h2⟩ k => ⟨k z (by simp) _ hz, k TI (by simp) _ hTI, ⟨x, y, k TO (by simp) _ hTO⟩, h1.at (k i1 (by simp)), h2.at (k i2 (by simp))⟩
  item := by
    intro X hP hw hK hc i pins s σ H E I hf ⟨hz, hTI, ⟨x0, y0, hTO⟩, h1, h2⟩ ⟨xs, ys, x, y, hqx, hqy, hx, hy⟩
    subst hP hw hK
    obtain ⟨its, rv, p, _⟩ := I.tuple hqx
    obtain ⟨its2, rv2, p2, _⟩ := I.list hqy
    obtain ⟨u, hu, ru⟩ := rv.get hx
    obtain ⟨u2, hu2, ru2⟩ := rv2.get hy
    have hT : s.TypeIs (.ref z) "zip" := ⟨_, hz, rfl⟩
    have lz : z < s.heap.objs.size := Heap.lt_size hz
    unfold pyNext
    refine wpAny_bind (wpAny_attempt (wpAny_callSpecial?_slot (name := Str.ofString "__next__") hT F.slot_zip_next (wpAny_call_entry F.slot_zip_next hT F.entry_zip_next
      (next_item (k := i) (srcT (xs := its.toArray) D.l1i1) (srcL (xs := its2.toArray) D.l2i2) D hz hTI hTO ⟨h1, p⟩ ⟨h2, p2.isList⟩ (x := u) (y := u2) (by simpa using hu) (by simpa using hu2) fun h' z' TO' h1' h2' pT hk => wpAny_pure ?_) (F.args_zip_next_1 _))))
    refine ⟨_, rfl, wpAny_letOwnedTupleGo_zip (s := { s with heap := h' }) z' fun h'' z'' sb => ?_⟩
    have pT2 : h''.get? s.heap.objs.size = some { cls := .type "tuple", data := .seq #[u, u2] } := (sb.2 _ (Nat.ne_of_gt lz)).trans pT
    have new : ObjOk X.prog X.w (upd H s.heap.objs.size (.tup [x, y])) h'' s.heap.objs.size (.tup [x, y]) :=
      ⟨by show 2 ≤ sizeLine; decide, [u, u2], .cons ru (.cons ru2 .nil), ⟨_, pT2, rfl, _, rfl⟩⟩
    have I1 : Inv X pins σ (upd H s.heap.objs.size (.tup [x, y])) { s with heap := h'' } :=
      I.turnedNew (t' := s.toks) (ch := [z, TI, TO, i1, i2]) (fun c o hb q => (sb.2 c (fun q' => hb (by simp [q']))).trans (hk c o (fun q' => hb (by simp [q'])) (fun q' => hb (by simp [q'])) (fun q' => hb (by simp [q'])) (fun q' => hb (by simp [q'])) q)) hf (Nat.le_refl _) new
    refine ⟨.ref s.heap.objs.size, _, I1, rfl, ⟨_, x, y, rfl, I.hok.fresh (Nat.le_refl _), rfl, fun l hl => by rw [I.tuple_inj hl hqx]; exact hx, fun l hl => by rw [I.list_inj hl hqy]; exact hy⟩, ⟨z'', ?_, ⟨u, u2, (sb.2 _ D.TOz).trans TO'⟩, h1'.1.at fun o q => (sb.2 _ D.i1z).trans q, h2'.1.at fun o q => (sb.2 _ D.i2z).trans q⟩, fun c hcm => ?_⟩
    · exact (sb.2 _ D.TIz).trans (hk _ _ D.TIz D.TITO D.TIi1 D.TIi2 hTI)
    · have hlt : c < s.heap.objs.size := by
        obtain ⟨o1, e1, _⟩ := h1
        obtain ⟨o2, e2, _⟩ := h2
        have cm := hcm
        simp only [List.mem_cons, List.not_mem_nil, or_false] at cm
        rcases cm with rfl | rfl | rfl | rfl | rfl
        · exact lz
        · exact Heap.lt_size hTI
        · exact Heap.lt_size hTO
        · exact Heap.lt_size e1
        · exact Heap.lt_size e2
      rw [upd_ne (Nat.ne_of_lt hlt)]
      exact (hf c hcm).1
  done := by
    intro X hP hw hK hc i pins s σ H E I hf ⟨hz, hTI, ⟨x0, y0, hTO⟩, h1, h2⟩ ⟨xs, ys, hqx, hqy, hend⟩
    subst hP hw hK
    obtain ⟨its, rv, p, _⟩ := I.tuple hqx
    obtain ⟨its2, rv2, p2, _⟩ := I.list hqy
    have l1 := rv.length
    have l2 := rv2.length
    have he : its.toArray[i]? = none ∨ its2.toArray[i]? = none := hend.elim (fun q => .inl (by simp; omega)) fun q => .inr (by simp; omega)
    have hT : s.TypeIs (.ref z) "zip" := ⟨_, hz, rfl⟩
    unfold pyNext
    refine wpAny_bind (wpAny_attempt (wpAny_callSpecial?_slot (name := Str.ofString "__next__") hT F.slot_zip_next (wpAny_call_entry F.slot_zip_next hT F.entry_zip_next
      (next_end (k := i) (srcT (xs := its.toArray) D.l1i1) (srcL (xs := its2.toArray) D.l2i2) (I.ok.hd hc) D hz hTI hTO ⟨h1, p⟩ ⟨h2, p2.isList⟩ he fun h' e hk ⟨o, ho, hcl⟩ => ?_) (F.args_zip_next_1 _))))
    refine wpAny_bind (wpAny_isInstance (T := "StopIteration") (b := true) ⟨o, ho, hcl⟩ isSubtype_stop (wpAny_pure ?_))
    exact ⟨rfl, I.turnedL (t' := s.toks) (ch := [z, TI, TO, i1, i2]) (fun c o hb q => hk c o (fun q' => hb (by simp [q'])) (fun q' => hb (by simp [q'])) (fun q' => hb (by simp [q'])) (fun q' => hb (by simp [q'])) q) hf⟩
  self := fun A i s Q E st h => wpAny_pyIter_zip st.1 h
/-- the heap after each of the five new objects -/
abbrev g1 (h : Heap) (a : Addr) : Heap := h.push { cls := .type "tuple_iterator", data := .fields #[.ref a, .int 0 0] }
abbrev g2 (h : Heap) (a b : Addr) : Heap := (g1 h a).push { cls := .type "list_iterator", data := .fields #[.ref b, .int 0 0] }
abbrev g3 (h : Heap) (a b : Addr) : Heap := (g2 h a b).push { cls := .type "tuple", data := .seq #[.ref h.objs.size, .ref (g1 h a).objs.size] }
abbrev g4 (h : Heap) (a b : Addr) : Heap := (g3 h a b).push { cls := .type "tuple", data := .seq #[.none, .none] }
abbrev g5 (h : Heap) (a b : Addr) : Heap := (g4 h a b).push { cls := .type "zip", data := .fields #[.none, .bool false, .bool false, .ref (g2 h a b).objs.size, .ref (g3 h a b).objs.size] }
theorem meets_new (a b : Addr) (xs ys : Array Value) :
    Meets (Builtin.«zip.__new__» ⟨[.type "zip", .ref a, .ref b], []⟩) (fun _ R s => s.heap.IsTuple a xs ∧ s.heap.IsList b ys ∧ R (.ok (.ret (.ref (g4 s.heap a b).objs.size))) { s with heap := g5 s.heap a b }) :=
  .of_wp fun prog w A R s h => by
    obtain ⟨hp, g, d, tk, os⟩ := s
    obtain ⟨ha, hb, h⟩ := h
    have hsub := sub_zip
    have hL1 : Heap.IsTuple (Shared.heap ⟨hp, g, d, tk, os⟩) a xs := ha
    have hL2 : Heap.IsList (Shared.heap ⟨hp.push { cls := .type "tuple_iterator", data := .fields #[.ref a, .int 0 0] }, g, d, tk, os⟩) b ys := Heap.IsList.at hb fun o q => Heap.get?_push_of_some _ q
    wp_walk using wpAny_pyIter_tuple hL1, wpAny_pyIter_list hL2
    exact ⟨_, rfl, h⟩
theorem call_new {prog : Program} {w : World} {A : Around} {E : Value → Shared → Prop} {s : Shared} {a b : Addr} {xs ys : Array Value} {Q : Value → Shared → Prop} (ha : s.heap.IsTuple a xs) (hb : s.heap.IsList b ys)
    (h : ∀ h', IsZip h' (s.heap.objs.size + 4) (s.heap.objs.size + 2) (s.heap.objs.size + 3) .none → IsPair h' (s.heap.objs.size + 2) (.ref s.heap.objs.size) (.ref (s.heap.objs.size + 1)) → IsPair h' (s.heap.objs.size + 3) .none .none →
      h'.IsTupleIter s.heap.objs.size a 0 → h'.IsListIter (s.heap.objs.size + 1) b 0 → (∀ c o, s.heap.get? c = some o → h'.get? c = some o) → Q (.ref (s.heap.objs.size + 4)) { s with heap := h' }) :
    wpAny (model prog w) A (call (.type "zip") [.ref a, .ref b]) Q E s := by
  refine callType_new F.called_zip (by decide) (F.typeCall_zip_2 _ _) (F.newCall_zip_2 _ _) (fun obj => F.args_object_init_3 obj _ _) F.entry_zip_new (meets_new a b xs ys) ⟨ha, hb, ?_⟩
  have n1 : (g1 s.heap a).objs.size = s.heap.objs.size + 1 := Heap.size_push ..
  have n2 : (g2 s.heap a b).objs.size = s.heap.objs.size + 2 := by rw [Heap.size_push, n1]
  have n3 : (g3 s.heap a b).objs.size = s.heap.objs.size + 3 := by rw [Heap.size_push, n2]
  have n4 : (g4 s.heap a b).objs.size = s.heap.objs.size + 4 := by rw [Heap.size_push, n3]
  have up : ∀ {c : Addr} {o : Obj} {x : Heap} (p : Obj), x.get? c = some o → (x.push p).get? c = some o := fun p q => Heap.get?_push_of_some _ q
  have e5 : (g5 s.heap a b).get? (g4 s.heap a b).objs.size = some _ := Heap.get?_push_size _ rfl
  have e4 : (g5 s.heap a b).get? (g3 s.heap a b).objs.size = some _ := up _ (Heap.get?_push_size _ rfl)
  have e3 : (g5 s.heap a b).get? (g2 s.heap a b).objs.size = some _ := up _ (up _ (Heap.get?_push_size _ rfl))
  have e2 : (g5 s.heap a b).get? (g1 s.heap a).objs.size = some _ := up _ (up _ (up _ (Heap.get?_push_size _ rfl)))
  have e1 : (g5 s.heap a b).get? s.heap.objs.size = some _ := up _ (up _ (up _ (up _ (Heap.get?_push_size _ rfl))))
  show _ ∧ _
  rw [n2, n3, n4] at e5
  rw [n1, n2] at e3
  rw [n3] at e4
  rw [n1] at e2
  rw [n4]
  exact ⟨⟨_, e5, rfl⟩, h _ e5 e3 e4 ⟨_, e1, rfl, rfl⟩ ⟨_, e2, rfl, rfl⟩ fun c o x => up _ (up _ (up _ (up _ (up _ x))))⟩
def iZipM (K : PySem.W.Frag) (ta : TA) : TI := fun σ H R => ta σ H fun vs H1 => ∃ a b xs ys, vs = [.ref a, .ref b] ∧ SqT K H1 a xs ∧ SqL K H1 b ys ∧ R (ItzM K a b) H1
theorem pi_zipM {X : Cx} {e e2 : Expr} {ta : TA} {p pos tpos : Pos} {elts : List Expr} {kk : Nat} (hg : Gl X "zip") (hm : X.mg "zip" = none) (ha : PA X [e, e2] ta)
    (hs : starEach [e, e2] X.env = (false, eval e X.env) :: starEach [e2] X.env := by rfl) (hpl : (backTo pos (starEach [e2] X.env)).any (·.1) = false := by rfl) :
    PI X (.Tuple elts kk tpos) (.Call (.Name "zip" p) [e, e2] [] pos) (iZipM X.K ta) := by
  refine ⟨fun pins s σ H R I h => ?_⟩
  refine Call_ (ld_blt I hg hm PyProof.Rows.boot_zip (PyProof.Rows.callWith_type1 (thn (ha.run pos pins s σ H _ I h) fun us s1 ⟨vs, H1, I1, r1, a, b, xs, ys, ex, hqx, hqy, q⟩ => ?_) hs hpl))
  subst ex
  cases r1 with
  | cons r rr =>
    cases rr with
    | cons r' rr =>
      cases rr
      cases r
      cases r'
      obtain ⟨its, rv, p1, _⟩ := I1.tuple hqx
      obtain ⟨its2, rv2, p2, _⟩ := I1.list hqy
      obtain ⟨o1, ho1, _⟩ := id p1
      have fresh : ∀ c, c ∈ [s1.heap.objs.size + 4, s1.heap.objs.size + 2, s1.heap.objs.size + 3, s1.heap.objs.size, s1.heap.objs.size + 1] → FpOk X pins H1 c := fun c hcm => by
        have hle : s1.heap.objs.size ≤ c := by
          simp only [List.mem_cons, List.not_mem_nil, or_false] at hcm
          rcases hcm with rfl | rfl | rfl | rfl | rfl
          · exact Nat.le_add_right _ _
          · exact Nat.le_add_right _ _
          · exact Nat.le_add_right _ _
          · exact Nat.le_refl _
          · exact Nat.le_add_right _ _
        exact I1.fpOk hle (I1.hok.fresh hle)
      refine call_new (show s1.heap.IsTuple a its.toArray from p1) p2.isList fun h' hz hTI hTO h1 h2 hk => wpAny_pyIter_zip hz ?_
      exact ⟨s1.heap.objs.size + 4, [s1.heap.objs.size + 4, s1.heap.objs.size + 2, s1.heap.objs.size + 3, s1.heap.objs.size, s1.heap.objs.size + 1], _, _, H1, rfl, I1.kept (t' := s1.toks) hk, turnM (PySem.W.ktu_apart s1.heap.objs.size a b (Heap.lt_size ho1) p2.lt), ⟨hz, hTI, ⟨_, _, hTO⟩, h1, h2⟩, fresh, q⟩
end VZ
namespace VL
open PySem L2 VZ
section
variable {C : Ctx} {ta tb : TE} {da db : DE}
@[simp] def iZpM (da db : DE) : DI := fun δ Φ => da δ fun x => db δ fun y => ∃ xs ys, x = .tuple xs ∧ y = .list ys ∧ Φ (zipD xs ys)
theorem smi_zipM (ha : Sm C true ta da) (hb : Sm C true tb db) : SmI C (iZipM C.K (tCons ta (tCons tb tNil))) (iZpM da db) := fun σ δ H0 H Φ R s w q =>
  ha σ δ H0 H _ _ s w fun H01 H1 v x e1 r1 w1 => hb σ δ H01 H1 _ _ (s.go e1) w1 fun H02 H2 u y e2 r2 ⟨xs, ys, ex, ey, w2⟩ => by
    subst ex ey
    have r1' := r1.mono e2.fz
    cases r1' with
    | @tup a us _ h r =>
      cases r2 with
      | @lst b ws _ h' r' =>
        refine ⟨a, b, us, ws, rfl, same_t e2.wf.sub h, SqL.of (e2.wf.sub _ _ h'), q H02 H2 _ _ (e1.trans e2) ⟨?_, ?_, ?_⟩ w2⟩
        · intro H0' H' i e w hi
          refine ⟨us, ws, same_t w.sub (same_t e h), SqL.of (w.sub _ _ (e _ _ h')), ?_⟩
          rw [r.length, r'.length]
          unfold zipD at hi
          rw [List.length_zipWith] at hi
          omega
        · intro H0' H' i e w hi
          unfold zipD at hi
          rw [List.length_zipWith] at hi
          obtain ⟨y1, hy1⟩ := get_lt (show i < xs.length by omega)
          obtain ⟨v1, h1, _⟩ := r.get hy1
          obtain ⟨y2, hy2⟩ := get_lt (show i < ys.length by omega)
          obtain ⟨v2, h2, _⟩ := r'.get hy2
          exact ⟨us, ws, v1, v2, same_t w.sub (same_t e h), SqL.of (w.sub _ _ (e _ _ h')), h1, h2⟩
        · intro H0' H' i v H'' e w hi y
          obtain ⟨T, x1, x2, rfl, hT, rfl, y1, y2⟩ := y
          have y1 := y1 us (same_t w.sub (same_t e h))
          have y2 := y2 ws (SqL.of (w.sub _ _ (e _ _ h')))
          obtain ⟨d1, hd1, rd1⟩ := r.get' y1
          obtain ⟨d2, hd2, rd2⟩ := r'.get' y2
          obtain ⟨H0'', g, r2⟩ := tup_new w hT (.cons (rd1.mono e) (.cons (Rp.mono e rd2) .nil))
          refine ⟨H0'', _, g, ?_, r2⟩
          unfold zipD
          rw [List.getElem?_zipWith, hd1, hd2]
end
end VL

/-! Defs that are called where no repr is under way: repr of data. -/
namespace VG
open PySem PySem.Spec PyProof.Rows L2
section
variable {P : Program} {w : World} {K : PySem.W.Frag} {mg : Str → Option Value} {base : Heap} {fa : Addr} {fd : FuncData} {nms : List Str} {k : Nat} {sp : Sp}
/-- a def's promise, where the stack holds no guard -/
structure FnG (P : Program) (w : World) (K : PySem.W.Frag) (mg : Str → Option Value) (base : Heap) (k : Nat) (fa : Addr) (fd : FuncData) (nms : List Str) (sp : Sp) : Prop where
  size : ∀ xs H Q E, sp xs H Q E → xs.length = nms.length
  goes : ∀ (A : Around) (ou : List Env) (st : Shared) (H : Hp) (ar : Args) (us : List Value) (xs : List V) (Q : VK) (E : XK), A.guards = some [] → Room k A → Env0 P w K mg base A ou st H → BindsTo st fd ar (nms.zip us) → Vals xs us → sp xs H Q E →
    codeAny (model P w) A (.call (.ref fa) ar) (CR CX0 ou P w H st Q E) st
theorem FnG.of (F : FnOk P w K mg base CX0 k fa fd nms sp) : FnG P w K mg base k fa fd nms sp := ⟨F.len, fun A ou st H ar us xs Q E _ => F.run A ou st H ar us xs Q E⟩
end
section
variable {X : Cx} {k : Nat} {fa : Addr} {fd : FuncData} {nms : List Str} {sp : Sp} {more : List V} {mvs : List Value} {x : Str} {p1 p2 : Pos} {e1 : Expr} {es : List Expr} {ta : TA}
theorem goes_fn {E : XK} {pins : List (Addr × Obj)} {σ : L2.St} {H : Hp} {st : Shared} {Q : VK} {us : List Value} {xs : List V} (gd : X.A.guards = some []) (F : FnG X.prog X.w X.K X.mg X.base k fa fd nms sp) (rm : Room k X.A) (bi : Binds X.K fd nms mvs) (dv : Vals more mvs)
    (inv : Inv X pins σ H st) (rv : Vals xs us) (wish : sp (xs ++ more) H Q E) : wpAny (model X.prog X.w) X.A (call (.ref fa) us) (EP X pins σ Q) X.xe st := by
  have both : Vals (xs ++ more) (us ++ mvs) := rv.append dv
  have sz : (us ++ mvs).length = nms.length := both.length.symm.trans (F.size _ _ _ _ wish)
  refine wpAny_call (codeAny_mono (F.goes X.A X.stack st H ⟨us, []⟩ (us ++ mvs) (xs ++ more) Q E gd rm inv.env0 (bi st us inv.kIn sz) both wish) fun res st' got => ?_)
  match res, got with
  | .error _, got => exact got.elim
  | .ok (.ret _), got => exact inv.after got
  | .ok .next, got => exact got.elim
  | .ok .brk, got => exact got.elim
  | .ok .cont, got => exact got.elim
theorem pe_callG (gd : X.A.guards = some []) (F : FnG X.prog X.w X.K X.mg X.base k fa fd nms sp) (rm : Room k X.A) (hg : Gl X x) (hm : X.mg x = some (.ref fa)) (hk : PySem.W.keepIn X.K (.ref fa) = true) (bi : Binds X.K fd nms mvs) (dv : Vals more mvs)
    (pa : PA X (e1 :: es) ta) (dbg : (x == ("__debug__" : Str)) = false := by decide) (h1 : starEach (e1 :: es) X.env = (false, eval e1 X.env) :: starEach es X.env := by rfl) (h2 : (backTo p2 (starEach es X.env)).any (·.1) = false := by rfl) :
    PE X (.Call (.Name x p1) (e1 :: es) [] p2) (tCall sp more E0 ta) where
  run := fun pins st σ H Q inv wish => by
    refine wpAny_Call_Name_kw (ld_glob inv hg hm ?_ dbg)
    exact PySem.W.callWith_K (h₀ := X.base) inv.ok.mod.kin hk (thn (pa.run p2 pins st σ H _ inv wish) fun us st1 ⟨xs, H1, inv1, rv, q⟩ => ⟨inv1.kIn, goes_fn gd F rm bi dv inv1 rv q⟩) h1 h2
end
section
variable {P : Program} {w : World} {K : PySem.W.Frag} {mg : Str → Option Value} {base : Heap} {sp : Sp} {k : Nat} {fa : Addr} {fd : FuncData} {nms Ns : List Str} {x qu : Str} {sm : Stmt}
theorem okG (F : Fun K x qu sm fa fd) (S : FnScope Ns nms (defScope sm)) (size : ∀ xs H Q E, sp xs H Q E → xs.length = nms.length)
    (body : ∀ (cdv : Value) (A : Around) (ou : List Env) (st : Shared) (H : Hp) (xs : List V) (Q : VK) (E : XK), A.guards = some [] → Room k (A.deeper (envOfC qu (defScope sm) st.heap.objs.size fa cdv)) → sp xs H Q E →
      ∃ t, PSs (cxOf CX0 P w K mg base Ns qu (defScope sm) fa cdv A ou st H E).nox (defBody sm) t ∧ t { nx := fun _ H' => Q .non H', rt := Q } (L2.start Ns xs) H) : FnG P w K mg base (k + 1) fa fd nms sp := by
  obtain ⟨_, _, _, _, _, _, cdv, _, _, rfl, lk, cin⟩ := F.ex
  refine ⟨size, fun A ou st H ar us xs Q E gd rm e0 bi rv wish => ?_⟩
  have sz := size _ _ _ _ wish
  have kin : K.In st.heap := e0.mod.kin.keeps fun b o z => (e0.bs b o z).1
  have nol : st.heap.NoLimit := e0.mod.nolimit.keeps fun b o z => (e0.bs b o z).1
  have each : ∀ y ∈ nms.zip us, (defScope sm).names.lookup y.1 = some .local ∨ ((defScope sm).names.lookup y.1 = some .cell ∧ ((cellsFrom (st.heap.objs.size + 1) (defScope sm).names []).lookup y.1).isSome = true) := fun y hy =>
    (S.par y.1 (List.of_mem_zip hy).1).imp id fun z => ⟨z, PySem.W.cellsFrom_some _ _ _ (.inl z)⟩
  refine codeAny_call_function rm.depth (kin _ _ lk) rfl S.co S.gen rfl (PySem.W.codeRec_of kin cin) (bi _ _ _ _ ?_)
  refine wpAny_newFunctionEnv_cells S.kind each fun en hen st1 ent => ?_
  subst hen
  refine ⟨nol.keeps ent.toInCall.keep, codeAny_func ?_⟩
  obtain ⟨t, run, got⟩ := body cdv A ou st H xs Q E gd (rm.deeper _) wish
  have inv : Inv (cxOf CX0 P w K mg base Ns qu (defScope sm) fa cdv A ou st H E) [] (L2.start Ns xs) H st1 := inv_start S rm.hd e0 sz rv ent
  refine wpAny_mono (run.nox.run [] st1 (L2.start Ns xs) H _ inv got) (fun fl st' hs => ?_) fun _ _ hs => hs
  have last : ∀ {σ' : L2.St} {H' : Hp} {v : V} {u : Value}, Inv (cxOf CX0 P w K mg base Ns qu (defScope sm) fa cdv A ou st H E) [] σ' H' st' → RelV v u → Q v H' → CE ou P w H st Q u st' :=
    fun J r q => ⟨_, _, J.os, J.bare, J.base, J.hok, r, q⟩
  match fl, hs with
  | .ret _, ⟨_, _, _, J, r, q⟩ => exact last J r q
  | .next, ⟨_, _, J, q⟩ => exact last (v := .non) (u := Value.none) J rfl q
  | .brk, ⟨_, _, _, q⟩ => exact q.elim
  | .cont, ⟨_, _, _, q⟩ => exact q.elim
end
section
variable {P : Program} {w : World} {K : PySem.W.Frag} {mg mb : Str → Option Value} {k : Nat} {fa a : Addr} {fd : FuncData} {x : Str} {sp : Sp} {st : Shared} {us : List Value} {ns : List Int}
/-- the law's call, from its def's promise without guards -/
theorem callG (kin : K.In st.heap) (n1 : st.heap.Ns mainGlobals mg) (n2 : st.heap.Ns builtinsNs mb) (n3 : ∀ x : Str, x ≠ "__name__" → mb x = bootBuiltins x) (n4 : st.heap.NoLimit) (gn : st.gens = #[])
    (ga : st.heap.get? a = some { cls := .type "list", data := .seq us.toArray }) (hi : IntsAre us ns) (hl : ns.length ≤ sizeLine) (rm : Room k callerA)
    (F : ∀ base : Heap, K.In base → base.Ns mainGlobals mg → FnG P w K mg base k fa fd [x] sp) (bi : ∀ (s : Shared) (u : Value), BindsTo s fd ⟨[u], []⟩ [(x, u)])
    (wish : ∀ H : Hp, Only H → SqL K H a (ns.map V.int) → sp [.ref a] H (fun v _ => v = .bl true) fun _ _ _ => False) :
    codeAny (model P w) callerA (.call (.ref fa) ⟨[.ref a], []⟩) (fun r s' => r = .ok (.ret (.bool true)) ∧ OldK st.heap s'.heap ∧ s'.os = st.os ∧ AllBare s'.gens) st := by
  have vals := vals_ints hi
  have core : ∀ H : Hp, Only H → SqL K H a (ns.map V.int) → HOk P w H st.heap → (∀ b, H b ≠ none → b = a) → (H a ≠ none → K.lookup a = none) →
      codeAny (model P w) callerA (.call (.ref fa) ⟨[.ref a], []⟩) (fun r s' => r = .ok (.ret (.bool true)) ∧ OldK st.heap s'.heap ∧ s'.os = st.os ∧ AllBare s'.gens) st := by
    intro H ho hs hok one out
    have none_of : ∀ {b : Addr} {o : Obj}, st.heap.get? b = some o → (b = a → False) → H b = none := fun {b o} _ z => by
      cases q : H b with
      | none => rfl
      | some u => exact (z (one b (by rw [q]; exact nofun))).elim
    have dicts : ∀ {b : Addr} {o : Obj} {ds : Array DictEntry} {n : Nat}, st.heap.get? b = some o → o.data = .dict ds n → H b = none := fun {b o ds n} e d => none_of e fun z => by
      rw [z, ga] at e
      cases e
      cases (show Data.seq us.toArray _ = Data.dict ds n from d)
    have nsp : ∀ {b : Addr} {m : Str → Option Value}, st.heap.Ns b m → (hidT st.heap H).Ns b m := fun ⟨o, ds, n, e, d, r⟩ => ⟨o, ds, n, hidT_get e (dicts e d), d, r⟩
    have kin2 : K.In (hidT st.heap H) := fun b o e => hidT_get (kin b o e) (by
      cases q : H b with
      | none => rfl
      | some u =>
        have z := one b (by rw [q]; exact nofun)
        rw [z] at q e
        rw [out (by rw [q]; exact nofun)] at e
        cases e)
    have md : Mod K mg (hidT st.heap H) := ⟨kin2, nsp n1, ⟨mb, nsp n2, n3⟩, n4.imp fun _ z => ⟨nsp z.1, z.2⟩⟩
    have e0 : Env0 P w K mg (hidT st.heap H) callerA [] st H := ⟨rfl, md, fun _ _ z => of_hidT z, Nat.le_of_eq (hidT_size _ _), trivial, (fun b hb => nomatch (show b ∈ ([] : List Addr) from hb)), hok, .of_eq gn⟩
    refine codeAny_mono ((F _ kin2 (nsp n1)).goes callerA [] st H ⟨[.ref a], []⟩ [.ref a] [.ref a] _ _ rfl rm e0 (bi st (.ref a)) (.cons rfl .nil) (wish H ho hs)) fun r s' got => ?_
    match r, got with
    | .error _, got => exact got.elim
    | .ok .next, got => exact got.elim
    | .ok .brk, got => exact got.elim
    | .ok .cont, got => exact got.elim
    | .ok (.ret u), ⟨v, H', o1, o2, un, hok', rv, q⟩ =>
      have q : v = .bl true := q
      subst q
      obtain rfl : u = Value.bool true := rv
      refine ⟨rfl, OldK.of_keep fun b o e => ?_, o1, o2⟩
      cases hb : H b with
      | none => exact un.keep b o e hb (fun z => nomatch (show b ∈ ([] : List Addr) from z)) nofun
      | some y =>
        rcases ho b with z | ⟨ob, xs, z⟩
        · rw [hb] at z; cases z
        · have e1 := (hok b _ z).1
          rw [e] at e1
          cases e1
          exact (hok' b _ (un.frzs b _ _ z)).1
  cases hk : K.lookup a with
  | some o =>
    have e := kin a o hk
    rw [ga] at e
    cases e
    exact core (fun _ => none) (fun _ => .inl rfl) (.inr ⟨_, us.toArray, _, hk, rfl, rfl, rfl, by rw [List.size_toArray, hi.length]; exact hl, by simpa using vals⟩) (fun b u z => nomatch (show (none : Option HO) = some u from z)) (fun b z => absurd rfl z) fun z => absurd rfl z
  | none =>
    refine core (fun b => if b = a then some (.frz { cls := .type "list", data := .seq us.toArray } (.lst (ns.map V.int))) else none) (fun b => ?_) (.inl (.inr ⟨_, if_pos rfl⟩)) (fun b u z => ?_) (fun b z => ?_) fun _ => hk
    · by_cases hb : b = a
      · exact .inr ⟨_, _, if_pos hb⟩
      · exact .inl (if_neg hb)
    · by_cases hb : b = a
      · cases (if_pos hb).symm.trans z
        subst hb
        exact ⟨ga, by rw [List.length_map]; exact hl, us, _, vals, ga⟩
      · cases (if_neg hb).symm.trans z
    · by_cases hb : b = a
      · exact hb
      · exact absurd (if_neg hb) z
end
theorem walkG {l : PySem.W.OpenLaw} {n k : Nat} {q : Program} {loose : List Str} {XP : (Str → Option Value) → Heap → Prop} {YP : World → Heap → Prop} {d : DefRec} {K : Params → PySem.W.Frag} {sp : World → Sp} {x : Str}
    (hn : l.most = some n) (hn2 : n ≤ sizeLine) (nodef : d.params.defaults = []) (rm : Room k callerA) (hY : ∀ (w : World) (h : Heap), YP w h → (K w.params).In h)
    (F : ∀ (w : World) (mg : Str → Option Value) (fa : Addr) (h : Heap), (K w.params).In h → h.Ns mainGlobals mg → mg d.name = some (.ref fa) →
      ∃ fd : FuncData, (∀ (s : Shared) (u : Value), BindsTo s fd ⟨[u], []⟩ [(x, u)]) ∧ ∀ base : Heap, (K w.params).In base → base.Ns mainGlobals mg → FnG l.prog w (K w.params) mg base k fa fd [x] (sp w))
    (wish : ∀ (w : World) (H : Hp) (a : Addr) (ns : List Int), ns.length ≤ n → Only H → SqL (K w.params) H a (ns.map V.int) → sp w [.ref a] H (fun v _ => v = .bl true) fun _ _ _ => False) :
    PySem.W.WalkO q loose XP YP l.row.toRowW d [] (fun f vs => PySem.call f vs) := by
  refine Att.attach_call hn nodef fun w _ _ mg _ fa _ _ _ _ a _ ns G Y _ _ _ hm ob hi le gn => ?_
  obtain ⟨_, bi, run⟩ := F w mg fa _ (hY w _ Y) G.T.g hm
  exact callG (hY w _ Y) G.T.g G.T.b G.T.builtins G.T.nolimit gn ob hi (Nat.le_trans le hn2) rm run bi fun H h1 h2 => wish w H a ns le h1 h2
/-! ### repr of data -/
/-- data without dicts, not deep, its text not long -/
def Shw (m n : Nat) (d : PyData) : Prop := d.showable = true ∧ d.hasDict = false ∧ d.canLay0 = true ∧ d.depth ≤ n ∧ d.shown.length ≤ m
def rRepr (K : PySem.W.Frag) : List V → Hp → VK → Prop := fun xs H Q => ∃ x d, xs = [x] ∧ (∃ a, x = .ref a) ∧ Dp K H x d ∧ Shw 10000000 60 d ∧ Q (.str d.shown) H
theorem kx_repr {X : Cx} {K : PySem.W.Frag} (h : X.K = K) (gd : X.A.guards = some []) (hu : X.A.units + 64 < cLine) : CallR X (.builtin "repr") (rRepr K) := by
  subst h
  intro pins s σ H xs us Q inv rv ⟨x, d, e, ⟨a, ea⟩, hd, ⟨s1, s2, s3, s4, s5⟩, q⟩
  subst e ea
  cases rv with
  | cons r n =>
    cases n
    obtain ⟨as, rd⟩ := Dp.reads inv d _ _ hd r
    obtain rfl := r
    exact repr_of_reads' rd s1 (PyData.noDict_hsm s2) gd (by omega) (fun _ _ e => e) (fun h' u tk hk => ⟨.str _, H, inv.kept hk, ⟨_, rfl⟩, q⟩) (Nat.le_trans s5 (by decide))
end VG
namespace VL
open PySem L2
section
variable {C : Ctx} {f f1 : Bool} {ta : TE} {da : DE}
@[simp] def isRef : PyData → Bool
  | .list _ => true
  | .tuple _ => true
  | _ => false
@[simp] def gRepr : List PyData → (PyData → Prop) → Prop := fun xs Φ => ∃ d, xs = [d] ∧ isRef d = true ∧ VG.Shw 10000000 60 d ∧ Φ (.str d.shown)
theorem cbd_repr : CbD C (VG.rRepr C.K) gRepr := fun H vs xs Φ Q r ⟨d, e, e2, hs, p⟩ q => by
  subst e
  cases r with
  | cons h n =>
    cases n
    refine ⟨_, d, rfl, ?_, h.dp hs.2.2.1, hs, q _ _ (fun _ => .str _) p⟩
    cases h <;> first | exact ⟨_, rfl⟩ | simp at e2
end
theorem body_start {K : PySem.W.Frag} {ex : Option Addr} {H H0 : Hp} {rs : List R} {vs : List V} {Φ : RX → Prop} {Q : VK} {N : List Str} {ln : Nat} {t : TS} {d : DS} (hn : ln = N.length) (hd : ∀ (ex : Option Addr) (He Hf : Hp), SmS ⟨K, ex, He, Hf⟩ t d) (wf : Wf ⟨K, ex, H, H0⟩ H0 H) (ra : RRas K ex H0 vs rs)
    (hp : d { nx := fun _ => Φ (.d .none), rt := Φ } (startD ln rs)) (q : ∀ H0' H' v r, Wf ⟨K, ex, H, H0⟩ H0' H' → RXR ⟨K, ex, H, H0⟩ H0' H' v r → Φ r → Q v H') : t { nx := fun _ H' => Q .non H', rt := Q } (L2.start N vs) H := by
  have hlen := ra.length
  refine hd ex H H0 _ (startD ln rs) H0 H _ _ ⟨wf, ?_, fun i r e => ?_, fun i j a b xs ys n e1 e2 a1 a2 => ?_⟩ hp ⟨fun H0' H' σ δ g s' w' => ?_, fun H0' H' v r g w' xr p' => q H0' H' v r w' xr p', fun _ _ _ _ _ _ h => h.elim, fun _ _ _ _ _ _ h => h.elim⟩
  · simp [L2.start, startD, hlen, hn]
  · unfold startD at e
    by_cases hi : i < rs.length
    · rw [List.getElem?_append_left (by simpa using hi), List.getElem?_map] at e
      cases e1 : rs[i]? with
      | none => rw [e1] at e; simp at e
      | some r' =>
        rw [e1] at e
        simp at e
        subst e
        obtain ⟨v, h1, h2⟩ := ra.get e1
        refine ⟨v, ?_, ?_⟩
        · unfold L2.start
          rw [List.getElem?_append_left (by rw [List.length_map, hlen]; exact hi), List.getElem?_map, h1]
          rfl
        · cases r' with
          | d x => exact h2
          | own a xs => exact h2.elim
          | drw => exact h2
          | raw u => exact h2
          | scr ns => exact h2
          | fn F => exact h2
          | dct a es => exact h2.elim
    · rw [List.getElem?_append_right (by simpa using hi)] at e
      rw [List.getElem?_replicate] at e
      split at e <;> simp at e
  · exfalso
    have f : ∀ {i : Nat} {a : Addr} {r : R}, (startD ln rs)[i]? = some (some r) → r.adr = some a → False := fun {i a r} e ea => by
      unfold startD at e
      by_cases hi : i < rs.length
      · rw [List.getElem?_append_left (by simpa using hi), List.getElem?_map] at e
        cases e1 : rs[i]? with
        | none => rw [e1] at e; simp at e
        | some r' =>
          rw [e1] at e
          simp at e
          subst e
          obtain ⟨v, h1, h2⟩ := ra.get e1
          cases r' with
          | own a xs => exact h2
          | dct a xs => exact h2
          | d x => cases ea
          | drw => cases ea
          | raw u => cases ea
          | scr ns => cases ea
          | fn F => cases ea
      · rw [List.getElem?_append_right (by simpa using hi)] at e
        rw [List.getElem?_replicate] at e
        split at e <;> simp at e
    exact f e1 a1
  · exact q H0' H' .non (.d .none) s'.toWf .non w'

theorem fn_okG {P : Program} {w : World} {K : PySem.W.Frag} {mg : Str → Option Value} {base : Heap} {x qual : Str} {st : Stmt} {fa : Addr} {fd : FuncData} {N ps : List Str} {k : Nat} {p : VSp}
    (F : Fun K x qual st fa fd) (S : FnScope N ps (defScope st))
    (hbody : ∀ (cdv : Value) (A : Around) (outer : List Env) (s : Shared) (H : Hp) (E : XK), A.guards = some [] → Room k (A.deeper (PyProof.Rows.envOfC qual (defScope st) s.heap.objs.size fa cdv)) →
      ∃ t, PSs (cxOf CX0 P w K mg base N qual (defScope st) fa cdv A outer s H E).nox (defBody st) t ∧ ∃ d : DS, (∀ (ex : Option Addr) (He Hf : Hp), SmS ⟨K, ex, He, Hf⟩ t d) ∧ ∀ rs Φ, p rs Φ → d { nx := fun _ => Φ (.d .none), rt := Φ } (startD N.length rs)) : VG.FnG P w K mg base (k + 1) fa fd ps (toSp K ps.length p) := by
  refine VG.okG F S (fun vs H Q E h => h.1) (fun cdv A outer s H vs Q E gd hr h => ?_)
  obtain ⟨t, ht, d, hd, hp⟩ := hbody cdv A outer s H E gd hr
  obtain ⟨hl, ex, H0, rs, Φ, wf, ra, hsp, q⟩ := h
  exact ⟨t, ht, body_start rfl hd wf ra (hp rs Φ hsp) q⟩
/-- a comprehension over range(n) -/
theorem oLc_nn {da : DE} {i : Nat} {de : DE} {δ : Dl} {Φ : List PyData → Prop} {n : Nat} (hn : n ≤ 1000000) (h : ∀ Ψ : PyData → Prop, Ψ (.int n) → da δ Ψ) (P : List PyData → Prop) (h0 : P [])
    (hs : ∀ (k : Nat) (acc : List PyData) (Ψ : PyData → Prop), k < n → acc.length = k → P acc → (∀ z, P (acc ++ [z]) → Ψ z) → de (δ.set i (some (.d (.int k)))) Ψ) (hΦ : ∀ acc, acc.length = n → P acc → Φ acc) : oLc (iR1 da) i dYes de δ Φ := by
  unfold oLc
  refine h _ ⟨n, rfl, by omega, by omega, fun k acc => acc.length = k ∧ P acc, ⟨rfl, h0⟩, fun k y acc hy ha => ?_, fun acc ha => ?_⟩
  · obtain ⟨hk, rfl⟩ := rng_get hy
    have hk : k < n := hk
    unfold dYes
    dsimp only
    rw [if_pos rfl]
    rw [show (0 : Int) + (k : Int) = (k : Int) from Int.zero_add _]
    refine hs k acc _ hk ha.1 ha.2 fun z hz => ⟨?_, ?_, hz⟩
    · rw [ha.1]
      exact Nat.lt_of_lt_of_le (show k < 1000000 by omega) (by decide)
    · rw [List.length_append, ha.1]; rfl
  · rw [rng_len] at ha
    exact hΦ acc ha.1 ha.2
section
variable {C : Ctx} {f f2 : Bool} {tb : TE} {db : DE}
/-- an item of an owned list -/
@[simp] def dIxO (i : Nat) (db : DE) : DE := fun δ Φ => ∃ a xs, δ[i]? = some (some (.own a xs)) ∧ db δ fun y => ∃ k z, y = .int k ∧ atI xs k = some z ∧ Φ z
theorem sm_ixO (i : Nat) (hb : Sm C f2 tb db) : Sm C f (tOp (rIx C.K) (tVar i) tb) (dIxO i db) := fun σ δ H0 H Φ Q s ⟨a, xs, e, w⟩ q => by
  obtain ⟨v, e1, rfl, h1, h2, h3, vs, h4, h5⟩ := s.sl i _ e
  refine ⟨_, e1, hb σ δ H0 H _ _ s w fun H02 H2 u y g2 r2 ⟨k, z, e2, e3, p⟩ => ?_⟩
  subst e2
  cases r2
  have s2 := s.go g2
  obtain ⟨v', f1, f2, f3, f4, f5, us, f6, f7⟩ := s2.sl i _ e
  obtain ⟨y', e4, ry⟩ := atI_rp f7 e3
  exact .inl ⟨a, us, k, y', rfl, rfl, SqL.of f6, e4, q H02 H2 y' z g2 (Rp.mono g2.wf.to ry) p⟩
end
/-- a statement with two ways: what the test tells, then each way -/
theorem dIfS_two {dt : DT} {d1 d2 : DS} {E : DEnds} {δ : Dl} (Ok : Bool → Prop) (h : ∀ Ψ : Bool → Prop, (∀ b, Ok b → Ψ b) → dt δ Ψ) (h1 : Ok true → d1 E δ) (h2 : Ok false → d2 E δ) : dIfS dt d1 d2 E δ := by
  unfold dIfS
  refine h _ fun b hb => ?_
  cases b with
  | true => rw [if_pos rfl]; exact h1 hb
  | false => rw [if_neg Bool.false_ne_true]; exact h2 hb
/-- range(n), n at most L -/
theorem dFor_r {da : DE} {i : Nat} {db : DS} {E : DEnds} {δ : Dl} (L : Nat) (hL : L < 4611686018427387904) (h : ∀ Ψ : PyData → Prop, (∀ n : Nat, n ≤ L → Ψ (.int n)) → da δ Ψ) (I : Nat → Dl → Prop) (h0 : I 0 δ)
    (hs : ∀ (k : Nat) (δ' : Dl), k < L → I k δ' → db { E with nx := I (k + 1), ct := I (k + 1), bk := E.nx } (δ'.set i (some (.d (.int k))))) (he : ∀ (n : Nat) (δ' : Dl), n ≤ L → I n δ' → E.nx δ') : dFor (iR1 da) (dgName i) db E δ := by
  unfold dFor
  refine h _ fun n hn => ⟨n, rfl, by omega, by omega, I, h0, fun k y δ' hy hI => ?_, fun δ' hI => ?_⟩
  · obtain ⟨hk, rfl⟩ := rng_get hy
    have hk : k < n := hk
    have := hs k δ' (by omega) hI
    rw [show (k : Int) = 0 + (k : Int) from (Int.zero_add _).symm] at this
    exact this
  · rw [rng_len] at hI
    exact he n δ' hn hI
end VL

/-! reversed of a tuple, sums, comprehensions with a test. -/
namespace VL
open PySem L2
section
variable {C : Ctx} {ta : TE} {da : DE}
@[simp] def iRvA (da : DE) : DI := fun δ Φ => da δ fun x => ∃ xs, seqOf x = some xs ∧ Φ xs.reverse
theorem smi_revA (ha : Sm C true ta da) : SmI C (RT.iRevA C.K ta) (iRvA da) := fun σ δ H0 H Φ R s w q =>
  ha σ δ H0 H _ _ s w fun H01 H1 v x g1 r1 ⟨xs, e, p⟩ => by
    cases r1 with
    | @lst a us _ h r =>
      simp [seqOf] at e
      subst e
      refine ⟨a, us, rfl, .inl ⟨SqL.of (g1.wf.sub _ _ h), q _ _ _ _ g1 ⟨fun H0' H' i e w hi => ?_, fun H0' H' i e w hi => ?_, fun H0' H' i v H'' e w hi y => ?_⟩ p⟩⟩
      · rw [List.length_reverse] at hi
        show us.length ≤ i
        rw [r.length]; omega
      · rw [List.length_reverse] at hi
        obtain ⟨y, hy⟩ := get_lt (show us.length - 1 - i < us.length by rw [r.length]; omega)
        exact ⟨by rw [r.length]; exact hi, us, y, SqL.of (w.sub _ _ (e _ _ h)), hy⟩
      · rw [List.length_reverse] at hi
        obtain ⟨rfl, y⟩ := y
        obtain ⟨z, hz, rz⟩ := r.get' (y us (SqL.of (w.sub _ _ (e _ _ h))))
        refine ⟨H0', z, .refl w, ?_, rz.mono e⟩
        rw [List.getElem?_reverse hi, ← r.length]
        exact hz
    | @tup a us _ h r =>
      simp [seqOf] at e
      subst e
      refine ⟨a, us, rfl, .inr ⟨same_t g1.wf.sub h, q _ _ _ _ g1 ⟨fun H0' H' i e w hi => ?_, fun H0' H' i e w hi => ?_, fun H0' H' i v H'' e w hi y => ?_⟩ p⟩⟩
      · rw [List.length_reverse] at hi
        show us.length ≤ i
        rw [r.length]; omega
      · rw [List.length_reverse] at hi
        obtain ⟨y, hy⟩ := get_lt (show us.length - 1 - i < us.length by rw [r.length]; omega)
        exact ⟨by rw [r.length]; exact hi, us, y, same_t w.sub (same_t e h), hy⟩
      · rw [List.length_reverse] at hi
        obtain ⟨rfl, y⟩ := y
        obtain ⟨z, hz, rz⟩ := r.get' (y us (same_t w.sub (same_t e h)))
        refine ⟨H0', z, .refl w, ?_, rz.mono e⟩
        rw [List.getElem?_reverse hi, ← r.length]
        exact hz
    | _ => simp [seqOf] at e
@[simp] def gSum : List PyData → (PyData → Prop) → Prop := fun xs Φ => ∃ ns : List Int, xs = [.list (ns.map .int)] ∧ Φ (.int ns.sum)
theorem cbd_sum : CbD C (rSum C.K) gSum := fun H vs xs Φ Q r ⟨ns, e, p⟩ q => by
  subst e
  cases r with
  | cons h n =>
    cases n
    cases h with
    | lst h r =>
      have e := rpa_ints r
      subst e
      exact ⟨_, ns, rfl, SqL.of h, q _ _ (fun _ => .int _) p⟩
end
theorem kx_revA {X : Cx} {K : PySem.W.Frag} (h : X.K = K) {tg e : Expr} {te : TE} {p pos : Pos} (hg : Gl X "reversed") (hm : X.mg "reversed" = none) (he : PE X e te) (hs : starEach [e] X.env = (false, eval e X.env) :: starEach [] X.env := by rfl) : PI X tg (.Call (.Name "reversed" p) [e] [] pos) (RT.iRevA K te) := by
  subst h
  exact RT.pi_revA hg hm he hs
theorem kx_sum {X : Cx} {K : PySem.W.Frag} (h : X.K = K) (hc : X.calm = true) : CallR X (.builtin "sum") (rSum K) := by
  subst h
  exact cr_sum hc
/-- a comprehension with a test over a walked list: the items that pass, each by a function -/
theorem oLc_filter {α : Type} {di : DI} {i : Nat} {dt : DT} {de : DE} {δ : Dl} {Φ : List PyData → Prop} (xs : List α) (D G : α → PyData) (T : α → Bool) (hn : xs.length < 1000000) (h : ∀ Ψ : List PyData → Prop, Ψ (xs.map D) → di δ Ψ)
    (ht : ∀ (k : Nat) (a : α) (Ψ : Bool → Prop), xs[k]? = some a → Ψ (T a) → dt (δ.set i (some (.d (D a)))) Ψ)
    (hs : ∀ (k : Nat) (a : α) (Ψ : PyData → Prop), xs[k]? = some a → T a = true → Ψ (G a) → de (δ.set i (some (.d (D a)))) Ψ) (hΦ : Φ ((xs.filter T).map G)) : oLc di i dt de δ Φ := by
  unfold oLc
  refine h _ ⟨fun k acc => acc = ((xs.take k).filter T).map G, by simp, fun k y acc hy ha => ?_, fun acc ha => ?_⟩
  · subst ha
    rw [List.getElem?_map] at hy
    obtain ⟨a, ha, rfl⟩ := Option.map_eq_some_iff.mp hy
    have hk := (List.getElem?_eq_some_iff.mp ha).1
    refine ht k a _ ha ?_
    cases e : T a with
    | false =>
      rw [if_neg Bool.false_ne_true]
      show ((xs.take k).filter T).map G = ((xs.take (k + 1)).filter T).map G
      rw [List.take_add_one, ha, List.filter_append]
      simp [e]
    | true =>
      rw [if_pos rfl]
      refine hs k a _ ha e ⟨?_, ?_⟩
      · rw [List.length_map]
        have h1 := List.length_filter_le T (xs.take k)
        rw [List.length_take] at h1
        exact Nat.lt_of_lt_of_le (show _ < 1000000 by omega) (by decide)
      · show ((xs.take k).filter T).map G ++ [G a] = ((xs.take (k + 1)).filter T).map G
        rw [List.take_add_one, ha, List.filter_append]
        simp [e]
  · subst ha
    rw [List.length_map, List.take_length]
    exact hΦ
section
variable {C : Ctx}
@[simp] def gIsB (neg : Bool) : PyData → PyData → (PyData → Prop) → Prop := fun x y Φ => ∃ a b, x = .bool a ∧ y = .bool b ∧ Φ (.bool (if neg then !decide (a = b) else decide (a = b)))
theorem opd_notB : OpD C rNotB (gIsB true) := fun H v u x y Φ Q rv ru ⟨a, b, e1, e2, p⟩ q => by
  subst e1 e2
  cases rv
  cases ru
  exact ⟨a, b, rfl, rfl, q _ _ (fun _ => .bl _) p⟩
theorem opd_isB : OpD C rIsB (gIsB false) := fun H v u x y Φ Q rv ru ⟨a, b, e1, e2, p⟩ q => by
  subst e1 e2
  cases rv
  cases ru
  exact ⟨a, b, rfl, rfl, q _ _ (fun _ => .bl _) p⟩
end
/-- range(n), n from 1 to L -/
theorem dFor_r1 {da : DE} {i : Nat} {db : DS} {E : DEnds} {δ : Dl} (L : Nat) (hL : L < 4611686018427387904) (h : ∀ Ψ : PyData → Prop, (∀ n : Nat, 1 ≤ n → n ≤ L → Ψ (.int n)) → da δ Ψ) (I : Nat → Dl → Prop) (h0 : I 0 δ)
    (hs : ∀ (k : Nat) (δ' : Dl), k < L → I k δ' → db { E with nx := I (k + 1), ct := I (k + 1), bk := E.nx } (δ'.set i (some (.d (.int k))))) (he : ∀ (n : Nat) (δ' : Dl), 1 ≤ n → n ≤ L → I n δ' → E.nx δ') : dFor (iR1 da) (dgName i) db E δ := by
  unfold dFor
  refine h _ fun n hn1 hn => ⟨n, rfl, by omega, by omega, I, h0, fun k y δ' hy hI => ?_, fun δ' hI => ?_⟩
  · obtain ⟨hk, rfl⟩ := rng_get hy
    have hk : k < n := hk
    have := hs k δ' (by omega) hI
    rw [show (k : Int) = 0 + (k : Int) from (Int.zero_add _).symm] at this
    exact this
  · rw [rng_len] at hI
    exact he n δ' hn1 hn hI
section
variable {C : Ctx} {ta tb : TE} {da db : DE} {f2 : Bool}
theorem RpA.flat {K : PySem.W.Frag} {H : Hp} {vs : List V} {xs : List PyData} (r : RpA K H vs xs) : ∀ n : Nat, RpA K H (List.replicate n vs).flatten (List.replicate n xs).flatten
  | 0 => .nil
  | n + 1 => by
    rw [List.replicate_succ, List.replicate_succ, List.flatten_cons, List.flatten_cons]
    exact r.append (RpA.flat r n)
/-- xs * n, a new list -/
@[simp] def oRep (da db : DE) : DO := fun δ Φ => da δ fun x => db δ fun y => ∃ xs k, x = .list xs ∧ y = .int k ∧ -(2 ^ 63) ≤ k ∧ k < 2 ^ 63 ∧ xs.length * k.toNat ≤ sizeLine ∧ Φ (List.replicate k.toNat xs).flatten
theorem smo_rep (ha : Sm C true ta da) (hb : Sm C f2 tb db) : SmO C (tOp rRep ta tb) (oRep da db) := fun σ δ H0 H Φ Q s w q =>
  ha σ δ H0 H _ _ s w fun H01 H1 v x g1 r1 w1 => hb σ δ H01 H1 _ _ (s.go g1) w1 fun H02 H2 u y g2 r2 ⟨xs, k, e1, e2, h1, h2, h3, p⟩ => by
    subst e1 e2
    cases r2
    have r3 := r1.mono g2.fz
    cases r3 with
    | @lst a us _ h r =>
      refine ⟨a, k, us, rfl, rfl, g2.wf.sub _ _ h, h1, h2, by rw [r.length]; exact h3, fun l hl => ?_⟩
      have g3 := Go.free (o := .lst (List.replicate k.toNat us).flatten) g2.wf hl
      exact q _ _ l _ _ ((g1.trans g2).trans g3) ((g1.trans g2).fresh hl) (g2.wf.none hl) upd_same (r.flat _) p
end
section
variable {C : Ctx} {ta : TE} {da : DE} {f1 : Bool}
/-- list(range(n)), a new list -/
@[simp] def oListRg (da : DE) : DO := fun δ Φ => da δ fun x => ∃ n : Nat, x = .int n ∧ n ≤ 16777216 ∧ Φ (rng 0 n)
theorem rpa_rng {K : PySem.W.Frag} {H : Hp} (n : Nat) : RpA K H (rgV 0 (n : Int)) (rng 0 n) := by
  unfold rgV rng
  rw [show ((n : Int) - 0).toNat = n by omega]
  generalize List.range n = l
  induction l with
  | nil => exact .nil
  | cons a l ih => exact .cons (.int _) ih
theorem smo_listRg (ha : Sm C f1 ta da) : SmO C (tLstRg (tRg1 ta)) (oListRg da) := fun σ δ H0 H Φ Q s w q =>
  ha σ δ H0 H _ _ s w fun H01 H1 v x g1 r1 ⟨n, e, hn, p⟩ => by
    subst e
    cases r1
    refine ⟨(n : Int), rfl, RgOk.of_le (by omega) (by omega) (by omega) (by omega), fun l hl => ?_⟩
    have g2 := Go.free (o := .lst (rgV 0 (n : Int))) g1.wf hl
    exact q _ _ l _ _ (g1.trans g2) (g1.fresh hl) (g1.wf.none hl) upd_same (rpa_rng n) p
end
/-- while: a statement that falls by a number; what the test tells, then the turn, then the end -/
theorem dWhile_by {dt : DT} {db : DS} {E : DEnds} {δ : Dl} (I : Nat → Dl → Prop) (h0 : ∃ m, I m δ)
    (hs : ∀ m δ', I m δ' → ∃ Ok : Bool → Prop, (∀ Ψ : Bool → Prop, (∀ b, Ok b → Ψ b) → dt δ' Ψ) ∧ (Ok true → db { E with nx := fun δ'' => ∃ m', m' < m ∧ I m' δ'', ct := fun δ'' => ∃ m', m' < m ∧ I m' δ'', bk := E.nx } δ') ∧ (Ok false → E.nx δ')) : dWhile dt db E δ := by
  refine ⟨I, h0, fun m δ' hI => ?_⟩
  obtain ⟨Ok, h1, h2, h3⟩ := hs m δ' hI
  refine h1 _ fun b hb => ?_
  cases b with
  | true => rw [if_pos rfl]; exact h2 hb
  | false => rw [if_neg Bool.false_ne_true]; exact h3 hb
/-- what is walked is known by a property -/
theorem dFor_q {di : DI} {dg : DG} {db : DS} {E : DEnds} {δ : Dl} (Q : List PyData → Prop) (h : ∀ Ψ : List PyData → Prop, (∀ xs, Q xs → Ψ xs) → di δ Ψ) (I : Nat → Dl → Prop) (h0 : I 0 δ)
    (hs : ∀ (xs : List PyData) (k : Nat) (y : PyData) (δ' : Dl), Q xs → xs[k]? = some y → I k δ' → dg y δ' fun δ'' => db { E with nx := I (k + 1), ct := I (k + 1), bk := E.nx } δ'') (he : ∀ (xs : List PyData) (δ' : Dl), Q xs → I xs.length δ' → E.nx δ') : dFor di dg db E δ := by
  unfold dFor
  exact h _ fun xs hq => ⟨I, h0, fun k y δ' hy hI => hs xs k y δ' hq hy hI, fun δ' hI => he xs δ' hq hI⟩
section
variable {C : Ctx} {te ta tb td : TE} {de da db dd : DE} {g1 g2 : TG} {dg1 dg2 : DG} {f f1 f2 : Bool}
/-- a = b = e -/
@[simp] def dAsg2 (de : DE) (dg1 dg2 : DG) : DS := fun E δ => de δ fun x => dg1 x δ fun δ1 => dg2 x δ1 E.nx
theorem sms_asg2 (h : Sm C true te de) (k1 : SmG C g1 dg1) (k2 : SmG C g2 dg2) : SmS C (tAsg2 te g1 g2) (dAsg2 de dg1 dg2) := fun σ δ H0 H E D s w e =>
  h σ δ H0 H _ _ s w fun H0' H' v x g r p => k1 v x σ δ H0' H' _ _ (s.go g) r p fun σ1 δ1 s1 w1 => k2 v x σ1 δ1 H0' H' _ _ s1 r w1 fun σ2 δ2 s2 w2 => e.nx H0' H' σ2 δ2 g.fz s2 w2
/-- {k1: a, k2: b}[d], keys and values texts -/
@[simp] def dMenu2 (k1 k2 : Str) (da db dd : DE) : DE := fun δ Φ => da δ fun x => db δ fun y => ∃ i j, x = .str i ∧ y = .str j ∧ ¬ k2 = k1 ∧ dd δ fun t => ∃ s, t = .str s ∧ ((s = k1 ∧ Φ (.str i)) ∨ (s = k2 ∧ Φ (.str j)))
theorem sm_menu2 {k1 k2 : Str} (ha : Sm C f1 ta da) (hb : Sm C f2 tb db) (hd : Sm C false td dd) : Sm C f (tDGet (tDisp [(tC (.str k1), ta), (tC (.str k2), tb)]) td) (dMenu2 k1 k2 da db dd) := fun σ δ H0 H Φ Q s w q => by
  intro p hp
  have gp : Go C H0 H H0 (upd H p (.dK [])) := Go.free s.toWf hp
  have nex := (Go.he s.toWf hp).2
  refine ha σ δ H0 _ _ _ (s.go gp) w fun H01 H1 v x g1 r1 w1 => hb σ δ H01 H1 _ _ ((s.go gp).go g1) w1 fun H02 H2 u y g2 r2 w2 => ?_
  have g12 := g1.trans g2
  have hk : H2 p = some (.dK []) := g12.kp p _ nex upd_same
  have g0 := gp.trans g12
  have hn : H02 p = none := by
    cases e : H02 p with
    | none => rfl
    | some o =>
      rcases g12.nw p o e with h | h
      · rw [s.toWf.none hp] at h; cases h
      · rw [upd_same] at h; cases h
  obtain ⟨i, j, rfl, rfl, n1, w4⟩ := w2
  cases r1
  cases r2
  have m1 : mergeK [] [((.inr k1 : Key), V.str i), (.inr k2, .str j)] = [((.inr k1 : Key), V.str i), (.inr k2, .str j)] := by
    simp [mergeK, putK, Ne.symm n1, n1]
  refine ⟨hk, [((.inr k1 : Key), V.str i), (.inr k2, .str j)], rfl, by simp, ?_⟩
  rw [m1]
  have g4 := Go.wr (o := .dK [((.inr k1 : Key), V.str i), (.inr k2, .str j)]) s.toWf hp g0 hn
  refine hd σ δ H02 _ _ _ (s.go g4) w4 fun H05 H5 v5 x5 g5 r5 ⟨st, e5, p5⟩ => ?_
  subst e5
  cases r5
  have h5 : H5 p = some (.dK [((.inr k1 : Key), V.str i), (.inr k2, .str j)]) := g5.kp p _ nex upd_same
  rcases p5 with ⟨rfl, p5⟩ | ⟨rfl, p5⟩
  · refine ⟨p, .str i, rfl, .inl ⟨_, .inr st, .inl h5, rfl, ?_⟩, q _ _ _ _ (g4.trans g5) (.str i) p5⟩
    simp [valV]
  · refine ⟨p, .str j, rfl, .inl ⟨_, .inr st, .inl h5, rfl, ?_⟩, q _ _ _ _ (g4.trans g5) (.str j) p5⟩
    simp [valV, Ne.symm n1]
end
end VL

/-! a written dict of defs: looked up into a slot, asked for a key, its def called. -/
namespace VL
open PySem L2
/-- a written dict whose values are defs -/
structure KdF (K : PySem.W.Frag) (w : World) (d : Addr) (L : List (Str × Addr)) : Prop where
  ex : ∃ es n, L2.KDict K w d es n
  all : ∀ k f, (k, f) ∈ L → PySem.W.nsIn K d k = some (some (.ref f))
theorem KdF.mk' {K : PySem.W.Frag} {w : World} {d : Addr} {L : List (Str × Addr)} {es : Array DictEntry} {n : Nat} (h : K.lookup d = some ⟨.type "dict", none, .dict es n, #[]⟩) (hk : PySem.W.KeysLit w.params es.toList) (lo : (d == sysModules) = false)
    (all : ∀ k f, (k, f) ∈ L → PySem.W.nsIn K d k = some (some (.ref f))) : KdF K w d L := ⟨⟨es, n, h, hk, lo⟩, all⟩
theorem kdf_nil {K : PySem.W.Frag} {d : Addr} : ∀ k f, (k, f) ∈ ([] : List (Str × Addr)) → PySem.W.nsIn K d k = some (some (.ref f)) := fun _ _ h => nomatch h
theorem kdf_cons {K : PySem.W.Frag} {d : Addr} {L : List (Str × Addr)} {k : Str} {f : Addr} (h : PySem.W.nsIn K d k = some (some (.ref f))) (t : ∀ k f, (k, f) ∈ L → PySem.W.nsIn K d k = some (some (.ref f))) : ∀ k' f', (k', f') ∈ (k, f) :: L → PySem.W.nsIn K d k' = some (some (.ref f')) := fun k' f' h' => by
  rcases List.mem_cons.mp h' with e | e
  · cases e; exact h
  · exact t k' f' e
theorem KdF.kdct {K : PySem.W.Frag} {w : World} {d : Addr} {L : List (Str × Addr)} (D : KdF K w d L) {k : Str} {f : Addr} (h : (k, f) ∈ L) : KDct K w d k (.ref f) := by
  obtain ⟨es, n, D1⟩ := D.ex
  exact ⟨es, n, _, D1.at_, D1.lit, D.all k f h, rfl⟩
/-- key not in the dict, for a key that it has -/
def rNotF (d : Addr) (L : List (Str × Addr)) : R2 := fun x y H Q => ∃ (z : Str) (f : Addr), x = .str z ∧ y = .ref d ∧ (z, f) ∈ L ∧ Q (.bl false) H
theorem kx_notF {X : Cx} {K : PySem.W.Frag} {w : World} {d : Addr} {L : List (Str × Addr)} (h : X.K = K) (h2 : X.w = w) (D : KdF K w d L) : OpR X (compareOp .NotIn) (rNotF d L) := by
  subst h h2
  obtain ⟨es, n, D1⟩ := D.ex
  intro pins s σ H x y v u Q I rx ry ⟨z, f, e1, e2, m, q⟩
  exact (op_notIn_kd D1) pins s σ H x y v u Q I rx ry ⟨z, _, e1, e2, D.all z f m, q⟩
section
variable {C : Ctx} {ta tb : TE} {da db d1 d2 : DE} {f1 f2 f : Bool} {tas : TA} {dqs : DR}
@[simp] def dNotF (L : List (Str × Addr)) (da : DE) : DE := fun δ Φ => da δ fun x => ∃ (z : Str) (f : Addr), x = .str z ∧ (z, f) ∈ L ∧ Φ (.bool false)
theorem sm_notF {d : Addr} {L : List (Str × Addr)} {v : V} (hv : v = .ref d) (ha : Sm C f1 ta da) : Sm C f (tOp (rNotF d L) ta (tC v)) (dNotF L da) := fun σ δ H0 H Φ Q s w q =>
  ha σ δ H0 H _ _ s w fun H01 H1 u y g1 r1 ⟨z, fa, e, m, p⟩ => by
    subst e hv
    cases r1
    exact ⟨z, fa, rfl, rfl, m, q _ _ _ _ g1 (.bl false) p⟩
/-- a slot gets a def -/
theorem St.set_raw {H0 H : Hp} {σ : L2.St} {δ : Dl} (s : St C H0 H σ δ) (i : Nat) (v : V) : St C H0 H (σ.set i (some v)) (δ.set i (some (.raw v))) where
  toWf := s.toWf
  len := by rw [List.length_set, List.length_set, s.len]
  sl := fun j r e => by
    by_cases q : i = j
    · subst q
      rw [List.getElem?_set_self'] at e
      cases hd : δ[i]? with
      | none => rw [hd] at e; simp at e
      | some z =>
        rw [hd] at e
        simp at e
        subst e
        have : i < σ.length := by rw [s.len]; exact (List.getElem?_eq_some_iff.mp hd).1
        exact ⟨v, by rw [List.getElem?_set_self this], rfl⟩
    · rw [List.getElem?_set_ne q] at e
      obtain ⟨u, e1, h1⟩ := s.sl j r e
      exact ⟨u, by rw [List.getElem?_set_ne q]; exact e1, h1⟩
  sep := fun j k a b p q n e1 e2 a1 a2 => by
    rcases set_at e1 with ⟨_, rfl⟩ | ⟨_, e1⟩
    · cases a1
    rcases set_at e2 with ⟨_, rfl⟩ | ⟨_, e2⟩
    · cases a2
    exact s.sep j k a b p q n e1 e2 a1 a2
/-- slot = dict[key] -/
@[simp] def dRowF (i : Nat) (L : List (Str × Addr)) (db : DE) : DS := fun E δ => db δ fun y => ∃ (z : Str) (f : Addr), y = .str z ∧ (z, f) ∈ L ∧ E.nx (δ.set i (some (.raw (.ref f))))
theorem sms_rowF {w : World} {d : Addr} {L : List (Str × Addr)} {v : V} (i : Nat) (hv : v = .ref d) (D : KdF C.K w d L) (hb : Sm C f1 tb db) : SmS C (tAsg (tOp (rIxD C.K w) (tC v) tb) (gName i)) (dRowF i L db) := fun σ δ H0 H E X s w' e =>
  hb σ δ H0 H _ _ s w' fun H01 H1 u y g1 r1 ⟨z, fa, e1, m, p⟩ => by
    subst e1 hv
    cases r1
    exact ⟨d, z, _, rfl, rfl, D.kdct m, e.nx H01 H1 _ _ g1.fz ((s.go g1).set_raw i _) p⟩
/-- one of two ways to say an expression -/
def tAlt (t1 t2 : TE) : TE := fun σ H Q => t1 σ H Q ∨ t2 σ H Q
theorem pe_alt {X : Cx} {e : Expr} {t1 t2 : TE} (h1 : PE X e t1) (h2 : PE X e t2) : PE X e (tAlt t1 t2) := ⟨fun pins s σ H Q I h => h.elim (h1.run pins s σ H Q I) (h2.run pins s σ H Q I)⟩
@[simp] def dAlt (d1 d2 : DE) : DE := fun δ Φ => d1 δ Φ ∨ d2 δ Φ
theorem sm_alt {t1 t2 : TE} (h1 : Sm C f t1 d1) (h2 : Sm C f t2 d2) : Sm C f (tAlt t1 t2) (dAlt d1 d2) := fun σ δ H0 H Φ Q s w q => w.elim (fun w => .inl (h1 σ δ H0 H Φ Q s w q)) (fun w => .inr (h2 σ δ H0 H Φ Q s w q))
end
section
variable {C : Ctx} {gs : TGs} {dgs : DGs}
/-- a, b = a list -/
@[simp] def dgUnl (n : Nat) (dgs : DGs) : DG := fun x δ Ψ => ∃ xs, x = .list xs ∧ xs.length = n ∧ dgs xs δ Ψ
theorem smg_unl {n : Nat} (h : SmGs C gs dgs) : SmG C (gUnl C.K n gs) (dgUnl n dgs) := fun v x σ δ H0 H Ψ Q s r ⟨xs, e, hn, w⟩ q => by
  subst e
  cases r with
  | @lst a us _ hs r => exact ⟨a, us, rfl, SqL.of (s.toWf.sub _ _ hs), by rw [r.length]; exact hn, h _ _ σ δ H0 H _ _ s r w q⟩
end
end VL

/-! a, b, c = three values. -/
namespace VL
open PySem L2
section
variable {C : Ctx} {f f1 f2 f3 : Bool} {ta tb tc td : TE} {da db dc dd : DE}
@[simp] def dPar3 (i j l : Nat) (da db dc : DE) : DS := fun E δ => da δ fun x => db δ fun y => dc δ fun z => E.nx (((δ.set i (some (.d x))).set j (some (.d y))).set l (some (.d z)))
theorem sms_par3 (i j l : Nat) (ha : Sm C true ta da) (hb : Sm C true tb db) (hc : Sm C true tc dc) : SmS C (tPar3 i j l (tCons ta (tCons tb (tCons tc tNil)))) (dPar3 i j l da db dc) := fun σ δ H0 H E D s w e =>
  ha σ δ H0 H _ _ s w fun H01 H1 v x g1 r1 w1 => hb σ δ H01 H1 _ _ (s.go g1) w1 fun H02 H2 u y g2 r2 w2 => hc σ δ H02 H2 _ _ ((s.go g1).go g2) w2 fun H03 H3 t z g3 r3 w3 =>
    ⟨v, u, t, rfl, e.nx _ _ _ _ ((g1.fz.trans g2.fz).trans g3.fz) ((((((s.go g1).go g2).go g3).set_d i (Rp.mono (g2.fz.trans g3.fz) r1)).set_d j (Rp.mono g3.fz r2)).set_d l r3) w3⟩
end
end VL

/-! dicts: owned by a slot while they grow; frozen as data. -/
namespace VL
open PySem L2
/-! ### entries -/
def getE (es : List (Key × PyData)) (k : Key) : Option PyData := (es.find? fun e => decide (e.1 = k)).map (·.2)
def putE (es : List (Key × PyData)) (k : Key) (x : PyData) : List (Key × PyData) := if (es.any fun e => decide (e.1 = k)) = true then es.map (fun e => if e.1 = k then (e.1, x) else e) else es ++ [(k, x)]
theorem getE_nil (k : Key) : getE [] k = none := rfl
theorem getE_cons (p : Key × PyData) (r : List (Key × PyData)) (k : Key) : getE (p :: r) k = if p.1 = k then some p.2 else getE r k := by
  unfold getE
  rw [List.find?_cons]
  by_cases e : p.1 = k
  · simp [e]
  · simp [e]
theorem getE_any (k : Key) : ∀ es : List (Key × PyData), (es.any fun e => decide (e.1 = k)) = (getE es k).isSome
  | [] => rfl
  | p :: r => by
    rw [List.any_cons, getE_cons]
    by_cases e : p.1 = k
    · simp [e]
    · simp [e, getE_any k r]
theorem getE_append (k : Key) : ∀ es fs : List (Key × PyData), getE (es ++ fs) k = (getE es k).or (getE fs k)
  | [], fs => by rw [List.nil_append, getE_nil]; rfl
  | p :: r, fs => by
    rw [List.cons_append, getE_cons, getE_cons, getE_append k r fs]
    by_cases e : p.1 = k
    · simp [e]
    · simp [e]
theorem putE_new {es : List (Key × PyData)} {k : Key} (x : PyData) (h : getE es k = none) : putE es k x = es ++ [(k, x)] := by
  unfold putE
  rw [getE_any, h]
  rfl
theorem putE_len (es : List (Key × PyData)) (k : Key) (x : PyData) : (putE es k x).length ≤ es.length + 1 := by
  unfold putE
  split
  · rw [List.length_map]; omega
  · rw [List.length_append]; exact Nat.le_refl _
theorem keyD_inj : ∀ {k l : Key}, keyD k = keyD l → k = l
  | .inl i, .inl j, h => by cases h; rfl
  | .inr i, .inr j, h => by cases h; rfl
  | .inl i, .inr j, h => by cases h
  | .inr i, .inl j, h => by cases h
theorem RpK.get {K : PySem.W.Frag} {H : Hp} {k : Key} : ∀ {vs : List (Key × V)} {es : List (Key × PyData)}, RpK K H vs es → (valV vs k = none ∧ getE es k = none) ∨ ∃ v d, valV vs k = some v ∧ getE es k = some d ∧ Rp K H v d
  | _, _, .nil => .inl ⟨rfl, rfl⟩
  | _, _, .cons (k := k') h r => by
    rw [getE_cons]
    by_cases e : k' = k
    · exact .inr ⟨_, _, valV_pos (p := (k', _)) e, if_pos e, h⟩
    · rw [if_neg e, valV_neg (p := (k', _)) e]
      exact RpK.get r
theorem RpK.snoc {K : PySem.W.Frag} {H : Hp} {k : Key} {v : V} {d : PyData} (h : Rp K H v d) : ∀ {vs : List (Key × V)} {es : List (Key × PyData)}, RpK K H vs es → RpK K H (vs ++ [(k, v)]) (es ++ [(k, d)])
  | _, _, .nil => .cons h .nil
  | _, _, .cons g r => .cons g (RpK.snoc h r)
theorem RpK.over {K : PySem.W.Frag} {H : Hp} {k : Key} {v : V} {d : PyData} (h : Rp K H v d) : ∀ {vs : List (Key × V)} {es : List (Key × PyData)}, RpK K H vs es → RpK K H (vs.map fun kv => if kv.1 = k then (kv.1, v) else kv) (es.map fun e => if e.1 = k then (e.1, d) else e)
  | _, _, .nil => .nil
  | _, _, .cons (k := k') g r => by
    rw [List.map_cons, List.map_cons]
    by_cases e : k' = k
    · simp only [if_pos e]
      exact .cons h (RpK.over h r)
    · simp only [if_neg e]
      exact .cons g (RpK.over h r)
theorem RpK.put {K : PySem.W.Frag} {H : Hp} {k : Key} {v : V} {d : PyData} {vs : List (Key × V)} {es : List (Key × PyData)} (r : RpK K H vs es) (h : Rp K H v d) : RpK K H (putK vs k v) (putE es k d) := by
  unfold putK putE
  rw [valV_any, getE_any]
  rcases r.get (k := k) with ⟨e1, e2⟩ | ⟨v', d', e1, e2, _⟩
  · rw [e1, e2]
    exact r.snoc h
  · rw [e1, e2]
    exact r.over h
theorem RpD.rpk {K : PySem.W.Frag} {H : Hp} : ∀ {vs : List (Key × V)} {es : List (Key × PyData)}, RpD K H vs (entD es) → RpK K H vs es
  | [], [], _ => .nil
  | (k, v) :: vs, (l, d) :: es, h => by
    generalize hq : entD ((l, d) :: es) = q at h
    cases h with
    | cons g r =>
      have hq : (keyD l, d) :: entD es = _ := hq
      injection hq with h1 h2
      injection h1 with h3 h4
      subst h4
      obtain rfl := keyD_inj h3
      subst h2
      exact .cons g (RpD.rpk r)
  | (k, v) :: vs, [], h => by cases h
  | [], (l, d) :: es, h => by cases h
theorem rp_key {K : PySem.W.Frag} {H : Hp} {v : V} {k : Key} (h : Rp K H v (keyD k)) : v = kV k := by
  cases k with
  | inl i => cases h; rfl
  | inr s => cases h; rfl
/-! ### hand layer: a thing locked for good -/
def tFrz (t : TS) : TS := fun D σ H => ∃ d u, H d = some u ∧ Mut (some u) ∧ ∀ od, t D σ (upd H d (.frz od u))
theorem ps_frz {X : Cx} {st : Stmt} {t : TS} (h : PS X st t) : PS X st (tFrz t) := by
  refine ⟨fun pins s σ H D I hw => ?_⟩
  obtain ⟨d, u, hd, mu, hw⟩ := hw
  obtain ⟨od, I1⟩ := I.lock hd mu
  exact h.run pins s σ _ _ I1 (hw od)
/-- len of anything, a dict that stands too -/
theorem call_lenDR {X : Cx} : CallR X (.builtin "len") (fun xs H Q => ∃ a kvs, xs = [V.ref a] ∧ Rd H a (.dK kvs) ∧ Q (.int kvs.length) H) := by
  intro pins s σ H xs us Q I r h
  obtain ⟨a, kvs, rfl, ha, q⟩ := h
  obtain ⟨u, rfl, ru⟩ := vals1 r
  cases ru
  exact d_len I ha fun t s' I' => ⟨.int kvs.length, H, I', ⟨t, rfl⟩, q⟩
section
variable {C : Ctx} {H0 H H0' H' : Hp} {σ : L2.St} {δ : Dl} {v : V} {x : PyData} {f f1 f2 f3 : Bool} {te ta tb td : TE} {de da db dd dx : DE} {ts tv : TS} {ds dv : DS}
/-- slot = {} -/
@[simp] def dSetD (i : Nat) : DS := fun E δ => ∀ a, E.nx (δ.set i (some (.dct a [])))
theorem sms_setD (i : Nat) : SmS C (tAsg tDNewK (gName i)) (dSetD i) := fun σ δ H0 H E D s w e => fun p hp => by
  have g := Go.free (o := .dK []) s.toWf hp
  refine e.nx H0 _ _ _ (Same.refl _) ((s.go g).set_adr (r := .dct p []) i rfl (fun j q b hj hb z => ?_) ⟨rfl, s.toWf.none hp, (Go.he s.toWf hp).1, (Go.he s.toWf hp).2, [], upd_same, .nil⟩) (w p)
  subst z
  obtain ⟨v, _, hv⟩ := s.sl j _ hj
  obtain ⟨o, k⟩ := hv.live hb
  rw [hp] at k; cases k
/-- slot[key] = value -/
@[simp] def dPutD (i : Nat) (de dk : DE) : DS := fun E δ => ∃ a es, δ[i]? = some (some (.dct a es)) ∧ de δ fun x => dk δ fun y => ∃ k, y = keyD k ∧ es.length < sizeLine ∧ E.nx (δ.set i (some (.dct a (putE es k x))))
theorem sms_putD (i : Nat) (h : Sm C true te de) (hk : Sm C f2 tb db) : SmS C (sDPut (tVar i) tb te) (dPutD i de db) := fun σ δ H0 H E D s ⟨a, es, e0, w⟩ e =>
  h σ δ H0 H _ _ s w fun H01 H1 v x g1 r1 w1 => by
    obtain ⟨u, e1, _⟩ := s.sl i _ e0
    refine ⟨u, e1, hk σ δ H01 H1 _ _ (s.go g1) w1 fun H02 H2 y0 y g2 r2 ⟨k, ey, hl, p⟩ => ?_⟩
    subst ey
    obtain rfl := rp_key r2
    have s2 := (s.go g1).go g2
    obtain ⟨u', e2, rfl, h1, h2, h3, kvs, h4, h5⟩ := s2.sl i _ e0
    rw [e1] at e2
    cases e2
    refine ⟨a, _, rfl, DPut.k h4 (by rw [h5.length]; exact hl), e.nx H02 _ σ _ (g1.fz.trans g2.fz) ?_ p⟩
    exact s2.put i e0 rfl rfl fun H' hH k1 k2 k3 => ⟨rfl, k1, k2, k3, _, hH, h5.put (r1.mono g2.fz)⟩
/-- key in slot -/
@[simp] def dInD (neg : Bool) (i : Nat) (dk : DE) : DE := fun δ Φ => ∃ a es, δ[i]? = some (some (.dct a es)) ∧ dk δ fun y => ∃ k, y = keyD k ∧ Φ (.bool (if neg then !(getE es k).isSome else (getE es k).isSome))
theorem in_go {a : Addr} {es : List (Key × PyData)} {i : Nat} (s : St C H0 H σ δ) (e0 : δ[i]? = some (some (.dct a es))) (k : Key) : ∃ o, σ[i]? = some (some (.ref a)) ∧ DGet H a (kV k) o ∧ ((o = Option.none ∧ getE es k = Option.none) ∨ ∃ v d, o = some v ∧ getE es k = some d ∧ Rp C.K H0 v d) := by
  obtain ⟨u', e2, rfl, h1, h2, h3, kvs, h4, h5⟩ := s.sl i _ e0
  exact ⟨_, e2, DGet.k h4, h5.get⟩
theorem sm_inD (i : Nat) (hk : Sm C f2 tb db) : Sm C f (tDIn tb (tVar i)) (dInD false i db) := fun σ δ H0 H Φ Q s ⟨a, es, e0, w⟩ q =>
  hk σ δ H0 H _ _ s w fun H01 H1 y0 y g1 r1 ⟨k, ey, p⟩ => by
    subst ey
    obtain rfl := rp_key r1
    obtain ⟨o, h1, h2, h3⟩ := in_go (s.go g1) e0 k
    refine ⟨_, h1, a, o, rfl, h2, q _ _ _ _ g1 (.bl _) ?_⟩
    rcases h3 with ⟨rfl, e⟩ | ⟨v, d, rfl, e, _⟩ <;> rw [e] at p <;> exact p
theorem sm_ninD (i : Nat) (hk : Sm C f2 tb db) : Sm C f (tDNotIn tb (tVar i)) (dInD true i db) := fun σ δ H0 H Φ Q s ⟨a, es, e0, w⟩ q =>
  hk σ δ H0 H _ _ s w fun H01 H1 y0 y g1 r1 ⟨k, ey, p⟩ => by
    subst ey
    obtain rfl := rp_key r1
    obtain ⟨o, h1, h2, h3⟩ := in_go (s.go g1) e0 k
    refine ⟨_, h1, a, o, rfl, h2, q _ _ _ _ g1 (.bl _) ?_⟩
    rcases h3 with ⟨rfl, e⟩ | ⟨v, d, rfl, e, _⟩ <;> rw [e] at p <;> exact p
/-- slot[key] -/
@[simp] def dGetD (i : Nat) (dk : DE) : DE := fun δ Φ => ∃ a es, δ[i]? = some (some (.dct a es)) ∧ dk δ fun y => ∃ k x, y = keyD k ∧ getE es k = some x ∧ Φ x
theorem sm_getD (i : Nat) (hk : Sm C f2 tb db) : Sm C f (tDGet (tVar i) tb) (dGetD i db) := fun σ δ H0 H Φ Q s ⟨a, es, e0, w⟩ q => by
  obtain ⟨u, e1, hu⟩ := s.sl i _ e0
  refine ⟨u, e1, hk σ δ H0 H _ _ s w fun H01 H1 y0 y g1 r1 ⟨k, x, ey, ex, p⟩ => ?_⟩
  subst ey
  obtain rfl := rp_key r1
  obtain ⟨o, h1, h2, h3⟩ := in_go (s.go g1) e0 k
  rw [e1] at h1
  cases h1
  rcases h3 with ⟨_, e⟩ | ⟨v, d, rfl, e, r⟩
  · rw [e] at ex; cases ex
  · rw [e] at ex; cases ex
    exact ⟨a, v, rfl, h2, q _ _ _ _ g1 (r.mono g1.wf.to) p⟩
/-! ### dicts that stand -/
theorem dic_rd {es : List (Key × PyData)} (h : Rp C.K H v (.dict (entD es))) : ∃ a kvs, v = .ref a ∧ Rd H a (.dK kvs) ∧ RpK C.K H kvs es := by
  generalize hx : PyData.dict (entD es) = x at h
  cases h with
  | dic h r =>
    cases hx
    exact ⟨_, _, rfl, .inr ⟨_, h⟩, r.rpk⟩
  | _ => cases hx
theorem rd_same {a : Addr} {kvs : List (Key × V)} (e : Same H H') (h : Rd H a (.dK kvs)) : Rd H' a (.dK kvs) := by
  rcases h with h | ⟨o, h⟩
  · exact .inl (e _ _ h)
  · exact .inr ⟨o, e _ _ h⟩
@[simp] def dInF (neg : Bool) (dk dd : DE) : DE := fun δ Φ => dk δ fun y => dd δ fun x => ∃ es k, x = .dict (entD es) ∧ y = keyD k ∧ Φ (.bool (if neg then !(getE es k).isSome else (getE es k).isSome))
theorem sm_inF (hk : Sm C f1 tb db) (hd : Sm C f2 td dd) : Sm C f (tDIn tb td) (dInF false db dd) := fun σ δ H0 H Φ Q s w q =>
  hk σ δ H0 H _ _ s w fun H01 H1 y0 y g1 r1 w1 => hd σ δ H01 H1 _ _ (s.go g1) w1 fun H02 H2 x0 x g2 r2 ⟨es, k, ex, ey, p⟩ => by
    subst ex ey
    obtain rfl := rp_key r1
    obtain ⟨a, kvs, rfl, h1, h2⟩ := dic_rd r2
    refine ⟨a, _, rfl, .inl ⟨kvs, k, rd_same g2.wf.loc h1, rfl, rfl⟩, q _ _ _ _ (g1.trans g2) (.bl _) ?_⟩
    rcases h2.get (k := k) with ⟨e1, e⟩ | ⟨v, d, e1, e, _⟩ <;> rw [e] at p <;> rw [e1] <;> exact p
theorem sm_ninF (hk : Sm C f1 tb db) (hd : Sm C f2 td dd) : Sm C f (tDNotIn tb td) (dInF true db dd) := fun σ δ H0 H Φ Q s w q =>
  hk σ δ H0 H _ _ s w fun H01 H1 y0 y g1 r1 w1 => hd σ δ H01 H1 _ _ (s.go g1) w1 fun H02 H2 x0 x g2 r2 ⟨es, k, ex, ey, p⟩ => by
    subst ex ey
    obtain rfl := rp_key r1
    obtain ⟨a, kvs, rfl, h1, h2⟩ := dic_rd r2
    refine ⟨a, _, rfl, .inl ⟨kvs, k, rd_same g2.wf.loc h1, rfl, rfl⟩, q _ _ _ _ (g1.trans g2) (.bl _) ?_⟩
    rcases h2.get (k := k) with ⟨e1, e⟩ | ⟨v, d, e1, e, _⟩ <;> rw [e] at p <;> rw [e1] <;> exact p
@[simp] def dGetF (dd dk : DE) : DE := fun δ Φ => dd δ fun x => dk δ fun y => ∃ es k z, x = .dict (entD es) ∧ y = keyD k ∧ getE es k = some z ∧ Φ z
theorem sm_getF (hd : Sm C f td dd) (hk : Sm C f2 tb db) : Sm C f (tDGet td tb) (dGetF dd db) := fun σ δ H0 H Φ Q s w q =>
  hd σ δ H0 H _ _ s w fun H01 H1 x0 x g1 r1 w1 => hk σ δ H01 H1 _ _ (s.go g1) w1 fun H02 H2 y0 y g2 r2 ⟨es, k, z, ex, ey, ez, p⟩ => by
    subst ex ey
    obtain rfl := rp_key r2
    obtain ⟨a, kvs, rfl, h1, h2⟩ := dic_rd (r1.mono g2.loc)
    rcases h2.get (k := k) with ⟨e1, e⟩ | ⟨v, d, e1, e, r⟩
    · rw [e] at ez; cases ez
    · rw [e] at ez; cases ez
      exact ⟨a, v, rfl, .inl ⟨kvs, k, rd_same g2.wf.loc h1, rfl, e1.symm⟩, q _ _ _ _ (g1.trans g2) r p⟩
@[simp] def dGet1F (dd dk : DE) : DE := fun δ Φ => dd δ fun x => ∃ es, x = .dict (entD es) ∧ dk δ fun y => ∃ k, y = keyD k ∧ Φ ((getE es k).getD .none)
theorem sm_get1F (hd : Sm C f td dd) (hk : Sm C f2 tb db) : Sm C f (tDGet1 td tb) (dGet1F dd db) := fun σ δ H0 H Φ Q s w q =>
  hd σ δ H0 H _ _ s w fun H01 H1 x0 x g1 r1 ⟨es, ex, w1⟩ => by
    subst ex
    obtain ⟨a, kvs, rfl, h1, h2⟩ := dic_rd r1
    refine ⟨a, rfl, .inl ⟨kvs, rd_same g1.wf.loc h1⟩, hk σ δ H01 H1 _ _ (s.go g1) w1 fun H02 H2 y0 y g2 r2 ⟨k, ey, p⟩ => ?_⟩
    subst ey
    obtain rfl := rp_key r2
    refine ⟨_, .inl ⟨kvs, k, rd_same g2.wf.loc (rd_same g2.loc h1), rfl, rfl⟩, ?_⟩
    rcases h2.get (k := k) with ⟨e1, e⟩ | ⟨v, d, e1, e, r⟩
    · rw [e] at p; rw [e1]; exact q _ _ _ _ (g1.trans g2) .non p
    · rw [e] at p; rw [e1]; exact q _ _ _ _ (g1.trans g2) (r.mono g2.loc) p
@[simp] def dGet2F (dd dk dx : DE) : DE := fun δ Φ => dd δ fun x => ∃ es, x = .dict (entD es) ∧ dk δ fun y => dx δ fun z => ∃ k, y = keyD k ∧ Φ ((getE es k).getD z)
theorem sm_get2F (hd : Sm C f td dd) (hk : Sm C f2 tb db) (hx : Sm C f ta dx) : Sm C f (tDGet2 td tb ta) (dGet2F dd db dx) := fun σ δ H0 H Φ Q s w q =>
  hd σ δ H0 H _ _ s w fun H01 H1 x0 x g1 r1 ⟨es, ex, w1⟩ => by
    subst ex
    obtain ⟨a, kvs, rfl, h1, h2⟩ := dic_rd r1
    refine ⟨a, rfl, .inl ⟨kvs, rd_same g1.wf.loc h1⟩, hk σ δ H01 H1 _ _ (s.go g1) w1 fun H02 H2 y0 y g2 r2 w2 => hx σ δ H02 H2 _ _ ((s.go g1).go g2) w2 fun H03 H3 z0 z g3 r3 ⟨k, ey, p⟩ => ?_⟩
    subst ey
    obtain rfl := rp_key r2
    refine ⟨_, .inl ⟨kvs, k, rd_same g3.wf.loc (rd_same g3.loc (rd_same g2.loc h1)), rfl, rfl⟩, ?_⟩
    rcases h2.get (k := k) with ⟨e1, e⟩ | ⟨v, d, e1, e, r⟩
    · rw [e] at p; rw [e1]; exact q _ _ _ _ ((g1.trans g2).trans g3) r3 p
    · rw [e] at p; rw [e1]; exact q _ _ _ _ ((g1.trans g2).trans g3) ((r.mono g2.loc).mono g3.loc) p
/-- len of a dict that stands -/
@[simp] def gLenF : List PyData → (PyData → Prop) → Prop := fun xs Φ => ∃ es, xs = [.dict (entD es)] ∧ Φ (.int es.length)
theorem cbd_lenF : CbD C (fun xs H Q => ∃ a kvs, xs = [V.ref a] ∧ Rd H a (.dK kvs) ∧ Q (.int kvs.length) H) gLenF := fun H vs xs Φ Q r ⟨es, e, p⟩ q => by
  subst e
  cases r with
  | cons h n =>
    cases n
    obtain ⟨a, kvs, rfl, h1, h2⟩ := dic_rd h
    exact ⟨a, kvs, rfl, h1, by rw [h2.length]; exact q _ _ (fun _ => .int _) p⟩
/-- a dict that stands is walked: its keys in order -/
@[simp] def iKF (dd : DE) : DI := fun δ Φ => dd δ fun x => ∃ es, x = .dict (entD es) ∧ Φ (es.map fun e => keyD e.1)
theorem rp_kV {K : PySem.W.Frag} (k : Key) : Rp K H (kV k) (keyD k) := by
  cases k with
  | inl i => exact .int i
  | inr s => exact .str s
theorem RpK.key {K : PySem.W.Frag} {H : Hp} : ∀ {vs : List (Key × V)} {es : List (Key × PyData)} {i : Nat} {k : Key} {v : V}, RpK K H vs es → vs[i]? = some (k, v) → (es.map fun e => keyD e.1)[i]? = some (keyD k)
  | _, _, _, _, _, .nil, e => by simp at e
  | _, _, 0, _, _, .cons _ _, e => by simp at e; obtain ⟨rfl, rfl⟩ := e; rfl
  | _, _, i + 1, _, _, .cons _ r, e => by
    rw [List.map_cons, List.getElem?_cons_succ]
    exact RpK.key r (by simpa using e)
theorem smi_keys (hd : Sm C true td dd) : SmI C (iKeys td) (iKF dd) := fun σ δ H0 H Φ R s w q =>
  hd σ δ H0 H _ _ s w fun H01 H1 x0 x g1 r1 ⟨es, ex, p⟩ => by
    subst ex
    have h2 : ∃ a o kvs, x0 = .ref a ∧ H01 a = some (.frz o (.dK kvs)) ∧ RpK C.K H01 kvs es := by
      generalize hx : PyData.dict (entD es) = x at r1
      cases r1 with
      | dic h r => cases hx; exact ⟨_, _, _, rfl, h, r.rpk⟩
      | _ => cases hx
    obtain ⟨a, o, kvs, rfl, h1, h2⟩ := h2
    refine ⟨a, o, rfl, .inl ⟨kvs, g1.wf.sub _ _ h1, q _ _ _ _ g1 ⟨fun H0' H' i e w hi => ?_, fun H0' H' i e w hi => ?_, fun H0' H' i v H'' e w hi y => ?_⟩ p⟩⟩
    · rw [List.length_map] at hi
      exact ⟨w.sub _ _ (e _ _ h1), by rw [h2.length]; omega⟩
    · rw [List.length_map] at hi
      exact ⟨w.sub _ _ (e _ _ h1), by rw [h2.length]; exact hi⟩
    · obtain ⟨rfl, k, u, hk, rfl⟩ := y
      exact ⟨H0', keyD k, .refl w, h2.key hk, rp_kV k⟩
/-- from here on the dict in the slot stands -/
@[simp] def dFrzD (i : Nat) (d : DS) : DS := fun E δ => ∃ a es, δ[i]? = some (some (.dct a es)) ∧ d E (δ.set i (some (.d (.dict (entD es)))))
theorem sms_frzD (i : Nat) (h : SmS C ts ds) : SmS C (tFrz ts) (dFrzD i ds) := fun σ δ H0 H E D s ⟨a, es, e0, w⟩ e => by
  obtain ⟨u', e2, rfl, h1, h2, h3, kvs, h4, h5⟩ := s.sl i _ e0
  refine ⟨a, .dK kvs, h4, trivial, fun od => ?_⟩
  obtain ⟨g, s'⟩ := s.frzU (o := .frz od (.dK kvs)) (x := .dict (entD es)) i e0 rfl fun gr => .dic upd_same (h5.mono gr).rpd
  exact h σ _ _ _ E D s' w (e.mono g)
end
end VL

/-! a written dict of the program's top whose values are written tuples: asked by get. -/
namespace VL
open PySem L2
/-- the items of a written tuple -/
inductive PaiC (K : PySem.W.Frag) : List Value → List V → List PyData → Prop
  | nil : PaiC K [] [] []
  | cons {u : Value} {v : V} {x : PyData} {us : List Value} {vs : List V} {xs : List PyData} (h : RelV v u) (h2 : ∀ H, Rp K H v x) (r : PaiC K us vs xs) : PaiC K (u :: us) (v :: vs) (x :: xs)
theorem PaiC.vals {K : PySem.W.Frag} : ∀ {us : List Value} {vs : List V} {xs : List PyData}, PaiC K us vs xs → Vals vs us ∧ ∀ H, RpA K H vs xs
  | _, _, _, .nil => ⟨.nil, fun _ => .nil⟩
  | _, _, _, .cons h h2 r => ⟨.cons h r.vals.1, fun H => .cons (h2 H) (r.vals.2 H)⟩
theorem PaiC.n {K : PySem.W.Frag} {us : List Value} {vs : List V} {xs : List PyData} (r : PaiC K us vs xs) : PaiC K (.none :: us) (.non :: vs) (.none :: xs) := .cons rfl (fun _ => .non) r
theorem PaiC.i {K : PySem.W.Frag} {k : Int} {t : Tok} {us : List Value} {vs : List V} {xs : List PyData} (r : PaiC K us vs xs) : PaiC K (.int k t :: us) (.int k :: vs) (.int k :: xs) := .cons ⟨t, rfl⟩ (fun _ => .int k) r
theorem PaiC.s {K : PySem.W.Frag} {k : Str} {t : Tok} {us : List Value} {vs : List V} {xs : List PyData} (r : PaiC K us vs xs) : PaiC K (.str k t :: us) (.str k :: vs) (.str k :: xs) := .cons ⟨t, rfl⟩ (fun _ => .str k) r
theorem PaiC.t {K : PySem.W.Frag} {a : Addr} {x : PyData} {us : List Value} {vs : List V} {xs : List PyData} (h : ∀ H, Rp K H (.ref a) x) (r : PaiC K us vs xs) : PaiC K (.ref a :: us) (.ref a :: vs) (x :: xs) := .cons rfl h r
theorem KC.mk {K : PySem.W.Frag} {a : Addr} {xs : List PyData} {o : Obj} {its : Array Value} {n : Nat} {us : List Value} {vs : List V} (h : K.lookup a = some o) (hc : o.cls = .type "tuple") (hd : o.data = .seq its n) (hi : its.toList = us) (hl : us.length ≤ 100) (p : PaiC K us vs xs) : ∀ H, Rp K H (.ref a) (.tuple xs) := by
  intro H
  refine .tup (.inr ⟨o, its, n, h, hc, hd, ?_, by rw [hi]; exact p.vals.1⟩) (p.vals.2 H)
  rw [← Array.length_toList, hi]
  exact Nat.le_trans hl (by decide)
/-- entries L, and the keys M that it lacks -/
structure KdT (K : PySem.W.Frag) (w : World) (d : Addr) (L : List (Str × PyData)) (M : List Str) : Prop where
  ex : ∃ es n, L2.KDict K w d es n
  all : ∀ k x, (k, x) ∈ L → ∃ u v, PySem.W.nsIn K d k = some (some u) ∧ RelV v u ∧ ∀ H, Rp K H v x
  no : ∀ k, k ∈ M → PySem.W.nsIn K d k = some none
theorem KdT.mk' {K : PySem.W.Frag} {w : World} {d : Addr} {L : List (Str × PyData)} {M : List Str} {es : Array DictEntry} {n : Nat} (h : K.lookup d = some ⟨.type "dict", none, .dict es n, #[]⟩) (hk : PySem.W.KeysLit w.params es.toList) (lo : (d == sysModules) = false)
    (all : ∀ k x, (k, x) ∈ L → ∃ u v, PySem.W.nsIn K d k = some (some u) ∧ RelV v u ∧ ∀ H, Rp K H v x) (no : ∀ k, k ∈ M → PySem.W.nsIn K d k = some none) : KdT K w d L M := ⟨⟨es, n, h, hk, lo⟩, all, no⟩
theorem kdt_nil {K : PySem.W.Frag} {d : Addr} : ∀ k x, (k, x) ∈ ([] : List (Str × PyData)) → ∃ u v, PySem.W.nsIn K d k = some (some u) ∧ RelV v u ∧ ∀ H, Rp K H v x := fun _ _ h => nomatch h
theorem kdt_cons {K : PySem.W.Frag} {d : Addr} {L : List (Str × PyData)} {k : Str} {x : PyData} {a : Addr} (h : PySem.W.nsIn K d k = some (some (.ref a))) (hx : ∀ H, Rp K H (.ref a) x) (t : ∀ k x, (k, x) ∈ L → ∃ u v, PySem.W.nsIn K d k = some (some u) ∧ RelV v u ∧ ∀ H, Rp K H v x) :
    ∀ k' x', (k', x') ∈ (k, x) :: L → ∃ u v, PySem.W.nsIn K d k' = some (some u) ∧ RelV v u ∧ ∀ H, Rp K H v x' := fun k' x' h' => by
  rcases List.mem_cons.mp h' with e | e
  · cases e; exact ⟨_, .ref a, h, rfl, hx⟩
  · exact t k' x' e
theorem kdn_nil {K : PySem.W.Frag} {d : Addr} : ∀ k, k ∈ ([] : List Str) → PySem.W.nsIn K d k = some none := fun _ h => nomatch h
theorem kdn_cons {K : PySem.W.Frag} {d : Addr} {M : List Str} {k : Str} (h : PySem.W.nsIn K d k = some none) (t : ∀ k, k ∈ M → PySem.W.nsIn K d k = some none) : ∀ k', k' ∈ k :: M → PySem.W.nsIn K d k' = some none := fun k' h' => by
  rcases List.mem_cons.mp h' with e | e
  · cases e; exact h
  · exact t k' e
/-- d.get(key), d a written dict -/
def tKGet1 (K : PySem.W.Frag) (d : Addr) (ty : TE) : TE := fun σ H Q => ty σ H fun y H1 => ∃ (z : Str) (r : Option Value) (v : V), y = .str z ∧ PySem.W.nsIn K d z = some r ∧ RelV v (r.getD .none) ∧ Q v H1
theorem pe_kget1 {X : Cx} {K : PySem.W.Frag} {w : World} {d : Addr} {o e : Expr} {apos cpos : Pos} {v : V} {ty : TE} (h : X.K = K) (h2 : X.w = w) (hv : v = .ref d) (D : ∃ es n, L2.KDict K w d es n) (ho : PE X o (tC v)) (he : PE X e ty) (m : M1 X o "get" apos e cpos) : PE X (.Call (.Attribute o "get" apos) [e] [] cpos) (tKGet1 K d ty) := by
  subst h h2 hv
  obtain ⟨es, n, D⟩ := D
  refine ⟨fun pins s σ H Q I h => ?_⟩
  refine wpAny_Call_method m.base m.few m.line PySem.F.plainAttrs_dict PySem.F.slot_dict_get PySem.F.type_dict_get (thn (ho.run pins s σ H (fun x H1 => x = .ref d ∧ tKGet1 X.K d ty σ H1 Q) I ⟨rfl, h⟩) fun u s1 ⟨x, H1, I1, rx, ex, q1⟩ => ?_)
  subst ex
  obtain rfl : u = Value.ref d := rx
  have mo := PySem.W.mapOf_K (prog := X.prog) (w := X.w) I1.kIn D.at_ D.lit
  refine ⟨mo.typeIs, mo.noDict, ?_⟩
  rw [m.trees]
  refine Calls.callWith_builtin rfl (Calls.evalArgs_plain (Calls.spliced_cons (thn (he.run pins s1 σ H1 _ I1 q1) fun iv s2 ⟨y, H2, I2, ry, z, r, v, ey, hr, hv, q2⟩ => Calls.spliced_nil ?_)))
  subst ey
  obtain ⟨t, rfl⟩ := ry
  have mo := PySem.W.mapOf_K (prog := X.prog) (w := X.w) I2.kIn D.at_ D.lit
  refine call_meetsIn PySem.F.slot_dict_get mo.typeIs PySem.F.entry_dict_get (PySem.F.args_dict_get_2 _ _) (meets_dict_get (strKind X.prog X.w) d (PySem.strKind_is X.prog X.w z t) D.low) ⟨_, mo, v, H2, I2.tok _, ?_, q2⟩
  show RelV v ((findBy Value.isStrOf es z).getD .none)
  rw [PySem.W.find_K D.at_ hr]
  exact hv
section
variable {C : Ctx} {f f2 : Bool} {tb : TE} {db : DE}
@[simp] def dKGet (L : List (Str × PyData)) (M : List Str) (db : DE) : DE := fun δ Φ => db δ fun y => ∃ z, y = .str z ∧ ((∃ x, (z, x) ∈ L ∧ Φ x) ∨ (z ∈ M ∧ Φ .none))
theorem sm_kget {w : World} {d : Addr} {L : List (Str × PyData)} {M : List Str} (D : KdT C.K w d L M) (hb : Sm C f2 tb db) : Sm C f (tKGet1 C.K d tb) (dKGet L M db) := fun σ δ H0 H Φ Q s w' q =>
  hb σ δ H0 H _ _ s w' fun H01 H1 u y g1 r1 ⟨z, e, p⟩ => by
    subst e
    cases r1
    rcases p with ⟨x, hx, p⟩ | ⟨hz, p⟩
    · obtain ⟨u, v, h1, h2, h3⟩ := D.all z x hx
      exact ⟨z, _, v, rfl, h1, h2, q _ _ _ _ g1 (h3 _) p⟩
    · exact ⟨z, _, .non, rfl, D.no z hz, rfl, q _ _ _ _ g1 .non p⟩
end
end VL

/-! A lambda without captured names: made, handed to a def, called there. -/
namespace VL
open PySem PySem.Spec PyProof.Rows L2 LamX NdefX
theorem upd_comm {H : Hp} {a b : Addr} {o u : HO} (n : a ≠ b) : L2.upd (L2.upd H a o) b u = L2.upd (L2.upd H b u) a o := by
  funext d
  unfold L2.upd
  by_cases h1 : d = b
  · subst h1; rw [if_pos rfl, if_neg (fun z => n z.symm), if_pos rfl]
  · rw [if_neg h1]
    by_cases h2 : d = a
    · rw [if_pos h2, if_pos h2]
    · rw [if_neg h2, if_neg h2, if_neg h1]
section
variable {X : Cx} {pins : List (Addr × Obj)} {σ : L2.St} {H : Hp} {s : Shared}
theorem inv_lam {F : LF} {c : Addr} {o : Obj} {t' : Nat} {pm ctv : Value} (I : Inv X pins σ H s) (ho : o = PySem.W.kla_obj "<lambda>" F.qual F.params F.body F.scope [] pm c ctv) :
    Inv X pins σ (L2.upd H s.heap.objs.size (LamO s.heap.objs.size F c)) { s with heap := s.heap.push o, toks := t' } := by
  subst ho
  refine I.laid (a := s.heap.objs.size) (fun b u e => Heap.get?_push_of_some _ e) (Nat.le_refl _) ?_
  have e : (s.heap.push (PySem.W.kla_obj "<lambda>" F.qual F.params F.body F.scope [] pm c ctv)).get? s.heap.objs.size = some (PySem.W.kla_obj "<lambda>" F.qual F.params F.body F.scope [] pm c ctv) := Heap.get?_push_size _ rfl
  exact ⟨⟨pm, ctv, e⟩, ⟨_, e⟩, fun h1 h2 ⟨p, t, z⟩ st => ⟨p, t, st _ z⟩⟩
theorem lamO_at {P : Program} {w : World} {H : Hp} {h : Heap} {f c : Addr} {F : LF} (hok : HOk P w H h) (e : H f = some (LamO f F c)) : ∃ (pm ctv : Value), h.get? f = some (PySem.W.kla_obj "<lambda>" F.qual F.params F.body F.scope [] pm c ctv) := by
  obtain ⟨z, _, _⟩ := hok f _ e
  exact z
/-- the reading of a lambda's making: its code object is found in the table, or new -/
def tLam (P : Addr) (F : LF) : TE := fun σ H Q => ∃ ps : Array Value, H P = some (.tbl ps) ∧ TriplesOk ps.toList ∧ (∀ (pos : Pos) (cv : Value), codeAmong pos ps.toList = some cv → ∃ c, cv = .ref c ∧ H c = some (CodeO c F.qual)) ∧
  (∀ f c, H f = none → (∃ pos : Pos, codeAmong pos ps.toList = some (.ref c)) → Q (.ref f) (L2.upd H f (LamO f F c))) ∧
  (∀ f c (ps' : Array Value), H f = none → H c = none → f ≠ c → TriplesOk ps'.toList → (∀ (pos : Pos) (cv : Value), codeAmong pos ps'.toList = some cv → codeAmong pos ps.toList = some cv ∨ cv = .ref c) →
    Q (.ref f) (L2.upd (L2.upd (L2.upd H c (CodeO c F.qual)) P (.tbl ps')) f (LamO f F c)))
theorem pe_lam {c P : Addr} {params : Arguments} {body : Expr} {scope : Scope} {pos : Pos} (TB : TabB X.base X.mg c P) (hcode : X.env.code = .ref c) (hdef : defaultsOf params X.env = ([], [])) (hfree : ∀ y ∈ scope.names, y.2 ≠ .free) :
    PE X (.Lambda params body scope pos) (tLam P ⟨X.env.qual ++ "<lambda>", params, body, scope⟩) := by
  refine ⟨fun pins s σ H Q I h => ?_⟩
  obtain ⟨ps, hP, ht, ha, hHit, hNew⟩ := h
  refine PySem.W.kla_eval hdef ?_
  have bP : s.heap.BuiltinsAt X.mg P := TB.bm.keeps I.bk
  have hP' : s.heap.get? P = some { cls := .none, data := .fields ps } := I.hok P _ hP
  have hfr : ∀ y ∈ scope.names, y.2 = .free → ∃ c, X.env.cells.lookup y.1 = some c := fun y hy e => absurd e (hfree y hy)
  have hcl : cloFrom X.env.cells scope.names [] = [] := List.eq_nil_iff_forall_not_mem.mpr fun ⟨n, a⟩ hy => by
    rcases cloFrom_mem hy with z | ⟨z, _⟩
    · cases z
    · exact hfree _ z rfl
  have hcf : closureFor scope X.env = pure [] := by rw [← hcl]; exact closure_ok hfr
  cases hc : codeAmong pos ps.toList with
  | none =>
    refine PySem.W.kla_makeFunction (mg := X.mg) (c := c) (P := P) (ps := ps) hcf I.ok.glob (I.mod.glob.keeps I.bk) hcode (TB.code.keeps I.bk) hP' ht hc TB.gP bP fun c' ctv h' tk hx hge hlt hrec htb => ?_
    obtain ⟨c2, oc, vs, t, e2, hoc, hd, hv⟩ := hrec
    cases e2
    have nC : H c' = none := I.hok.fresh hge
    have I1 := inv_table (t' := tk) (more := #[rawInt pos.line, rawInt pos.col, .ref c']) (h' := h') I hP (fun b o hb e => hx b o hb e) htb hge ⟨oc, vs, t, hoc, hd, hv⟩
    have I2 := inv_lam (F := ⟨X.env.qual ++ "<lambda>", params, body, scope⟩) (c := c') (t' := tk) (pm := (X.mg "__name__").getD .none) (ctv := ctv) I1 rfl
    have hPc : P ≠ c' := ne_of_none hP nC
    rw [upd_comm hPc] at I2
    have nF : H h'.objs.size = none := I.hok.fresh (Nat.le_trans hge (Nat.le_of_lt hlt))
    have eL : (ps ++ #[rawInt pos.line, rawInt pos.col, .ref c']).toList = ps.toList ++ [rawInt pos.line, rawInt pos.col, .ref c'] := by simp
    exact ⟨.ref h'.objs.size, _, I2, rfl, hNew h'.objs.size c' _ nF nC (Nat.ne_of_gt hlt) (by rw [eL]; exact PySem.TriplesOk_snoc _ _ _ _ ht) fun p' cv hcv => by
      rw [eL] at hcv
      exact among_app _ ht hcv⟩
  | some cv =>
    obtain ⟨c', e, hco⟩ := ha pos cv hc
    subst e
    refine PySem.W.kla_makeFunctionHit (mg := X.mg) (c := c) (P := P) (ps := ps) hcf I.ok.glob (I.mod.glob.keeps I.bk) hcode (TB.code.keeps I.bk) hP' ht hc bP fun ctv h' tk hx hsz => ?_
    have I1 : Inv X pins σ H { s with heap := h', toks := tk } := I.kept hx
    have I2 := inv_lam (F := ⟨X.env.qual ++ "<lambda>", params, body, scope⟩) (c := c') (t' := tk) (pm := (X.mg "__name__").getD .none) (ctv := ctv) I1 rfl
    exact ⟨.ref h'.objs.size, _, I2, rfl, hHit h'.objs.size c' (I1.hok.fresh (Nat.le_refl _)) ⟨pos, hc⟩⟩
end
theorem pe_lamF {X : Cx} {e : Expr} {F : LF} {c P : Addr} {pos : Pos} (he : e = .Lambda F.params F.body F.scope pos) (hq : X.env.qual ++ "<lambda>" = F.qual) (TB : TabB X.base X.mg c P) (hcode : X.env.code = .ref c) (hdef : defaultsOf F.params X.env = ([], [])) (hfree : ∀ y ∈ F.scope.names, y.2 ≠ .free) : PE X e (tLam P F) := by
  obtain ⟨q, ps, b, sc⟩ := F
  subst he
  have hq : X.env.qual ++ "<lambda>" = q := hq
  subst hq
  exact pe_lam TB hcode hdef hfree
/-- a def whose code object is known -/
structure FunC (K : PySem.W.Frag) (x qual : Str) (st : Stmt) (f : Addr) (fd : FuncData) (c : Addr) : Prop where
  ex : ∃ (oc : Value) (od : Option Addr) (kV doc pm : Value) (an : Option Addr) (ct : Value) (osl : Array (Option Value)),
    fd = PySem.W.fnOf x qual (defArgs st) (defBody st) (defScope st) .none kV doc pm an (.ref c) ct ∧ K.lookup f = some ⟨oc, od, .func fd, osl⟩ ∧ PySem.W.codeIn K (.ref c) qual = true
theorem FunC.ok {P : Program} {w : World} {K : PySem.W.Frag} {mg : Str → Option Value} {base : Heap} {x qual : Str} {st : Stmt} {f c : Addr} {fd : FuncData} {N ps : List Str} {k : Nat} {sp : Sp} (F : FunC K x qual st f fd c) (S : FnScope N ps (defScope st)) (len : ∀ vs H Q E, sp vs H Q E → vs.length = ps.length)
    (hbody : ∀ (A : Around) (outer : List Env) (s : Shared) (H : Hp) (vs : List V) (Q : VK) (E : XK), Room k (A.deeper (envOfC qual (defScope st) s.heap.objs.size f (.ref c))) → sp vs H Q E →
      ∃ t, PSs (cxOf CX0 P w K mg base N qual (defScope st) f (.ref c) A outer s H E).nox (defBody st) t ∧ t { nx := fun _ H' => Q .non H', rt := Q } (L2.start N vs) H) : FnOk P w K mg base CX0 (k + 1) f fd ps sp := by
  obtain ⟨oc, od, kV, doc, pm, an, ct, osl, rfl, lk, hcd⟩ := F.ex
  refine fn_of lk hcd S len fun A outer s H vs Q E hr hsp => ?_
  obtain ⟨t, h, q⟩ := hbody A outer s H vs Q E hr hsp
  exact ⟨t, h.nox, q⟩
/-! ### in the value layer -/
section
variable {C : Ctx} {H0 H H0' H' : Hp} {tas : TA} {dqs : DR} {f : Bool}
theorem Go.tab {P : Addr} {ps : Array Value} (w : Wf C H0 H) (e : C.ex = some P) (ht : TriplesOk ps.toList) (ha : ∀ (pos : Pos) (cv : Value), codeAmong pos ps.toList = some cv → ∃ c, cv = .ref c ∧ H0 c = some (CodeO c lamName)) : Go C H0 H H0 (L2.upd H P (.tbl ps)) := by
  have n0 := (w.dr P e).no
  refine ⟨⟨fun b u q => ?_, fun b u n q => ?_, w.fz, w.nw, fun p q => ?_⟩, Same.refl _, fun b u n q => ?_, fun b u q => .inl q⟩
  · rw [upd_ne (fun z => by rw [z, n0] at q; cases q)]; exact w.sub b u q
  · rw [upd_ne (fun z => n (by rw [z]; exact e))]; exact w.kp b u n q
  · rw [e] at q; cases q
    exact ⟨n0, .inr ⟨ps, upd_same, ht, ha⟩, fun _ => ⟨ps, upd_same⟩⟩
  · rw [upd_ne (fun z => n (by rw [z]; exact e))]; exact q
@[simp] def qLam (F : LF) (ds : DR) : DR := fun δ Φ => ds δ fun xs => Φ (.fn F :: xs)
theorem smq_lam {P : Addr} {F : LF} (he : C.ex = some P) (hT : IsTb C.He P) (hF : F.qual = lamName) (hb : SmQ C tas dqs) : SmQ C (tCons (tLam P F) tas) (qLam F dqs) := fun σ δ H0 H Φ Q s w q => by
  obtain ⟨ps, e1, e2, e3⟩ := (s.dr P he).tab hT
  refine ⟨ps, e1, e2, fun pos cv h => ?_, fun g c hg ⟨pos, hc⟩ => ?_, fun g c ps' hg hc ne ht ha => ?_⟩
  · obtain ⟨c, k1, k2⟩ := e3 pos cv h
    exact ⟨c, k1, by rw [hF]; exact s.sub _ _ k2⟩
  · obtain ⟨c', k1, k2⟩ := e3 _ _ hc
    cases k1
    have g1 := Go.new (o := LamO g F c) s.toWf hg
    refine hb σ δ _ _ _ _ (s.go g1) w fun H02 H2 us ys g2 r2 w2 => q H02 H2 _ _ (g1.trans g2) (RRas.cons (r := R.fn F) ⟨g, c, rfl, g2.fz _ _ upd_same, ?_⟩ r2) w2
    rw [hF]
    exact (g1.trans g2).fz _ _ k2
  · have g1 := Go.new (o := CodeO c F.qual) s.toWf hc
    have np : P ≠ c := ne_of_none e1 hc
    have g2 : Go C _ _ (L2.upd H0 c (CodeO c F.qual)) (L2.upd (L2.upd H c (CodeO c F.qual)) P (.tbl ps')) := Go.tab g1.wf he ht fun pos cv h => by
      rcases ha pos cv h with z | z
      · obtain ⟨c0, k1, k2⟩ := e3 _ _ z
        exact ⟨c0, k1, g1.fz _ _ k2⟩
      · exact ⟨c, z, by rw [upd_same, hF]⟩
    have nP : g ≠ P := fun z => by rw [z, e1] at hg; cases hg
    have g3 := Go.new (o := LamO g F c) g2.wf (show (L2.upd (L2.upd H c (CodeO c F.qual)) P (.tbl ps')) g = none by rw [upd_ne nP, upd_ne ne]; exact hg)
    have gg := (g1.trans g2).trans g3
    refine hb σ δ _ _ _ _ (s.go gg) w fun H02 H2 us ys g4 r2 w2 => q H02 H2 _ _ (gg.trans g4) (RRas.cons (r := R.fn F) ⟨g, c, rfl, g4.fz _ _ upd_same, g4.fz _ _ (by rw [upd_ne (fun z => ne z.symm), upd_same])⟩ r2) w2
end
/-! ### called -/
abbrev nfL (F : LF) (c : Addr) : NF := ⟨"<lambda>", F.qual, F.params, [], F.scope, [], c⟩
def XF : XK := fun _ _ _ => False
structure LamOk (P : Program) (w : World) (K : PySem.W.Frag) (mg : Str → Option Value) (base : Heap) (k : Nat) (F : LF) (sp : VSp) : Prop where
  run : ∀ (A : Around) (outer : List Env) (s : Shared) (H : Hp) (us : List Value) (vs : List V) (f c : Addr) (Q : VK), Room k A → Env0 P w K mg base A outer s H → H f = some (LamO f F c) → H c = some (CodeO c F.qual) → Vals vs us → toSp K 1 sp vs H Q XF →
    codeAny (model P w) A (.call (.ref f) ⟨us, []⟩) (CR CX0 outer P w H s Q XF) s
section
variable {P : Program} {w : World} {K : PySem.W.Frag} {mg : Str → Option Value} {base : Heap} {k j : Nat} {F : LF} {sp : VSp}
theorem LamOk.mono (o : LamOk P w K mg base j F sp) (h : j ≤ k) : LamOk P w K mg base k F sp := ⟨fun A outer s H us vs f c Q hr => o.run A outer s H us vs f c Q (hr.mono h)⟩
theorem lamOk_of {N : List Str} {x : Str} (S : NScope N [x] [] F.scope) (hb : ∀ (pm cdv ctv : Value) (us : List Value), us.length = 1 → bindArgs (PySem.W.kla_fn "<lambda>" F.qual F.params F.body F.scope [] pm cdv ctv) ⟨us, []⟩ = pure ([x].zip us))
    (hbody : ∀ (A : Around) (outer : List Env) (s : Shared) (H : Hp) (f c : Addr), Room k (A.deeper (envF (nfL F c) f s.heap.objs.size)) →
      ∃ t, PE (ncx CX0 P w K mg base N (nfL F c) f A outer s H XF) F.body t ∧ ∃ d : DE, (∀ (ex : Option Addr) (He Hf : Hp), Sm ⟨K, ex, He, Hf⟩ true t d) ∧ ∀ rs Φ, sp rs Φ → d (startD N.length rs) fun y => Φ (.d y)) : LamOk P w K mg base (k + 1) F sp := by
  refine ⟨fun A outer s H us vs f c Q hr e0 hf hc r hsp => ?_⟩
  obtain ⟨hl, ex, H0, rs, Φ, wf, ra, hp, q⟩ := hsp
  have lim : s.heap.NoLimit := e0.mod.nolimit.keeps fun b o e => (e0.bs b o e).1
  obtain ⟨pm, ctv, ho⟩ := lamO_at e0.hok hf
  refine PySem.W.kla_callFunE hr.depth ho rfl S.co S.gen rfl (codeO_at e0.hok hc) ?_
  rw [hb pm (.ref c) ctv us (by rw [← r.length]; exact hl)]
  refine wpAny_pure (wpAny_newFunctionEnv S.nocell (fun ⟨n, _⟩ hy => S.par n (List.of_mem_zip hy).1) (fun h₁ hns hsb => ⟨lim.fresh _ hsb, ?_⟩) S.kind)
  show codeAny _ _ (.expr F.body (envF (nfL F c) f s.heap.objs.size)) _ _
  have kp : ∀ b o, s.heap.get? b = some o → h₁.get? b = some o := fun b o e => hsb.extBut b o (Nat.ne_of_lt (Heap.lt_size e)) (Heap.get?_push_of_some _ e)
  obtain ⟨t, ht, d, hd, hq⟩ := hbody A outer s H f c (hr.deeper _)
  have I : Inv (ncx CX0 P w K mg base N (nfL F c) f A outer s H XF) [] (startF N vs []) H { s with heap := h₁, toks := s.toks + ([x].zip us).length } :=
    inv_startN (F := nfL F c) S hr.hd e0 hl r ⟨rfl, fun y c e => (nomatch e), fun _ _ _ e => (nomatch e), fun i y e => (nomatch e)⟩ hns kp
  have eS : startF N vs [] = L2.start N vs := by simp [startF, L2.start]
  have hrun : t (startF N vs []) H Q := by
    rw [eS]
    exact body_start (N := N) (t := tRet t) (d := dRet d) rfl (fun ex He Hf => sms_ret (hd ex He Hf)) wf ra (hq rs Φ hp) q
  refine PySem.W.kla_codeExpr (wpAny_mono (ht.run [] _ (startF N vs []) H _ I hrun) (fun v s' hs => ?_) fun e s' hs => hs)
  obtain ⟨w', H', J', rv, q'⟩ := hs
  exact ⟨w', H', J'.os, J'.bare, J'.base, J'.hok, rv, q'⟩
end
def tCallF (K : PySem.W.Frag) (S : LF → VSp → Prop) (i : Nat) (t : TA) : TE := fun σ H Q => ∃ f c F sp, σ[i]? = some (some (.ref f)) ∧ S F sp ∧ H f = some (LamO f F c) ∧ t σ H fun vs H1 => H1 f = some (LamO f F c) ∧ H1 c = some (CodeO c F.qual) ∧ toSp K 1 sp vs H1 Q XF
section
variable {X : Cx} {K : PySem.W.Frag} {S : LF → VSp → Prop} {i k : Nat} {x : Str} {t : TA} {e : Expr} {es : List Expr} {p pos : Pos}
theorem pe_callF (hK : X.K = K) (Fn : ∀ F sp, S F sp → LamOk X.prog X.w K X.mg X.base k F sp) (hr : Room k X.A) (hN : X.N[i]? = some x) (hv : Vis X.env.scope x) (ha : PA X (e :: es) t)
    (hd : (x == ("__debug__" : Str)) = false := by decide) (hcd : (x == ("__classdict__" : Str)) = false := by decide)
    (he : starEach (e :: es) X.env = (false, eval e X.env) :: starEach es X.env := by rfl) (hpl : (backTo pos (starEach es X.env)).any (·.1) = false := by rfl) :
    PE X (.Call (.Name x p) (e :: es) [] pos) (tCallF K S i t) := by
  subst hK
  refine ⟨fun pins s σ H Q I h => ?_⟩
  obtain ⟨f, c, F, sp, hs, hS, hf, ht⟩ := h
  refine wpAny_Call_Name_kw (thn ((pe_var (pos := p) hN hv hd hcd).run pins s σ H (fun v H1 => v = .ref f ∧ H1 = H) I ⟨.ref f, hs, rfl, rfl⟩) fun u s1 ⟨v, H1, I1, r1, q1⟩ => ?_)
  obtain ⟨ev, eH⟩ := q1
  subst ev
  rw [eH] at I1
  obtain rfl : u = Value.ref f := r1
  have at_ : ∀ {pins σ H s}, Inv X pins σ H s → H f = some (LamO f F c) → PySem.W.FnAt f s.heap := fun I e => by
    obtain ⟨pm, ctv, ho⟩ := lamO_at I.hok e
    exact ⟨_, _, _, _, ho⟩
  refine PySem.W.callWith_F (first := []) (at_ I1 hf) (thn (ha.run pos pins s1 σ H _ I1 ht) fun us s2 ⟨vs, H2, I2, r, h1, h2, q⟩ => ⟨at_ I2 h1, ?_⟩) he hpl
  show wpAny _ _ (call (.ref f) us) _ _ _
  refine wpAny_call (codeAny_mono ((Fn F sp hS).run X.A X.stack s2 H2 us vs f c Q hr I2.env0 h1 h2 r q) fun r s' hq => ?_)
  cases r with
  | error e => exact (show False from hq).elim
  | ok fl =>
    cases fl with
    | ret u => exact I2.after hq
    | next => exact False.elim hq
    | brk => exact False.elim hq
    | cont => exact False.elim hq
end
section
variable {C : Ctx} {tas : TA} {dqs : DR} {f : Bool} {S : LF → VSp → Prop}
@[simp] def dCallF (S : LF → VSp → Prop) (i : Nat) (ds : DR) : DE := fun δ Φ => ∃ F sp, δ[i]? = some (some (.fn F)) ∧ S F sp ∧ ds δ fun rs => rs.length = 1 ∧ sp rs fun r => Φ r.data
theorem sm_callF (i : Nat) (ha : SmQ C tas dqs) : Sm C f (tCallF C.K S i tas) (dCallF S i dqs) := fun σ δ H0 H Φ Q s ⟨F, sp, e, hS, w⟩ q => by
  obtain ⟨v, e1, g, c, e2, k1, k2⟩ := s.sl i _ e
  subst e2
  refine ⟨g, c, F, sp, e1, hS, s.sub _ _ k1, ha σ δ H0 H _ _ s w fun H01 H1 vs rs g1 r1 ⟨hl, w1⟩ => ⟨g1.wf.sub _ _ (g1.fz _ _ k1), g1.wf.sub _ _ (g1.fz _ _ k2), ?_⟩⟩
  refine ⟨by rw [r1.length]; exact hl, C.ex, H01, rs, _, g1.wf.inner, r1, w1, fun H02 H2 v r g2 h2 p2 => ?_⟩
  have g3 := Go.outer g1.wf g2
  cases r with
  | d x => exact q _ _ _ _ (g1.trans g3) (Rp.mono g3.wf.to h2) p2
  | own xs =>
    obtain ⟨a, us, rfl, k1, k2, k3, k4, k5⟩ := h2
    have g4 := Go.frz s.toWf (g1.trans g3) (g1.fresh k2) k1 k4
    exact q _ _ _ _ g4 (Rp.mono g4.wf.to (.lst upd_same (k5.mono (Go.same_new k1)))) p2
/-- a slot that holds a lambda, handed on -/
@[simp] def qFn (i : Nat) (ds : DR) : DR := fun δ Φ => ∃ F, δ[i]? = some (some (.fn F)) ∧ ds δ fun xs => Φ (.fn F :: xs)
theorem smq_fn (i : Nat) (hb : SmQ C tas dqs) : SmQ C (tCons (tVar i) tas) (qFn i dqs) := fun σ δ H0 H Φ Q s ⟨F, e, w⟩ q => by
  obtain ⟨v, e1, g, c, h1, h2, h3⟩ := s.sl i _ e
  exact ⟨v, e1, hb σ δ H0 H _ _ s w fun H02 H2 us ys g2 r2 w2 => q H02 H2 _ _ g2 (RRas.cons (r := R.fn F) ⟨g, c, h1, g2.fz _ _ h2, g2.fz _ _ h3⟩ r2) w2⟩
end
/-- a law that reads its script itself and makes lambdas: P is its code's table -/
def spLawT (K : PySem.W.Frag) (P : Addr) : Sp := fun vs H Q _ => ∃ (a : Addr) (ns : List Int), vs = [.ref a] ∧ H P = some (.tbl #[]) ∧ a ≠ P ∧ SqL K H a (ns.map V.int) ∧ ns.length ≤ 63 ∧ ∀ H', Q (.bl true) H'
theorem law_plainT {K : PySem.W.Frag} {P a : Addr} {ns : List Int} {H : Hp} {Q : VK} {n : Nat} {t : TS} {d : DS} (hP : H P = some (.tbl #[])) (hS : SqL K H a (ns.map V.int)) (ne : a ≠ P) (k : ∀ H', Q (.bl true) H') (hd : ∀ (He Hf : Hp), IsTb He P → SmS ⟨K, some P, He, Hf⟩ t d)
    (hp : d { nx := fun _ => False, rt := fun r => r = .d (.bool true) } (some (.scr ns) :: List.replicate n none)) : t { nx := fun _ H' => Q .non H', rt := Q } (some (.ref a) :: List.replicate n none) H := by
  have w : Wf ⟨K, some P, H, fun b => if b = P then none else H b⟩ (fun b => if b = P then none else H b) H := by
    refine ⟨fun b o e => ?_, fun _ _ _ e => e, Same.refl _, fun _ _ e => .inl e, fun q e => ?_⟩
    · split at e
      · cases e
      · exact e
    · cases e
      exact ⟨if_pos rfl, .inr ⟨_, hP, trivial, fun pos cv z => by simp [codeAmong] at z⟩, id⟩
  have hS' : SqL K (fun b => if b = P then none else H b) a (ns.map V.int) := by
    rcases hS with (h | ⟨o, h⟩) | h
    · exact .inl (.inl (by show (if a = P then none else H a) = _; rw [if_neg ne]; exact h))
    · exact .inl (.inr ⟨o, by show (if a = P then none else H a) = _; rw [if_neg ne]; exact h⟩)
    · exact .inr h
  refine hd H (fun b => if b = P then none else H b) ⟨_, hP⟩ _ _ _ H _ _ ⟨w, by simp, fun i r e => ?_, fun i j a b xs ys n e1 e2 a1 a2 => ?_⟩ hp ⟨fun _ _ _ _ _ _ h => h.elim, fun H0' H'' v r g w' x e => ?_, fun _ _ _ _ _ _ h => h.elim, fun _ _ _ _ _ _ h => h.elim⟩
  · match i with
    | 0 => simp at e; subst e; exact ⟨_, rfl, a, rfl, hS'⟩
    | i + 1 =>
      rw [List.getElem?_cons_succ, List.getElem?_replicate] at e
      split at e <;> simp at e
  · match i with
    | 0 => simp at e1; subst e1; cases a1
    | i + 1 =>
      rw [List.getElem?_cons_succ, List.getElem?_replicate] at e1
      split at e1 <;> simp at e1
  · subst e
    cases x
    exact k _
theorem lawT_ne {K : PySem.W.Frag} {P a : Addr} {H : Hp} {xs : List V} (hP : H P = some (.tbl #[])) (hn : K.lookup P = none) (hS : SqL K H a xs) : a ≠ P := fun z => by
  subst z
  rcases hS with (h | ⟨o, h⟩) | h
  · rw [hP] at h; cases h
  · rw [hP] at h; cases h
  · obtain ⟨o, its, n, h, _⟩ := h
    rw [hn] at h; cases h
end VL

namespace Toy
open PySem PySem.Spec PyProof.Rows L2 VL
def topS (i : Nat) : Stmt := PySem.Challenge.pw_burnish_k03_edges_by_slots.main.body.getD i (.Pass ⟨0, 0, 0, 0⟩)
abbrev sedges : Stmt := topS 1
theorem sc_edges : FnScope ["end", "case"] ["end"] (defScope sedges) := ⟨rfl, rfl, rfl, by decide +kernel, rfl, by decide +kernel, by decide +kernel⟩
abbrev swith_edges : Stmt := topS 2
theorem sc_with_edges : FnScope ["end", "row", "cases", "case", "edge"] ["end", "row"] (defScope swith_edges) := ⟨rfl, rfl, rfl, by decide +kernel, rfl, by decide +kernel, by decide +kernel⟩
abbrev swith_edge : Stmt := topS 3
theorem sc_with_edge : FnScope ["end", "slot", "edge", "row"] ["end", "slot", "edge"] (defScope swith_edge) := ⟨rfl, rfl, rfl, by decide +kernel, rfl, by decide +kernel, by decide +kernel⟩
abbrev smap_labels : Stmt := topS 4
theorem sc_map_labels : FnScope ["end", "change", "label", "args"] ["end", "change"] (defScope smap_labels) := ⟨rfl, rfl, rfl, by decide +kernel, rfl, by decide +kernel, by decide +kernel⟩
abbrev s_law_stream : Stmt := topS 6
theorem sc__law_stream : FnScope ["script", "count", "row", "mixed", "cell", "k", "number"] ["script", "count"] (defScope s_law_stream) := ⟨rfl, rfl, rfl, by decide +kernel, rfl, by decide +kernel, by decide +kernel⟩
abbrev s_law_same : Stmt := topS 7
theorem sc__law_same : FnScope ["actual", "expected", "at"] ["actual", "expected"] (defScope s_law_same) := ⟨rfl, rfl, rfl, by decide +kernel, rfl, by decide +kernel, by decide +kernel⟩
abbrev s_law_operand : Stmt := topS 8
theorem sc__law_operand : FnScope ["first", "second", "kinds", "widths", "choice", "at", "value"] ["first", "second"] (defScope s_law_operand) := ⟨rfl, rfl, rfl, by decide +kernel, rfl, by decide +kernel, by decide +kernel⟩
abbrev s_law_end : Stmt := topS 9
theorem sc__law_end : FnScope ["word", "operand", "row", "values", "cases", "at"] ["word", "operand", "row", "values"] (defScope s_law_end) := ⟨rfl, rfl, rfl, by decide +kernel, rfl, by decide +kernel, by decide +kernel⟩
abbrev s_law_edges : Stmt := topS 10
theorem sc__law_edges : FnScope ["row", "at", "count", "found", "k", "args", "j"] ["row", "at", "count"] (defScope s_law_edges) := ⟨rfl, rfl, rfl, by decide +kernel, rfl, by decide +kernel, by decide +kernel⟩
abbrev slaw : Stmt := topS 11
theorem sc_law : FnScope ["script", "row", "word", "operand", "values", "count", "found", "end", "moved", "slot", "other", "changed", "k", "edge"] ["script"] (defScope slaw) := ⟨rfl, rfl, rfl, by decide +kernel, rfl, by decide +kernel, by decide +kernel⟩
structure Txt (K : PySem.W.Frag) (mg : Str → Option Value) where
  f_edges : Addr
  fd_edges : FuncData
  F_edges : Fun K "edges" "edges" sedges f_edges fd_edges
  g_edges : mg "edges" = some (.ref f_edges)
  b_edges : Binds K fd_edges ["end"] []
  f_with_edges : Addr
  fd_with_edges : FuncData
  F_with_edges : Fun K "with_edges" "with_edges" swith_edges f_with_edges fd_with_edges
  g_with_edges : mg "with_edges" = some (.ref f_with_edges)
  b_with_edges : Binds K fd_with_edges ["end", "row"] []
  f_with_edge : Addr
  fd_with_edge : FuncData
  F_with_edge : Fun K "with_edge" "with_edge" swith_edge f_with_edge fd_with_edge
  g_with_edge : mg "with_edge" = some (.ref f_with_edge)
  b_with_edge : Binds K fd_with_edge ["end", "slot", "edge"] []
  f_map_labels : Addr
  fd_map_labels : FuncData
  F_map_labels : Fun K "map_labels" "map_labels" smap_labels f_map_labels fd_map_labels
  g_map_labels : mg "map_labels" = some (.ref f_map_labels)
  b_map_labels : Binds K fd_map_labels ["end", "change"] []
  f__law_stream : Addr
  fd__law_stream : FuncData
  F__law_stream : Fun K "_law_stream" "_law_stream" s_law_stream f__law_stream fd__law_stream
  g__law_stream : mg "_law_stream" = some (.ref f__law_stream)
  b__law_stream : Binds K fd__law_stream ["script", "count"] []
  f__law_same : Addr
  fd__law_same : FuncData
  F__law_same : Fun K "_law_same" "_law_same" s_law_same f__law_same fd__law_same
  g__law_same : mg "_law_same" = some (.ref f__law_same)
  b__law_same : Binds K fd__law_same ["actual", "expected"] []
  f__law_operand : Addr
  fd__law_operand : FuncData
  F__law_operand : Fun K "_law_operand" "_law_operand" s_law_operand f__law_operand fd__law_operand
  g__law_operand : mg "_law_operand" = some (.ref f__law_operand)
  b__law_operand : Binds K fd__law_operand ["first", "second"] []
  f__law_end : Addr
  fd__law_end : FuncData
  F__law_end : Fun K "_law_end" "_law_end" s_law_end f__law_end fd__law_end
  g__law_end : mg "_law_end" = some (.ref f__law_end)
  b__law_end : Binds K fd__law_end ["word", "operand", "row", "values"] []
  f__law_edges : Addr
  fd__law_edges : FuncData
  F__law_edges : Fun K "_law_edges" "_law_edges" s_law_edges f__law_edges fd__law_edges
  g__law_edges : mg "_law_edges" = some (.ref f__law_edges)
  b__law_edges : Binds K fd__law_edges ["row", "at", "count"] []
  f_law : Addr
  fd_law : FuncData
  F_law : Fun K "law" "law" slaw f_law fd_law
  g_law : mg "law" = some (.ref f_law)
  b_law : Binds K fd_law ["script"] []
  tuple : mg "tuple" = none
  zip : mg "zip" = none
  range : mg "range" = none
  abs : mg "abs" = none
  isinstance : mg "isinstance" = none
  list : mg "list" = none
  bool : mg "bool" = none
  len : mg "len" = none
  int : mg "int" = none
  str : mg "str" = none
def lam_0 : LF := ⟨lamName,
 {
                              posonlyargs := [],
                              args := [{ arg := "label", annotation := none, pos := ⟨115, 44, 115, 49⟩ : PySem.Arg }],
                              vararg := none,
                              kwonlyargs := [],
                              kw_defaults := [],
                              kwarg := none,
                              defaults := [] : PySem.Arguments },
 (PySem.Expr.BinOp
                              (left := (PySem.Expr.BinOp
                                (left := (PySem.Expr.Constant (PySem.Const.int 3) 0 ⟨115, 51, 115, 52⟩))
                                (op := PySem.Operator.Mult)
                                (right := (PySem.Expr.Name "label" ⟨115, 55, 115, 60⟩))
                                (pos := ⟨115, 51, 115, 60⟩)))
                              (op := PySem.Operator.Add)
                              (right := (PySem.Expr.Constant (PySem.Const.int 1) 0 ⟨115, 63, 115, 64⟩))
                              (pos := ⟨115, 51, 115, 64⟩)),
 {
                              kind := PySem.ScopeKind.function,
                              names := [(PySem.Str.ofString "label", PySem.NameKind.local)],
                              isGenerator := false,
                              isCoroutine := false,
                              more := [] : PySem.Scope }⟩
def lam_1 : LF := ⟨lamName,
 {
                                  posonlyargs := [],
                                  args := [{ arg := "label", annotation := none, pos := ⟨118, 48, 118, 53⟩ : PySem.Arg }],
                                  vararg := none,
                                  kwonlyargs := [],
                                  kw_defaults := [],
                                  kwarg := none,
                                  defaults := [] : PySem.Arguments },
 (PySem.Expr.Name "label" ⟨118, 55, 118, 60⟩),
 {
                                  kind := PySem.ScopeKind.function,
                                  names := [(PySem.Str.ofString "label", PySem.NameKind.local)],
                                  isGenerator := false,
                                  isCoroutine := false,
                                  more := [] : PySem.Scope }⟩
section
variable {P : Program} {w : World} {K : PySem.W.Frag} {mg : Str → Option Value} {base : Heap}

/-! ### the row that a law makes of its script -/
def Row (ns : List Int) : Prop := ∀ x ∈ ns, 0 ≤ x ∧ x < 1000000000000000000
theorem Row.snoc {ns : List Int} {x : Int} (h : Row ns) (h0 : 0 ≤ x) (h1 : x < 1000000000000000000) : Row (ns ++ [x]) := fun y hy => by
  rcases List.mem_append.mp hy with hy | hy
  · exact h y hy
  · rw [List.mem_singleton.mp hy]; exact ⟨h0, h1⟩
theorem cdw7 {i : Int} : CDivW i 7 := ⟨by decide, by decide⟩
theorem cdwk {i : Int} : CDivW i 1000 := ⟨by decide, by decide⟩
def vp__law_stream : VSp := fun rs Φ => ∃ (ns : List Int) (count : Nat), rs = [.scr ns, .d (.int count)] ∧ ns.length ≤ 63 ∧ count ≤ 5000 ∧ ∀ row : List Int, count ≤ row.length → row.length ≤ 9000 → Row row → Φ (.own (row.map .int))
theorem len__law_stream : ∀ rs Φ, vp__law_stream rs Φ → rs.length = 2 := fun rs Φ ⟨_, _, e, _⟩ => by rw [e]; rfl
theorem G__law_stream (T : Txt K mg) : FnOk P w K mg base CX0 1 T.f__law_stream T.fd__law_stream ["script", "count"] (toSp K 2 vp__law_stream) := by
  refine fn_ok T.F__law_stream sc__law_stream fun cdv A outer s H E hr => ⟨_, (pss_cons (ps_set (i := 2) sc__law_stream.nd rfl (Or.inl rfl) (pe_lst pa_nil))
 (pss_cons (ps_set (i := 3) sc__law_stream.nd rfl (Or.inl rfl) pe_int)
 (pss_cons (ps_for PassesOwn.never rfl ((kpi_list (K := K) rfl (pv 0))) (pg_name (i := 4) sc__law_stream.nd rfl (Or.inl rfl)) (pss_cons (ps_set (i := 6) sc__law_stream.nd rfl (Or.inl rfl) (pe_callB call_abs (by rfl) T.abs (by decide +kernel) (pa_cons (pv 4) pa_nil)))
 (pss_cons (ps_set (i := 3) sc__law_stream.nd rfl (Or.inl rfl) (pe_op op_mod (pe_op op_add (pe_op op_mul (pv 3) pe_int) (pv 6)) pe_int))
 (pss_one (ps_if (pt_cmpR op_ge (pv 6) (pe_op op_pow pe_int pe_int) (nomark _)) (pss_one (ps_for PassesOwn.never rfl (pi_range1 rfl T.range (pa_cons pe_int pa_nil)) (pg_name (i := 5) sc__law_stream.nd rfl (Or.inl rfl)) (pss_one (ps_if (pt_cmpR op_gt (pv 6) pe_int (nomark _)) (pss_cons (ps_expr (pe_bm PySem.F.plainAttrs_list PySem.F.slot_list_append PySem.F.type_list_append mt_append (pv 2) (pa_cons (pe_op op_mod (pv 6) pe_int) pa_nil)))
 (pss_one (ps_set (i := 6) sc__law_stream.nd rfl (Or.inl rfl) (pe_op op_fdivW (pv 6) pe_int)))) pss_nil)))) (pss_one (ps_expr (pe_bm PySem.F.plainAttrs_list PySem.F.slot_list_append PySem.F.type_list_append mt_append (pv 2) (pa_cons (pv 6) pa_nil)))))))))
 (pss_cons (ps_for PassesOwn.never rfl (pi_range1 rfl T.range (pa_cons (pv 1) pa_nil)) (pg_name (i := 5) sc__law_stream.nd rfl (Or.inl rfl)) (pss_cons (ps_set (i := 3) sc__law_stream.nd rfl (Or.inl rfl) (pe_op op_mod (pe_op op_add (pe_op op_mul (pv 3) pe_int) pe_int) pe_int))
 (pss_one (ps_expr (pe_bm PySem.F.plainAttrs_list PySem.F.slot_list_append PySem.F.type_list_append mt_append (pv 2) (pa_cons (pe_op op_fdivW (pv 3) pe_int) pa_nil))))))
 (pss_one (ps_ret (pv 2))))))), _, fun ex He Hf => (sms_seq (sms_setO 2 (smo_lst sma_nil))
 (sms_seq (sms_asg (sm_int _) (smg_name 3))
 (sms_seq (sms_for (smi_scr 0) (smg_name 4)
 (sms_seq (sms_asg (sm_cb (f1 := false) cbd_abs (sma_cons (sm_var 4) sma_nil)) (smg_name 6))
 (sms_seq (sms_asg (sm_op (f1 := false) (f2 := false) (opd_I (g' := fun i j => .int (i % j)) fun _ _ => rfl) (sm_op (f1 := false) (f2 := false) (opd_I0 (g' := fun i j => .int (i + j)) fun _ _ => rfl) (sm_op (f1 := false) (f2 := false) (opd_I (g' := fun i j => .int (i * j)) fun _ _ => rfl) (sm_var 3) (sm_int _)) (sm_var 6)) (sm_int _)) (smg_name 3))
 (sms_if (smt_t (f1 := false) (sm_op (f1 := false) (f2 := false) (opd_I0 (g' := fun i j => .bool (decide (j ≤ i))) fun _ _ => rfl) (sm_var 6) (sm_op (f1 := false) (f2 := false) (opd_I (g' := fun i j => .int (i ^ j.toNat)) fun _ _ => rfl) (sm_int _) (sm_int _))))
 (sms_for (smi_rng1 (f1 := false) (sm_int _)) (smg_name 5)
 (sms_if (smt_t (f1 := false) (sm_op (f1 := false) (f2 := false) (opd_I0 (g' := fun i j => .bool (decide (j < i))) fun _ _ => rfl) (sm_var 6) (sm_int _)))
 (sms_seq (sms_app 2 (sm_op (f1 := false) (f2 := false) (opd_I (g' := fun i j => .int (i % j)) fun _ _ => rfl) (sm_var 6) (sm_int _)))
 (sms_asg (sm_op (f1 := false) (f2 := false) (opd_I (g' := fun i j => .int (i / j)) fun _ _ => rfl) (sm_var 6) (sm_int _)) (smg_name 6)))
 sms_next))
 (sms_app 2 (sm_var 6))))))
 (sms_seq (sms_for (smi_rng1 (f1 := false) (sm_var 1)) (smg_name 5)
 (sms_seq (sms_asg (sm_op (f1 := false) (f2 := false) (opd_I (g' := fun i j => .int (i % j)) fun _ _ => rfl) (sm_op (f1 := false) (f2 := false) (opd_I0 (g' := fun i j => .int (i + j)) fun _ _ => rfl) (sm_op (f1 := false) (f2 := false) (opd_I (g' := fun i j => .int (i * j)) fun _ _ => rfl) (sm_var 3) (sm_int _)) (sm_int _)) (sm_int _)) (smg_name 3))
 (sms_app 2 (sm_op (f1 := false) (f2 := false) (opd_I (g' := fun i j => .int (i / j)) fun _ _ => rfl) (sm_var 3) (sm_int _)))))
 (sms_retO 2))))), ?_⟩
  rintro rs Φ ⟨ns, count, rfl, hn, hc, h⟩
  refine seq_by (fun δ => ∃ a, δ = [some (.scr ns), some (.d (.int count)), some (.own a []), none, none, none, none]) (fun δ hI => ?_) (fun N hN => ?_)
  rotate_left
  · simp
    exact fun a => hN _ ⟨a, rfl⟩
  obtain ⟨a, rfl⟩ := hI
  refine seq_by (fun δ => δ = [some (.scr ns), some (.d (.int count)), some (.own a []), some (.d (.int 7)), none, none, none]) (fun δ hI => ?_) (fun N hN => ?_)
  rotate_left
  · simp
    exact hN _ rfl
  subst hI
  -- the script's numbers
  refine seq_by (fun δ => ∃ (row : List Int) (m : Int) (y4 y5 y6 : Option R), Row row ∧ row.length ≤ 3800 ∧ 0 ≤ m ∧ m < 2147483647 ∧ δ = [some (.scr ns), some (.d (.int count)), some (.own a (row.map .int)), some (.d (.int m)), y4, y5, y6]) (fun δ hI => ?_) (fun N hN => ?_)
  rotate_left
  · simp only [dFor, iScr]
    refine ⟨ns, rfl, fun i δ => ∃ (row : List Int) (m : Int) (y4 y5 y6 : Option R), Row row ∧ row.length ≤ 60 * i ∧ 0 ≤ m ∧ m < 2147483647 ∧ δ = [some (.scr ns), some (.d (.int count)), some (.own a (row.map .int)), some (.d (.int m)), y4, y5, y6], ⟨[], 7, none, none, none, fun _ h => (nomatch h), by decide, by decide, by decide, rfl⟩, fun i z δ hz hI => ?_, fun δ hI => ?_⟩
    · obtain ⟨row, m, y4, y5, y6, hr1, hl, m0, m1, rfl⟩ := hI
      have hi : i < ns.length := by
        have := (List.getElem?_eq_some_iff.mp hz).1
        rw [List.length_map] at this
        exact this
      obtain ⟨u, _, rfl⟩ := int_at hz
      clear hz
      have hsz : ∀ k : Nat, k ≤ 3800 → k < sizeLine := fun k hk => Nat.lt_of_le_of_lt hk (by decide)
      obtain ⟨v, v0, hv⟩ : ∃ v : Int, 0 ≤ v ∧ (if u < 0 then -u else u) = v := ⟨_, by split <;> omega, rfl⟩
      simp [hv]
      refine ⟨.inl ⟨by omega, by omega⟩, ⟨by decide, by decide, by decide⟩, ?_⟩
      have mm := Int.emod_nonneg (m * 69621 + v) (show (2147483647 : Int) ≠ 0 by decide)
      have ml := Int.emod_lt_of_pos (m * 69621 + v) (show (0 : Int) < 2147483647 by decide)
      generalize (m * 69621 + v) % 2147483647 = M at mm ml ⊢
      split
      · simp [dFor]
        refine ⟨fun j δ => ∃ (row : List Int) (v : Int) (y5 : Option R), Row row ∧ row.length ≤ 60 * i + j ∧ 0 ≤ v ∧ δ = [some (.scr ns), some (.d (.int count)), some (.own a (row.map .int)), some (.d (.int M)), some (.d (.int u)), y5, some (.d (.int v))], ⟨row, v, y5, hr1, hl, v0, rfl⟩, fun j z δ hz hI => ?_, fun δ hI => ?_⟩
        · obtain ⟨row, v, y5, hr1, hl, v0, rfl⟩ := hI
          obtain ⟨hj, rfl⟩ := rng_get hz
          have hj : j < 60 := hj
          simp
          split
          · refine ⟨hsz _ (by omega), cdwk, row ++ [v % 1000], hr1.snoc (by omega) (by omega), ?_, by omega, by simp⟩
            rw [List.length_append, List.length_singleton]
            omega
          · exact ⟨row, hr1, by omega, v0, rfl⟩
        · obtain ⟨row, v, y5, hr1, hl, v0, rfl⟩ := hI
          rw [rng_len] at hl
          exact ⟨row, hr1, by omega, M, mm, ml, _, _, _, rfl⟩
      · rename_i hlt
        refine ⟨hsz _ (by omega), row ++ [v], hr1.snoc v0 (by omega), ?_, M, mm, ml, by simp, rfl⟩
        rw [List.length_append, List.length_singleton]
        omega
    · obtain ⟨row, m, y4, y5, y6, hr1, hl, m0, m1, rfl⟩ := hI
      rw [List.length_map] at hl
      exact hN _ ⟨row, m, y4, y5, y6, hr1, by omega, m0, m1, rfl⟩
  obtain ⟨row, m, y4, y5, y6, hr1, hl, m0, m1, rfl⟩ := hI
  refine seq_by (fun δ => ∃ (row : List Int) (y3 y4 y5 y6 : Option R), Row row ∧ count ≤ row.length ∧ row.length ≤ 9000 ∧ δ = [some (.scr ns), some (.d (.int count)), some (.own a (row.map .int)), y3, y4, y5, y6]) (fun δ hI => ?_) (fun N hN => ?_)
  · obtain ⟨row, y3, y4, y5, y6, hr1, hl, hl2, rfl⟩ := hI
    simp
    exact h row hl hl2 hr1
  simp only [dFor, iR1, dVar]
  refine ⟨.int count, rfl, count, rfl, by omega, by omega, fun j δ => ∃ (row : List Int) (m : Int) (y4 y5 y6 : Option R), Row row ∧ j ≤ row.length ∧ row.length ≤ 3800 + j ∧ 0 ≤ m ∧ m < 2147483647 ∧ δ = [some (.scr ns), some (.d (.int count)), some (.own a (row.map .int)), some (.d (.int m)), y4, y5, y6], ⟨row, m, y4, y5, y6, hr1, Nat.zero_le _, hl, m0, m1, rfl⟩, fun j z δ hz hI => ?_, fun δ hI => ?_⟩
  · obtain ⟨row, m, y4, y5, y6, hr1, hj, hl, m0, m1, rfl⟩ := hI
    obtain ⟨hj', rfl⟩ := rng_get hz
    have mm := Int.emod_nonneg (m * 48271 + 11) (show (2147483647 : Int) ≠ 0 by decide)
    have ml := Int.emod_lt_of_pos (m * 48271 + 11) (show (0 : Int) < 2147483647 by decide)
    simp
    refine ⟨.inl ⟨by omega, by omega⟩, cdw7, Nat.lt_of_lt_of_le (show row.length < 9000 by omega) (by decide), row ++ [(m * 48271 + 11) % 2147483647 / 7], hr1.snoc (by omega) (by omega), ?_, ?_, _, mm, ml, by simp, rfl⟩
    · rw [List.length_append, List.length_singleton]; omega
    · rw [List.length_append, List.length_singleton]; omega
  · obtain ⟨row, m, y4, y5, y6, hr1, hj, hl, m0, m1, rfl⟩ := hI
    rw [rng_len] at hj hl
    exact hN _ ⟨row, _, y4, y5, y6, hr1, by omega, by omega, rfl⟩

/-! ### the law's own comparison, of equal data -/
def vp__law_same (n : Nat) : VSp := fun rs Φ => ∃ x : PyData, rs = [.d x, .d x] ∧ (∃ m, m < n ∧ Okd m x) ∧ Φ (.d (.bool true))
theorem len__law_same {n : Nat} : ∀ rs Φ, vp__law_same n rs Φ → rs.length = 2 := fun rs Φ ⟨_, e, _⟩ => by rw [e]; rfl
theorem same_at {n : Nat} (T : Txt K mg) : FnOk P w K mg base CX0 (n + 1) T.f__law_same T.fd__law_same ["actual", "expected"] (toSp K 2 (vp__law_same n)) := by
  induction n with
  | zero => exact ⟨fun vs H Q E h => h.1, fun A outer s H args us vs Q E _ _ _ _ h => by
      obtain ⟨_, _, _, _, _, _, _, ⟨x, _, ⟨m, h, _⟩, _⟩, _⟩ := h
      exact absurd h (Nat.not_lt_zero _)⟩
  | succ n ih =>
    refine fn_ok T.F__law_same sc__law_same fun cdv A outer s H E hr => ⟨_, (pss_cons (ps_if (PW.pt (pw_or (pt_val (pe_callB (kx_isi (K := K) rfl) (by rfl) T.isinstance (by decide +kernel) (pa_cons (pv 1) (pa_cons (pe_bltn (v := .ty "tuple") (by rfl) T.tuple (by decide +kernel) rfl) pa_nil)))) (pw_or1 (pt_val (pe_callB (kx_isi (K := K) rfl) (by rfl) T.isinstance (by decide +kernel) (pa_cons (pv 1) (pa_cons (pe_bltn (v := .ty "list") (by rfl) T.list (by decide +kernel) rfl) pa_nil))))))) (pss_cons (ps_if (pt_cmpR op_ne (pe_callB (kx_isi (K := K) rfl) (by rfl) T.isinstance (by decide +kernel) (pa_cons (pv 0) (pa_cons (pe_bltn (v := .ty "tuple") (by rfl) T.tuple (by decide +kernel) rfl) pa_nil))) (pe_callB (kx_isi (K := K) rfl) (by rfl) T.isinstance (by decide +kernel) (pa_cons (pv 1) (pa_cons (pe_bltn (v := .ty "tuple") (by rfl) T.tuple (by decide +kernel) rfl) pa_nil))) (nomark _)) (pss_one (ps_ret pe_bl)) pss_nil)
 (pss_cons (ps_if (PW.pt (pw_or (pt_cmpR op_ne (pe_callB (kx_isi (K := K) rfl) (by rfl) T.isinstance (by decide +kernel) (pa_cons (pv 0) (pa_cons (pe_bltn (v := .ty "list") (by rfl) T.list (by decide +kernel) rfl) pa_nil))) (pe_callB (kx_isi (K := K) rfl) (by rfl) T.isinstance (by decide +kernel) (pa_cons (pv 1) (pa_cons (pe_bltn (v := .ty "list") (by rfl) T.list (by decide +kernel) rfl) pa_nil))) (nomark _)) (pw_or1 (pt_cmpR op_ne (pe_callB (kx_len (K := K) rfl) (by rfl) T.len PySem.boot_len (pa_cons (pv 0) pa_nil)) (pe_callB (kx_len (K := K) rfl) (by rfl) T.len PySem.boot_len (pa_cons (pv 1) pa_nil)) (nomark _))))) (pss_one (ps_ret pe_bl)) pss_nil)
 (pss_cons (ps_for PassesOwn.never rfl (pi_range1 rfl T.range (pa_cons (pe_callB (kx_len (K := K) rfl) (by rfl) T.len PySem.boot_len (pa_cons (pv 1) pa_nil)) pa_nil)) (pg_name (i := 2) sc__law_same.nd rfl (Or.inl rfl)) (pss_one (ps_if (pt_not (pt_val (pe_call ih hr (by rfl) T.g__law_same T.F__law_same.kp T.b__law_same .nil pass0 (pa_cons (pe_ix (kx_seq (K := K) rfl) (pv 0) (pv 2) (fun _ _ => rfl)) (pa_cons (pe_ix (kx_seq (K := K) rfl) (pv 1) (pv 2) (fun _ _ => rfl)) pa_nil))))) (pss_one (ps_ret pe_bl)) pss_nil)))
 (pss_one (ps_ret pe_bl))))) pss_nil)
 (pss_cons (ps_if (PW.pt (pw_or (pt_cmpR op_isN (pv 1) pe_non (nomark _)) (pw_or1 (pt_cmpR op_isN (pv 0) pe_non (nomark _))))) (pss_one (ps_ret (pe_and (pe_cmpR op_isN (pv 1) pe_non (nomark _)) (pe_one (pe_cmpR op_isN (pv 0) pe_non (nomark _)))))) pss_nil)
 (pss_cons (ps_if (pt_cmpR op_ne (pe_callB (kx_isi (K := K) rfl) (by rfl) T.isinstance (by decide +kernel) (pa_cons (pv 0) (pa_cons (pe_bltn (v := .ty "bool") (by rfl) T.bool (by decide +kernel) rfl) pa_nil))) (pe_callB (kx_isi (K := K) rfl) (by rfl) T.isinstance (by decide +kernel) (pa_cons (pv 1) (pa_cons (pe_bltn (v := .ty "bool") (by rfl) T.bool (by decide +kernel) rfl) pa_nil))) (nomark _)) (pss_one (ps_ret pe_bl)) pss_nil)
 (pss_cons (ps_if (PW.pt (pw_or (pt_cmpR op_ne (pe_callB (kx_isi (K := K) rfl) (by rfl) T.isinstance (by decide +kernel) (pa_cons (pv 0) (pa_cons (pe_bltn (v := .ty "int") (by rfl) T.int (by decide +kernel) rfl) pa_nil))) (pe_callB (kx_isi (K := K) rfl) (by rfl) T.isinstance (by decide +kernel) (pa_cons (pv 1) (pa_cons (pe_bltn (v := .ty "int") (by rfl) T.int (by decide +kernel) rfl) pa_nil))) (nomark _)) (pw_or1 (pt_cmpR op_ne (pe_callB (kx_isi (K := K) rfl) (by rfl) T.isinstance (by decide +kernel) (pa_cons (pv 0) (pa_cons (pe_bltn (v := .ty "str") (by rfl) T.str (by decide +kernel) rfl) pa_nil))) (pe_callB (kx_isi (K := K) rfl) (by rfl) T.isinstance (by decide +kernel) (pa_cons (pv 1) (pa_cons (pe_bltn (v := .ty "str") (by rfl) T.str (by decide +kernel) rfl) pa_nil))) (nomark _))))) (pss_one (ps_ret pe_bl)) pss_nil)
 (pss_one (ps_ret (pe_cmpR op_eq (pv 0) (pv 1) (nomark _)))))))), _, fun ex He Hf => (sms_seq (sms_if (smt_or (smt_b (f1 := false) (sm_isi (f1 := false) "tuple" (sm_var 1))) (smt_b (f1 := false) (sm_isi (f1 := false) "list" (sm_var 1))))
 (sms_seq (sms_if (smt_t (f1 := false) (sm_op (f1 := false) (f2 := false) opd_ne (sm_isi (f1 := false) "tuple" (sm_var 0)) (sm_isi (f1 := false) "tuple" (sm_var 1))))
 (sms_ret (sm_bl _))
 sms_next)
 (sms_seq (sms_if (smt_or (smt_t (f1 := false) (sm_op (f1 := false) (f2 := false) opd_ne (sm_isi (f1 := false) "list" (sm_var 0)) (sm_isi (f1 := false) "list" (sm_var 1)))) (smt_t (f1 := false) (sm_op (f1 := false) (f2 := false) opd_ne (sm_cb (f1 := false) cbd_len (sma_cons (sm_var 0) sma_nil)) (sm_cb (f1 := false) cbd_len (sma_cons (sm_var 1) sma_nil)))))
 (sms_ret (sm_bl _))
 sms_next)
 (sms_seq (sms_for (smi_rng1 (f1 := false) (sm_cb (f1 := false) cbd_len (sma_cons (sm_var 1) sma_nil))) (smg_name 2)
 (sms_if (smt_not (smt_b (f1 := false) (sm_call len__law_same (smq_cons (sm_ix (f2 := false) (sm_var 0) (sm_var 2)) (smq_cons (sm_ix (f2 := false) (sm_var 1) (sm_var 2)) smq_nil)))))
 (sms_ret (sm_bl _))
 sms_next))
 (sms_ret (sm_bl _)))))
 sms_next)
 (sms_seq (sms_if (smt_or (smt_t (f1 := false) (sm_op (f1 := false) (f2 := false) opd_isN (sm_var 1) sm_non)) (smt_t (f1 := false) (sm_op (f1 := false) (f2 := false) opd_isN (sm_var 0) sm_non)))
 (sms_ret (sm_and (f1 := false) (sm_op (f1 := false) (f2 := false) opd_isN (sm_var 1) sm_non) (sm_op (f1 := false) (f2 := false) opd_isN (sm_var 0) sm_non)))
 sms_next)
 (sms_seq (sms_if (smt_t (f1 := false) (sm_op (f1 := false) (f2 := false) opd_ne (sm_isi (f1 := false) "bool" (sm_var 0)) (sm_isi (f1 := false) "bool" (sm_var 1))))
 (sms_ret (sm_bl _))
 sms_next)
 (sms_seq (sms_if (smt_or (smt_t (f1 := false) (sm_op (f1 := false) (f2 := false) opd_ne (sm_isi (f1 := false) "int" (sm_var 0)) (sm_isi (f1 := false) "int" (sm_var 1)))) (smt_t (f1 := false) (sm_op (f1 := false) (f2 := false) opd_ne (sm_isi (f1 := false) "str" (sm_var 0)) (sm_isi (f1 := false) "str" (sm_var 1)))))
 (sms_ret (sm_bl _))
 sms_next)
 (sms_ret (sm_op (f1 := false) (f2 := false) opd_eq (sm_var 0) (sm_var 1))))))), ?_⟩
    rintro rs Φ ⟨x, rfl, ⟨m, hm, hx⟩, h⟩
    cases hx with
    | none => simpa [tyD] using h
    | bool b => simpa [tyD] using h
    | int i => simpa [tyD] using h
    | str t => simpa [tyD] using h
    | @list m xs hx hl =>
      simp [tyD]
      simp only [dFor, iR1]
      simp
      refine ⟨by omega, fun _ δ => ∃ y, δ = [some (.d (.list xs)), some (.d (.list xs)), y], ⟨_, rfl⟩, fun k z δ hk hI => ?_, fun δ hI => ?_⟩
      · obtain ⟨y, rfl⟩ := hI
        obtain ⟨hk', rfl⟩ := rng_get hk
        have hk2 : k < xs.length := hk'
        have ha : atI xs (k : Int) = some xs[k] := atI_nat (List.getElem?_eq_getElem hk2)
        simp
        refine ⟨_, ha, _, ha, xs[k], rfl, ⟨m, by omega, hx _ (List.getElem_mem _)⟩, ?_⟩
        simp
      · obtain ⟨y, rfl⟩ := hI
        simpa using h
    | @tuple m xs hx hl =>
      simp [tyD]
      simp only [dFor, iR1]
      simp
      refine ⟨by omega, fun _ δ => ∃ y, δ = [some (.d (.tuple xs)), some (.d (.tuple xs)), y], ⟨_, rfl⟩, fun k z δ hk hI => ?_, fun δ hI => ?_⟩
      · obtain ⟨y, rfl⟩ := hI
        obtain ⟨hk', rfl⟩ := rng_get hk
        have hk2 : k < xs.length := hk'
        have ha : atI xs (k : Int) = some xs[k] := atI_nat (List.getElem?_eq_getElem hk2)
        simp
        refine ⟨_, ha, _, ha, xs[k], rfl, ⟨m, by omega, hx _ (List.getElem_mem _)⟩, ?_⟩
        simp
      · obtain ⟨y, rfl⟩ := hI
        simpa using h
theorem G__law_same (T : Txt K mg) : FnOk P w K mg base CX0 13 T.f__law_same T.fd__law_same ["actual", "expected"] (toSp K 2 (vp__law_same 12)) := same_at T


/-! ### records as data -/
inductive Opd where
  | int (k : Str) (v : Int) | nul | nam (n : Int) | glo (s : Str)
def Opd.D : Opd → PyData
  | .int k v => .tuple [.str "int", .str k, .int v]
  | .nul => .tuple [.str "null"]
  | .nam n => .tuple [.str "name", .int n]
  | .glo s => .tuple [.str "global", .str s]
def ik : List Str := ["i1", "i8", "i16", "i32", "i64"]
def pk : List Str := ["i1", "i8", "i16", "i32", "i64", "ptr"]
def vk : List Str := ["i1", "i8", "i16", "i32", "i64", "ptr", "void"]
def gls : List Str := ["g", "h2", "zero_", "a"]
def wds : List Int := [1, 8, 16, 32, 64]
def wdOf (k : Str) : Nat := if k = "i1" then 1 else if k = "i8" then 8 else if k = "i16" then 16 else if k = "i32" then 32 else 64
def Opd.ok (span : Int) : Opd → Prop
  | .int k v => k ∈ ik ∧ 0 ≤ v ∧ v < 2 ^ wdOf k
  | .nul => True
  | .nam n => 0 ≤ n ∧ n < span
  | .glo s => s ∈ gls
inductive Dat where
  | non | num (ns : List Int) | wrd (s : Str)
def Dat.D : Dat → List PyData
  | .non => []
  | .num ns => ns.map .int
  | .wrd s => [.str s]
structure Ins where
  nm : Int
  op : Str
  kd : Str
  os : List Opd
  dt : Dat
  pl : Int
def Ins.D (i : Ins) : PyData := .tuple [.int i.nm, .str i.op, .str i.kd, .tuple (i.os.map Opd.D), .tuple i.dt.D, .int i.pl]
structure Edg where
  lb : Int
  as : List Opd
def Edg.D (e : Edg) : PyData := .tuple [.int e.lb, .tuple (e.as.map Opd.D)]
inductive End where
  | br (e : Edg) | con (o : Opd) (e f : Edg) | sw (o : Opd) (cs : List (Int × Edg)) (d : Edg) | retN | ret (o : Opd) | stop (n : Int)
def caseD (c : Int × Edg) : PyData := .tuple [.int c.1, c.2.D]
def End.D : End → PyData
  | .br e => .tuple [.str "br", e.D]
  | .con o e f => .tuple [.str "condbr", o.D, e.D, f.D]
  | .sw o cs d => .tuple [.str "switch", o.D, .tuple (cs.map caseD), d.D]
  | .retN => .tuple [.str "ret", .none]
  | .ret o => .tuple [.str "ret", o.D]
  | .stop n => .tuple [.str "stop", .int n]
structure Blk where
  lb : Int
  ps : List (Int × Str)
  bd : List Ins
  en : End
def parD (p : Int × Str) : PyData := .tuple [.int p.1, .str p.2]
def Blk.D (b : Blk) : PyData := .tuple [.int b.lb, .tuple (b.ps.map parD), .tuple (b.bd.map Ins.D), b.en.D]
structure Fn where
  nm : Str
  kd : Str
  il : Bool
  bs : List Blk
def Fn.D (f : Fn) : PyData := .tuple [.str f.nm, .str f.kd, .bool f.il, .tuple (f.bs.map Blk.D)]

theorem atI_in {α : Type} {xs : List α} {i : Int} (h0 : 0 ≤ i) (h1 : i < xs.length) : ∃ z ∈ xs, atI xs i = some z := by
  obtain ⟨j, rfl⟩ : ∃ j : Nat, i = (j : Int) := ⟨i.toNat, by omega⟩
  have hj : j < xs.length := by omega
  exact ⟨xs[j], List.getElem_mem _, atI_nat (List.getElem?_eq_getElem hj)⟩
theorem fz2 {n : Nat} (h : n ≤ 100000) : n ≤ sizeLine := Nat.le_trans h (by decide)
theorem pow2_pos (n : Nat) : (0 : Int) < 2 ^ n := PySem.W.kbt_pos n
theorem sl5 : (5 : Nat) ≤ sizeLine := by decide
theorem sl5' {n : Nat} (h : n ≤ 100000) : n ≤ sizeLine := Nat.le_trans h (by decide)
theorem cpw {n : Nat} (h : n ≤ 64) : CPow 1 (n : Int) := ⟨by omega, by omega, by decide⟩
theorem kw_at {i : Int} (h0 : 0 ≤ i) (h1 : i < 5) : ∃ (k : Str) (n : Nat), atI [PyData.str "i1", .str "i8", .str "i16", .str "i32", .str "i64"] i = some (.str k) ∧ atI [PyData.int 1, .int 8, .int 16, .int 32, .int 64] i = some (.int n) ∧ k ∈ ik ∧ wdOf k = n ∧ 1 ≤ n ∧ n ≤ 64 := by
  have : i = 0 ∨ i = 1 ∨ i = 2 ∨ i = 3 ∨ i = 4 := by omega
  rcases this with rfl | rfl | rfl | rfl | rfl
  · exact ⟨"i1", 1, by simp, by simp, by simp [ik], by simp [wdOf], by decide, by decide⟩
  · exact ⟨"i8", 8, by simp, by simp, by simp [ik], by simp [wdOf], by decide, by decide⟩
  · exact ⟨"i16", 16, by simp, by simp, by simp [ik], by simp [wdOf], by decide, by decide⟩
  · exact ⟨"i32", 32, by simp, by simp, by simp [ik], by simp [wdOf], by decide, by decide⟩
  · exact ⟨"i64", 64, by simp, by simp, by simp [ik], by simp [wdOf], by decide, by decide⟩
theorem pick {xs : List Str} {i : Int} (h0 : 0 ≤ i) (h1 : i < xs.length) : ∃ z, atI (xs.map PyData.str) i = some (.str z) ∧ z ∈ xs := by
  obtain ⟨z, hz, e⟩ := atI_in (xs := xs.map PyData.str) h0 (by rw [List.length_map]; exact h1)
  obtain ⟨g, hg, rfl⟩ := List.mem_map.mp hz
  exact ⟨g, e, hg⟩
theorem row_at {row : List Int} (h : Row row) {i : Int} (h0 : 0 ≤ i) (h1 : i < row.length) : ∃ x : Int, atI (row.map PyData.int) i = some (.int x) ∧ 0 ≤ x ∧ x < 1000000000000000000 := by
  obtain ⟨z, hz, e⟩ := atI_in (xs := row.map PyData.int) h0 (by rw [List.length_map]; exact h1)
  obtain ⟨x, hx, rfl⟩ := List.mem_map.mp hz
  exact ⟨x, e, h x hx⟩
theorem ok_snoc {α : Type} {Q : α → Prop} {xs : List α} {p : α} (h : ∀ x ∈ xs, Q x) (hp : Q p) : ∀ x ∈ xs ++ [p], Q x := fun q hq => by
  rcases List.mem_append.mp hq with hq | hq
  · exact h q hq
  · rw [List.mem_singleton.mp hq]; exact hp
theorem okS {s : Str} {l : List Str} {n : Nat} (h : s ∈ l) (hl : (l.all fun s => PyData.canLay0 (.str s)) = true) : Okd n (.str s) := .str (List.all_eq_true.mp hl s h)
theorem okT {n : Nat} {xs : List PyData} (hl : xs.length ≤ 1000) (h : ∀ y ∈ xs, Okd n y) : Okd (n + 1) (.tuple xs) := .tuple h (by omega)
theorem al0 {p : PyData → Prop} : ∀ y ∈ ([] : List PyData), p y := fun _ h => nomatch h
theorem alc {p : PyData → Prop} {a : PyData} {l : List PyData} (h : p a) (k : ∀ y ∈ l, p y) : ∀ y ∈ a :: l, p y := List.forall_mem_cons.mpr ⟨h, k⟩
theorem alm {α : Type} {p : PyData → Prop} {f : α → PyData} {xs : List α} (h : ∀ x ∈ xs, p (f x)) : ∀ y ∈ xs.map f, p y := fun y hy => by
  obtain ⟨x, hx, rfl⟩ := List.mem_map.mp hy
  exact h x hx
theorem okW {n : Nat} {s : Str} (h : PyData.canLay0 (.str s) = true) : Okd n (.str s) := .str h
def vp__law_operand : VSp := fun rs Φ => ∃ a b : Int, rs = [.d (.int a), .d (.int b)] ∧ 0 ≤ a ∧ 0 ≤ b ∧ ∀ o : Opd, o.ok 1000 → Φ (.d o.D)
theorem len__law_operand : ∀ rs Φ, vp__law_operand rs Φ → rs.length = 2 := fun rs Φ ⟨_, _, e, _⟩ => by rw [e]; rfl
theorem G__law_operand (T : Txt K mg) : FnOk P w K mg base CX0 1 T.f__law_operand T.fd__law_operand ["first", "second"] (toSp K 2 vp__law_operand) := by
  refine fn_ok T.F__law_operand sc__law_operand fun cdv A outer s H E hr => ⟨_, (pss_cons (ps_set (i := 2) sc__law_operand.nd rfl (Or.inl rfl) (pe_lst (pa_cons pe_str (pa_cons pe_str (pa_cons pe_str (pa_cons pe_str (pa_cons pe_str pa_nil)))))))
 (pss_cons (ps_set (i := 3) sc__law_operand.nd rfl (Or.inl rfl) (pe_lst (pa_cons pe_int (pa_cons pe_int (pa_cons pe_int (pa_cons pe_int (pa_cons pe_int pa_nil)))))))
 (pss_cons (ps_set (i := 4) sc__law_operand.nd rfl (Or.inl rfl) (pe_op op_mod (pv 0) pe_int))
 (pss_cons (ps_if (pt_cmpR op_lt (pv 4) pe_int (nomark _)) (pss_one (ps_ret (pe_tup (pa_cons pe_str (pa_cons (pe_op op_mod (pv 1) pe_int) pa_nil))))) pss_nil)
 (pss_cons (ps_if (pt_cmpR op_eq (pv 4) pe_int (nomark _)) (pss_one (ps_ret (pe_tup (pa_cons pe_str pa_nil)))) pss_nil)
 (pss_cons (ps_if (pt_cmpR op_eq (pv 4) pe_int (nomark _)) (pss_one (ps_ret (pe_tup (pa_cons pe_str (pa_cons (pe_ix (kx_seq (K := K) rfl) (pe_lst (pa_cons pe_str (pa_cons pe_str (pa_cons pe_str (pa_cons pe_str pa_nil))))) (pe_op op_mod (pv 1) pe_int) (fun _ _ => rfl)) pa_nil))))) pss_nil)
 (pss_cons (ps_set (i := 5) sc__law_operand.nd rfl (Or.inl rfl) (pe_op op_mod (pe_op op_fdivW (pv 0) pe_int) pe_int))
 (pss_cons (ps_set (i := 6) sc__law_operand.nd rfl (Or.inl rfl) (pv 1))
 (pss_cons (ps_if (pt_cmpR op_eq (pv 4) pe_int (nomark _)) (pss_one (ps_set (i := 6) sc__law_operand.nd rfl (Or.inl rfl) (pe_op op_sub (pe_op op_sub (pe_op op_pow pe_int pe_int) pe_int) (pv 1)))) pss_nil)
 (pss_one (ps_ret (pe_tup (pa_cons pe_str (pa_cons (pe_ix (kx_seq (K := K) rfl) (pv 2) (pv 5) (fun _ _ => rfl)) (pa_cons (pe_op op_mod (pv 6) (pe_op op_shl pe_int (pe_ix (kx_seq (K := K) rfl) (pv 3) (pv 5) (fun _ _ => rfl)))) pa_nil))))))))))))))), _, fun ex He Hf => (sms_seq (sms_asg (SmO.sm (smo_lst (sma_cons (sm_str _) (sma_cons (sm_str _) (sma_cons (sm_str _) (sma_cons (sm_str _) (sma_cons (sm_str _) sma_nil))))))) (smg_name 2))
 (sms_seq (sms_asg (SmO.sm (smo_lst (sma_cons (sm_int _) (sma_cons (sm_int _) (sma_cons (sm_int _) (sma_cons (sm_int _) (sma_cons (sm_int _) sma_nil))))))) (smg_name 3))
 (sms_seq (sms_asg (sm_op (f1 := false) (f2 := false) (opd_I (g' := fun i j => .int (i % j)) fun _ _ => rfl) (sm_var 0) (sm_int _)) (smg_name 4))
 (sms_seq (sms_if (smt_t (f1 := false) (sm_op (f1 := false) (f2 := false) (opd_I0 (g' := fun i j => .bool (decide (i < j))) fun _ _ => rfl) (sm_var 4) (sm_int _)))
 (sms_ret (sm_tup (sma_cons (sm_str _) (sma_cons (sm_op (f1 := false) (f2 := false) (opd_I (g' := fun i j => .int (i % j)) fun _ _ => rfl) (sm_var 1) (sm_int _)) sma_nil))))
 sms_next)
 (sms_seq (sms_if (smt_t (f1 := false) (sm_op (f1 := false) (f2 := false) opd_eq (sm_var 4) (sm_int _)))
 (sms_ret (sm_tup (sma_cons (sm_str _) sma_nil)))
 sms_next)
 (sms_seq (sms_if (smt_t (f1 := false) (sm_op (f1 := false) (f2 := false) opd_eq (sm_var 4) (sm_int _)))
 (sms_ret (sm_tup (sma_cons (sm_str _) (sma_cons (sm_ix (f2 := false) (SmO.sm (smo_lst (sma_cons (sm_str _) (sma_cons (sm_str _) (sma_cons (sm_str _) (sma_cons (sm_str _) sma_nil)))))) (sm_op (f1 := false) (f2 := false) (opd_I (g' := fun i j => .int (i % j)) fun _ _ => rfl) (sm_var 1) (sm_int _))) sma_nil))))
 sms_next)
 (sms_seq (sms_asg (sm_op (f1 := false) (f2 := false) (opd_I (g' := fun i j => .int (i % j)) fun _ _ => rfl) (sm_op (f1 := false) (f2 := false) (opd_I (g' := fun i j => .int (i / j)) fun _ _ => rfl) (sm_var 0) (sm_int _)) (sm_int _)) (smg_name 5))
 (sms_seq (sms_asg (sm_var 1) (smg_name 6))
 (sms_seq (sms_if (smt_t (f1 := false) (sm_op (f1 := false) (f2 := false) opd_eq (sm_var 4) (sm_int _)))
 (sms_asg (sm_op (f1 := false) (f2 := false) (opd_I0 (g' := fun i j => .int (i - j)) fun _ _ => rfl) (sm_op (f1 := false) (f2 := false) (opd_I0 (g' := fun i j => .int (i - j)) fun _ _ => rfl) (sm_op (f1 := false) (f2 := false) (opd_I (g' := fun i j => .int (i ^ j.toNat)) fun _ _ => rfl) (sm_int _) (sm_int _)) (sm_int _)) (sm_var 1)) (smg_name 6))
 sms_next)
 (sms_ret (sm_tup (sma_cons (sm_str _) (sma_cons (sm_ix (f2 := false) (sm_var 2) (sm_var 5)) (sma_cons (sm_op (f1 := false) (f2 := false) (opd_I (g' := fun i j => .int (i % j)) fun _ _ => rfl) (sm_var 6) (sm_op (f1 := false) (f2 := false) (opd_I (g' := fun i j => .int (i * 2 ^ j.toNat)) fun _ _ => rfl) (sm_int _) (sm_ix (f2 := false) (sm_var 3) (sm_var 5)))) sma_nil)))))))))))))), ?_⟩
  rintro rs Φ ⟨a, b, rfl, ha, hb, h⟩
  have ov : ∀ (k : Str) (n : Nat) (v : Int), k ∈ ik → wdOf k = n → Φ (.d (.tuple [.str "int", .str k, .int (v % 2 ^ n)])) := fun k n v hk hn =>
    h (.int k (v % 2 ^ n)) ⟨hk, Int.emod_nonneg _ (Int.ne_of_gt (pow2_pos n)), by rw [hn]; exact Int.emod_lt_of_pos _ (pow2_pos n)⟩
  simp
  refine ⟨sl5, ?_⟩
  split
  · exact ⟨sl5' (by decide), h (.nam (b % 1000)) ⟨by omega, by omega⟩⟩
  split
  · exact ⟨sl5' (by decide), h .nul trivial⟩
  split
  · refine ⟨sl5' (by decide), ?_⟩
    obtain ⟨z, hz, e⟩ := atI_in (xs := gls.map PyData.str) (i := b % 4) (by omega) (by show b % 4 < 4; omega)
    obtain ⟨g, hg, rfl⟩ := List.mem_map.mp hz
    exact ⟨_, e, sl5' (by decide), h (.glo g) hg⟩
  obtain ⟨k, n, e1, e2, hk, hn, n1, n2⟩ := kw_at (i := a / 8 % 5) (by omega) (by omega)
  refine ⟨⟨by decide, by decide⟩, ?_⟩
  split
  · exact ⟨⟨by decide, by decide, by decide⟩, _, e1, _, e2, n, rfl, cpw n2, pow2_pos n, sl5' (by decide), ov k n _ hk hn⟩
  · exact ⟨_, e1, _, e2, n, rfl, cpw n2, pow2_pos n, sl5' (by decide), ov k n _ hk hn⟩

/-! ### operands of the law -/
theorem al0' {α : Type} {p : α → Prop} : ∀ y ∈ ([] : List α), p y := fun _ h => nomatch h
def Opd.good : Opd → Prop
  | .int k _ => k ∈ ik
  | .nul => True
  | .nam _ => True
  | .glo s => s ∈ (["g", "h2", "zero_", "a", "n"] : List Str)
theorem Opd.ok.good {o : Opd} {n : Int} (h : o.ok n) : o.good := by
  cases o with
  | int k v => exact h.1
  | nul => trivial
  | nam n => trivial
  | glo s =>
    have s1 : ∀ s ∈ gls, s ∈ (["g", "h2", "zero_", "a", "n"] : List Str) := by decide +kernel
    exact s1 s h
theorem Opd.good.okd {o : Opd} (h : o.good) : Okd 1 o.D := by
  cases o with
  | int k v => exact okT (by simp) (alc (okW (by decide +kernel)) (alc (okS (show k ∈ ik from h) (by decide +kernel)) (alc (.int _) al0)))
  | nul => exact okT (by simp) (alc (okW (by decide +kernel)) al0)
  | nam n => exact okT (by simp) (alc (okW (by decide +kernel)) (alc (.int _) al0))
  | glo s => exact okT (by simp) (alc (okW (by decide +kernel)) (alc (okS h (by decide +kernel)) al0))
/-! ### ends -/
def End.es : End → List Edg
  | .br e => [e]
  | .con _ e f => [e, f]
  | .sw _ cs d => cs.map (·.2) ++ [d]
  | .retN => []
  | .ret _ => []
  | .stop _ => []
def End.os : End → List Opd
  | .con o _ _ => [o]
  | .sw o _ _ => [o]
  | .ret o => [o]
  | _ => []
def esOps (es : List Edg) : List Opd := es.flatMap (·.as)
def Edg.good (e : Edg) : Prop := e.as.length ≤ 3 ∧ ∀ o ∈ e.as, o.good
def vp_edges : VSp := fun rs Φ => ∃ e : End, rs = [.d e.D] ∧ e.es.length ≤ 1000 ∧ Φ (.own (e.es.map Edg.D))
theorem len_edges : ∀ rs Φ, vp_edges rs Φ → rs.length = 1 := fun rs Φ ⟨_, e, _⟩ => by rw [e]; rfl
theorem G_edges (T : Txt K mg) : FnOk P w K mg base CX0 1 T.f_edges T.fd_edges ["end"] (toSp K 1 vp_edges) := by
  refine fn_ok T.F_edges sc_edges fun cdv A outer s H E hr => ⟨_, (pss_cons (ps_if (pt_cmpR op_eq (pe_ix (kx_seq (K := K) rfl) (pv 0) pe_int (fun _ _ => rfl)) pe_str (nomark _)) (pss_one (ps_ret (pe_lst (pa_cons (pe_ix (kx_seq (K := K) rfl) (pv 0) pe_int (fun _ _ => rfl)) pa_nil)))) pss_nil)
 (pss_cons (ps_if (pt_cmpR op_eq (pe_ix (kx_seq (K := K) rfl) (pv 0) pe_int (fun _ _ => rfl)) pe_str (nomark _)) (pss_one (ps_ret (pe_lst (pa_cons (pe_ix (kx_seq (K := K) rfl) (pv 0) pe_int (fun _ _ => rfl)) (pa_cons (pe_ix (kx_seq (K := K) rfl) (pv 0) pe_int (fun _ _ => rfl)) pa_nil))))) pss_nil)
 (pss_cons (ps_if (pt_cmpR op_eq (pe_ix (kx_seq (K := K) rfl) (pv 0) pe_int (fun _ _ => rfl)) pe_str (nomark _)) (pss_one (ps_ret (pe_op op_cat (pe_lc (own := [("case", 1)]) (g := gName 1) (tt := tYes) rfl sc_edges.nd ((kpi_tup (K := K) rfl (pe_ix (kx_seq (K := K) rfl) (pv 0) pe_int (fun _ _ => rfl)))) (blkOk_by (N := ["end", "case"]) (sc := defScope sedges) (by decide +kernel)) (fun _ _ _ _ _ => pg_name (i := 1) sc_edges.nd rfl (Or.inl rfl)) (fun _ _ _ _ _ => pts_nil) (fun _ _ _ _ _ => (pe_ix (kx_seq (K := K) rfl) (pv 1) pe_int (fun _ _ => rfl)))) (pe_lst (pa_cons (pe_ix (kx_seq (K := K) rfl) (pv 0) pe_int (fun _ _ => rfl)) pa_nil))))) pss_nil)
 (pss_one (ps_ret (pe_lst pa_nil)))))), _, fun ex He Hf => (sms_seq (sms_if (smt_t (f1 := false) (sm_op (f1 := false) (f2 := false) opd_eq (sm_ix (f2 := false) (sm_var 0) (sm_int _)) (sm_str _)))
 (sms_retNew (smo_lst (sma_cons (sm_ix (f2 := false) (sm_var 0) (sm_int _)) sma_nil)))
 sms_next)
 (sms_seq (sms_if (smt_t (f1 := false) (sm_op (f1 := false) (f2 := false) opd_eq (sm_ix (f2 := false) (sm_var 0) (sm_int _)) (sm_str _)))
 (sms_retNew (smo_lst (sma_cons (sm_ix (f2 := false) (sm_var 0) (sm_int _)) (sma_cons (sm_ix (f2 := false) (sm_var 0) (sm_int _)) sma_nil))))
 sms_next)
 (sms_seq (sms_if (smt_t (f1 := false) (sm_op (f1 := false) (f2 := false) opd_eq (sm_ix (f2 := false) (sm_var 0) (sm_int _)) (sm_str _)))
 (sms_retNew (smo_cat (SmO.sm (smo_lc (i := 1) (smi_tup (sm_ix (f2 := false) (sm_var 0) (sm_int _))) smt_yes (sm_ix (f2 := false) (sm_var 1) (sm_int _)))) (SmO.sm (smo_lst (sma_cons (sm_ix (f2 := false) (sm_var 0) (sm_int _)) sma_nil)))))
 sms_next)
 (sms_retNew (smo_lst sma_nil))))), ?_⟩
  rintro rs Φ ⟨e, rfl, hl, h⟩
  cases e with
  | sw o cs d =>
    simp [End.es] at hl
    simp [End.D, le_size, lt_size, cmul_l, cpow_l, cdiv_l]
    refine oLc_of cs caseD (fun c => c.2.D) (by omega) (fun Ψ hΨ => by simpa using hΨ) (fun k c Ψ hc hΨ => ?_) ?_
    · simpa [caseD] using hΨ
    · simp [End.es] at h
      simp
      exact ⟨fz2 (by omega), h⟩
  | _ => simpa [End.D, End.es, le_size, lt_size, cmul_l, cpow_l, cdiv_l] using h

/-! ### the law's ends -/
def Edg.in (e : Edg) : Prop := e.as.length ≤ 3 ∧ (∀ o ∈ e.as, o.ok 1000) ∧ 0 ≤ e.lb ∧ e.lb < 1000
theorem Edg.in.good {e : Edg} (h : e.in) : e.good := ⟨h.1, fun o ho => (h.2.1 o ho).good⟩
def vp__law_edges : VSp := fun rs Φ => ∃ (row : List Int) (a n : Nat), rs = [.d (.list (row.map .int)), .d (.int a), .d (.int n)] ∧ Row row ∧ a + 8 * n ≤ row.length ∧ n ≤ 1000 ∧ ∀ es : List Edg, es.length = n → (∀ e ∈ es, e.in) → Φ (.own (es.map Edg.D))
theorem len__law_edges : ∀ rs Φ, vp__law_edges rs Φ → rs.length = 3 := fun rs Φ ⟨_, _, _, e, _⟩ => by rw [e]; rfl
theorem G__law_edges (T : Txt K mg) : FnOk P w K mg base CX0 2 T.f__law_edges T.fd__law_edges ["row", "at", "count"] (toSp K 3 vp__law_edges) := by
  refine fn_ok T.F__law_edges sc__law_edges fun cdv A outer s H E hr => ⟨_, (pss_cons (ps_set (i := 3) sc__law_edges.nd rfl (Or.inl rfl) (pe_lst pa_nil))
 (pss_cons (ps_for PassesOwn.never rfl (pi_range1 rfl T.range (pa_cons (pv 2) pa_nil)) (pg_name (i := 4) sc__law_edges.nd rfl (Or.inl rfl)) (pss_cons (ps_set (i := 5) sc__law_edges.nd rfl (Or.inl rfl) (pe_lst pa_nil))
 (pss_cons (ps_for PassesOwn.never rfl (pi_range1 rfl T.range (pa_cons (pe_op op_mod (pe_ix (kx_seq (K := K) rfl) (pv 0) (pe_op op_add (pv 1) (pe_op op_mul (pv 4) pe_int)) (fun _ _ => rfl)) pe_int) pa_nil)) (pg_name (i := 6) sc__law_edges.nd rfl (Or.inl rfl)) (pss_one (ps_expr (pe_bm PySem.F.plainAttrs_list PySem.F.slot_list_append PySem.F.type_list_append mt_append (pv 5) (pa_cons (pe_call (G__law_operand T) hr (by rfl) T.g__law_operand T.F__law_operand.kp T.b__law_operand .nil pass0 (pa_cons (pe_ix (kx_seq (K := K) rfl) (pv 0) (pe_op op_add (pe_op op_add (pe_op op_add (pv 1) (pe_op op_mul (pv 4) pe_int)) (pe_op op_mul pe_int (pv 6))) pe_int) (fun _ _ => rfl)) (pa_cons (pe_ix (kx_seq (K := K) rfl) (pv 0) (pe_op op_add (pe_op op_add (pe_op op_add (pv 1) (pe_op op_mul (pv 4) pe_int)) (pe_op op_mul pe_int (pv 6))) pe_int) (fun _ _ => rfl)) pa_nil))) pa_nil)))))
 (pss_one (ps_expr (pe_bm PySem.F.plainAttrs_list PySem.F.slot_list_append PySem.F.type_list_append mt_append (pv 3) (pa_cons (pe_tup (pa_cons (pe_op op_mod (pe_ix (kx_seq (K := K) rfl) (pv 0) (pe_op op_add (pe_op op_add (pv 1) (pe_op op_mul (pv 4) pe_int)) pe_int) (fun _ _ => rfl)) pe_int) (pa_cons (pe_callTy (kx_tuple (K := K) rfl) (by rfl) T.tuple (by decide +kernel) (pa_cons (pv 5) pa_nil)) pa_nil))) pa_nil)))))))
 (pss_one (ps_ret (pv 3))))), _, fun ex He Hf => (sms_seq (sms_setO 3 (smo_lst sma_nil))
 (sms_seq (sms_for (smi_rng1 (f1 := false) (sm_var 2)) (smg_name 4)
 (sms_seq (sms_setO 5 (smo_lst sma_nil))
 (sms_seq (sms_for (smi_rng1 (f1 := false) (sm_op (f1 := false) (f2 := false) (opd_I (g' := fun i j => .int (i % j)) fun _ _ => rfl) (sm_ix (f2 := false) (sm_var 0) (sm_op (f1 := false) (f2 := false) (opd_I0 (g' := fun i j => .int (i + j)) fun _ _ => rfl) (sm_var 1) (sm_op (f1 := false) (f2 := false) (opd_I (g' := fun i j => .int (i * j)) fun _ _ => rfl) (sm_var 4) (sm_int _)))) (sm_int _))) (smg_name 6)
 (sms_app 5 (sm_call len__law_operand (smq_cons (sm_ix (f2 := false) (sm_var 0) (sm_op (f1 := false) (f2 := false) (opd_I0 (g' := fun i j => .int (i + j)) fun _ _ => rfl) (sm_op (f1 := false) (f2 := false) (opd_I0 (g' := fun i j => .int (i + j)) fun _ _ => rfl) (sm_op (f1 := false) (f2 := false) (opd_I0 (g' := fun i j => .int (i + j)) fun _ _ => rfl) (sm_var 1) (sm_op (f1 := false) (f2 := false) (opd_I (g' := fun i j => .int (i * j)) fun _ _ => rfl) (sm_var 4) (sm_int _))) (sm_op (f1 := false) (f2 := false) (opd_I (g' := fun i j => .int (i * j)) fun _ _ => rfl) (sm_int _) (sm_var 6))) (sm_int _))) (smq_cons (sm_ix (f2 := false) (sm_var 0) (sm_op (f1 := false) (f2 := false) (opd_I0 (g' := fun i j => .int (i + j)) fun _ _ => rfl) (sm_op (f1 := false) (f2 := false) (opd_I0 (g' := fun i j => .int (i + j)) fun _ _ => rfl) (sm_op (f1 := false) (f2 := false) (opd_I0 (g' := fun i j => .int (i + j)) fun _ _ => rfl) (sm_var 1) (sm_op (f1 := false) (f2 := false) (opd_I (g' := fun i j => .int (i * j)) fun _ _ => rfl) (sm_var 4) (sm_int _))) (sm_op (f1 := false) (f2 := false) (opd_I (g' := fun i j => .int (i * j)) fun _ _ => rfl) (sm_int _) (sm_var 6))) (sm_int _))) smq_nil)))))
 (sms_frz 5 (sms_app 3 (sm_tup (sma_cons (sm_op (f1 := false) (f2 := false) (opd_I (g' := fun i j => .int (i % j)) fun _ _ => rfl) (sm_ix (f2 := false) (sm_var 0) (sm_op (f1 := false) (f2 := false) (opd_I0 (g' := fun i j => .int (i + j)) fun _ _ => rfl) (sm_op (f1 := false) (f2 := false) (opd_I0 (g' := fun i j => .int (i + j)) fun _ _ => rfl) (sm_var 1) (sm_op (f1 := false) (f2 := false) (opd_I (g' := fun i j => .int (i * j)) fun _ _ => rfl) (sm_var 4) (sm_int _))) (sm_int _))) (sm_int _)) (sma_cons (sm_tuple (sm_var 5)) sma_nil))))))))
 (sms_retO 3))), ?_⟩
  rintro rs Φ ⟨row, a, n, rfl, hr1, hl, hn, h⟩
  refine seq_op fun N hN => ?_
  simp
  intro o
  refine hN _ ?_
  clear hN N
  obtain ⟨RW, hRW⟩ : ∃ x : PyData, x = .list (row.map .int) := ⟨_, rfl⟩
  rw [← hRW]
  refine seq_by (fun δ => ∃ (es : List Edg) (y4 y5 y6 : Option R), es.length = n ∧ (∀ e ∈ es, e.in) ∧ δ = [some (.d RW), some (.d (.int a)), some (.d (.int n)), some (.own o (es.map Edg.D)), y4, y5, y6]) (fun δ hI => ?_) (fun N hN => ?_)
  · obtain ⟨es, y4, y5, y6, he1, he2, rfl⟩ := hI
    simpa using h es he1 he2
  obtain ⟨I, hI⟩ : ∃ I : Nat → Dl → Prop, ∀ k δ, I k δ ↔ ∃ (es : List Edg) (y4 y5 y6 : Option R), es.length = k ∧ (∀ e ∈ es, e.in) ∧ δ = [some (.d RW), some (.d (.int a)), some (.d (.int n)), some (.own o (es.map Edg.D)), y4, y5, y6] := ⟨_, fun _ _ => Iff.rfl⟩
  refine dFor_n (n := n) (by omega) (fun Ψ h => by simpa using h) I ((hI _ _).mpr ⟨[], none, none, none, rfl, al0', rfl⟩) (fun k δ hk hJ => ?_) (fun δ hJ => ?_)
  · obtain ⟨es, y4, y5, y6, he1, he2, rfl⟩ := (hI _ _).mp hJ
    refine seq_op fun N hN => ?_
    simp
    intro o2
    refine hN _ ?_
    clear hN N
    obtain ⟨v, ev, v0, v1⟩ := row_at hr1 (i := (a : Int) + k * 8) (by omega) (by omega)
    obtain ⟨u, eu, u0, u1⟩ := row_at hr1 (i := (a : Int) + k * 8 + 7) (by omega) (by omega)
    refine seq_by (fun δ => ∃ (os : List Opd) (y6 : Option R), os.length ≤ 3 ∧ (∀ o ∈ os, o.ok 1000) ∧ δ = [some (.d RW), some (.d (.int a)), some (.d (.int n)), some (.own o (es.map Edg.D)), some (.d (.int k)), some (.own o2 (os.map Opd.D)), y6]) (fun δ hI2 => ?_) (fun N hN => ?_)
    · obtain ⟨os, y6, ho1, ho2, rfl⟩ := hI2
      simp [hRW, eu, le_size, lt_size, cmul_l, cpow_l, cdiv_l]
      rw [← hRW]
      exact ⟨.inl ⟨by omega, by omega⟩, Nat.lt_of_lt_of_le (show es.length < 100000 by omega) (by decide), (hI _ _).mpr ⟨es ++ [⟨u % 1000, os⟩], some (.d (.int k)), some (.d (.list (os.map Opd.D))), y6, by rw [List.length_append, he1]; rfl, ok_snoc he2 ⟨ho1, ho2, by show 0 ≤ u % 1000; omega, by show u % 1000 < 1000; omega⟩, by simp [Edg.D]⟩⟩
    · obtain ⟨J, hJ2⟩ : ∃ J : Nat → Dl → Prop, ∀ j δ, J j δ ↔ ∃ (os : List Opd) (y6 : Option R), os.length = j ∧ (∀ o ∈ os, o.ok 1000) ∧ δ = [some (.d RW), some (.d (.int a)), some (.d (.int n)), some (.own o (es.map Edg.D)), some (.d (.int k)), some (.own o2 (os.map Opd.D)), y6] := ⟨_, fun _ _ => Iff.rfl⟩
      refine dFor_n (n := (v % 4).toNat) (by omega) (fun Ψ h => ?_) J ((hJ2 _ _).mpr ⟨[], y6, rfl, al0', rfl⟩) (fun j δ hj hJ => ?_) (fun δ hJ => ?_)
      · simp [hRW, ev]
        rw [show ((v % 4).toNat : Int) = v % 4 by omega] at h
        exact ⟨.inl ⟨by omega, by omega⟩, by simpa using h⟩
      · obtain ⟨os, y6, ho1, ho2, rfl⟩ := (hJ2 _ _).mp hJ
        obtain ⟨p, ep, p0, p1⟩ := row_at hr1 (i := (a : Int) + k * 8 + 2 * j + 1) (by omega) (by omega)
        obtain ⟨q, eq, q0, q1⟩ := row_at hr1 (i := (a : Int) + k * 8 + 2 * j + 2) (by omega) (by omega)
        simp [hRW, ep, eq, le_size, lt_size, cmul_l, cpow_l, cdiv_l]
        rw [← hRW]
        exact ⟨.inl ⟨by omega, by omega⟩, p, q, rfl, p0, q0, fun x hx => ⟨Nat.lt_of_lt_of_le (show os.length < 100000 by omega) (by decide), (hJ2 _ _).mpr ⟨os ++ [x], some (.d (.int j)), by rw [List.length_append, ho1]; rfl, ok_snoc ho2 hx, by simp⟩⟩⟩
      · obtain ⟨os, y6, ho1, ho2, rfl⟩ := (hJ2 _ _).mp hJ
        exact hN _ ⟨os, y6, by omega, ho2, rfl⟩
  · obtain ⟨es, y4, y5, y6, he1, he2, rfl⟩ := (hI _ _).mp hJ
    exact hN _ ⟨es, y4, y5, y6, he1, he2, rfl⟩

def End.wd : End → Str
  | .br _ => "br"
  | .con _ _ _ => "condbr"
  | .sw _ _ _ => "switch"
  | .retN => "ret"
  | .ret _ => "ret"
  | .stop _ => "stop"
/-- the operand and the numbers that the law hands over for such an end -/
def End.opd (e : End) (d : PyData) : Prop := match e with
  | .br _ => True
  | .con o _ _ => d = o.D
  | .sw o _ _ => d = o.D
  | .retN => d = .none
  | .ret o => d = o.D
  | .stop _ => True
def End.vals (e : End) (vs : List Int) : Prop := match e with
  | .sw _ cs _ => vs = cs.map (·.1)
  | .stop n => ∃ t, vs = n :: t
  | _ => True
def vp__law_end : VSp := fun rs Φ => ∃ (e : End) (d : PyData) (vs : List Int), rs = [.d (.str e.wd), .d d, .d (.list (e.es.map Edg.D)), .d (.list (vs.map .int))] ∧ e.opd d ∧ e.vals vs ∧ vs.length ≤ 1000 ∧ Φ (.d e.D)
theorem len__law_end : ∀ rs Φ, vp__law_end rs Φ → rs.length = 4 := fun rs Φ ⟨_, _, _, e, _⟩ => by rw [e]; rfl
theorem atI_nil1 {α : Type} {xs : List α} {x : α} {k : Nat} (h : xs[k]? = some x) : atI xs (k : Int) = some x := atI_nat h
theorem G__law_end (T : Txt K mg) : FnOk P w K mg base CX0 1 T.f__law_end T.fd__law_end ["word", "operand", "row", "values"] (toSp K 4 vp__law_end) := by
  refine fn_ok T.F__law_end sc__law_end fun cdv A outer s H E hr => ⟨_, (pss_cons (ps_if (pt_cmpR op_eq (pv 0) pe_str (nomark _)) (pss_one (ps_ret (pe_tup (pa_cons pe_str (pa_cons (pe_ix (kx_seq (K := K) rfl) (pv 2) pe_int (fun _ _ => rfl)) pa_nil))))) pss_nil)
 (pss_cons (ps_if (pt_cmpR op_eq (pv 0) pe_str (nomark _)) (pss_one (ps_ret (pe_tup (pa_cons pe_str (pa_cons (pv 1) (pa_cons (pe_ix (kx_seq (K := K) rfl) (pv 2) pe_int (fun _ _ => rfl)) (pa_cons (pe_ix (kx_seq (K := K) rfl) (pv 2) pe_int (fun _ _ => rfl)) pa_nil))))))) pss_nil)
 (pss_cons (ps_if (pt_cmpR op_eq (pv 0) pe_str (nomark _)) (pss_cons (ps_setLc (i := 4) (own := [("at", 5)]) (g := gName 5) (tt := tYes) rfl sc__law_end.nd rfl rfl (sw_true rfl rfl rfl (by decide +kernel)) (pi_range1 rfl T.range (pa_cons (pe_callB (kx_len (K := K) rfl) (by rfl) T.len PySem.boot_len (pa_cons (pv 3) pa_nil)) pa_nil)) (blkOk_by (N := ["word", "operand", "row", "values", "cases", "at"]) (sc := defScope s_law_end) (by decide +kernel)) (fun _ _ _ _ _ => pg_name (i := 5) sc__law_end.nd rfl (Or.inl rfl)) (fun _ _ _ _ _ => pts_nil) (fun _ _ _ _ _ => (pe_tup (pa_cons (pe_ix (kx_seq (K := K) rfl) (pv 3) (pv 5) (fun _ _ => rfl)) (pa_cons (pe_ix (kx_seq (K := K) rfl) (pv 2) (pv 5) (fun _ _ => rfl)) pa_nil)))))
 (pss_one (ps_ret (pe_tup (pa_cons pe_str (pa_cons (pv 1) (pa_cons (pe_callTy (kx_tuple (K := K) rfl) (by rfl) T.tuple (by decide +kernel) (pa_cons (pv 4) pa_nil)) (pa_cons (pe_ix (kx_seq (K := K) rfl) (pv 2) (pe_callB (kx_len (K := K) rfl) (by rfl) T.len PySem.boot_len (pa_cons (pv 3) pa_nil)) (fun _ _ => rfl)) pa_nil)))))))) pss_nil)
 (pss_cons (ps_if (pt_cmpR op_eq (pv 0) pe_str (nomark _)) (pss_one (ps_ret (pe_tup (pa_cons pe_str (pa_cons (pv 1) pa_nil))))) pss_nil)
 (pss_one (ps_ret (pe_tup (pa_cons pe_str (pa_cons (pe_ix (kx_seq (K := K) rfl) (pv 3) pe_int (fun _ _ => rfl)) pa_nil))))))))), _, fun ex He Hf => (sms_seq (sms_if (smt_t (f1 := false) (sm_op (f1 := false) (f2 := false) opd_eq (sm_var 0) (sm_str _)))
 (sms_ret (sm_tup (sma_cons (sm_str _) (sma_cons (sm_ix (f2 := false) (sm_var 2) (sm_int _)) sma_nil))))
 sms_next)
 (sms_seq (sms_if (smt_t (f1 := false) (sm_op (f1 := false) (f2 := false) opd_eq (sm_var 0) (sm_str _)))
 (sms_ret (sm_tup (sma_cons (sm_str _) (sma_cons (sm_var 1) (sma_cons (sm_ix (f2 := false) (sm_var 2) (sm_int _)) (sma_cons (sm_ix (f2 := false) (sm_var 2) (sm_int _)) sma_nil))))))
 sms_next)
 (sms_seq (sms_if (smt_t (f1 := false) (sm_op (f1 := false) (f2 := false) opd_eq (sm_var 0) (sm_str _)))
 (sms_seq (sms_asg (SmO.sm (smo_lc (i := 5) (smi_rng1 (f1 := false) (sm_cb (f1 := false) cbd_len (sma_cons (sm_var 3) sma_nil))) smt_yes (sm_tup (sma_cons (sm_ix (f2 := false) (sm_var 3) (sm_var 5)) (sma_cons (sm_ix (f2 := false) (sm_var 2) (sm_var 5)) sma_nil))))) (smg_name 4))
 (sms_ret (sm_tup (sma_cons (sm_str _) (sma_cons (sm_var 1) (sma_cons (sm_tuple (sm_var 4)) (sma_cons (sm_ix (f2 := false) (sm_var 2) (sm_cb (f1 := false) cbd_len (sma_cons (sm_var 3) sma_nil))) sma_nil)))))))
 sms_next)
 (sms_seq (sms_if (smt_t (f1 := false) (sm_op (f1 := false) (f2 := false) opd_eq (sm_var 0) (sm_str _)))
 (sms_ret (sm_tup (sma_cons (sm_str _) (sma_cons (sm_var 1) sma_nil))))
 sms_next)
 (sms_ret (sm_tup (sma_cons (sm_str _) (sma_cons (sm_ix (f2 := false) (sm_var 3) (sm_int _)) sma_nil)))))))), ?_⟩
  rintro rs Φ ⟨e, d, vs, rfl, ho, hv, hl, h⟩
  cases e with
  | br e =>
    simp [End.wd, End.es, le_size, lt_size, cmul_l, cpow_l, cdiv_l]
    simpa [End.D] using h
  | con o e f =>
    obtain rfl : d = o.D := ho
    simp [End.wd, End.es, le_size, lt_size, cmul_l, cpow_l, cdiv_l]
    simpa [End.D] using h
  | sw o cs d2 =>
    obtain rfl : d = o.D := ho
    obtain rfl : vs = cs.map (·.1) := hv
    rw [List.length_map] at hl
    simp [End.wd, End.es, le_size, lt_size, cmul_l, cpow_l, cdiv_l]
    refine oLc_n (n := cs.length) (by omega) (fun Ψ hΨ => by simpa using hΨ) (fun acc => acc = (cs.take acc.length).map caseD) rfl (fun k acc Ψ hk hlen hP hz => ?_) (fun acc hlen hP => ?_)
    · have hx := List.getElem?_eq_getElem hk
      generalize cs[k] = c at hx
      have a1 : atI (List.map (PyData.int ∘ fun x => x.fst) cs) (k : Int) = some (.int c.1) := atI_nat (by rw [List.getElem?_map, hx]; rfl)
      have a2 : atI (List.map (Edg.D ∘ fun x => x.snd) cs ++ [d2.D]) (k : Int) = some c.2.D := atI_nat (by rw [List.getElem?_append_left (by rw [List.length_map]; exact hk), List.getElem?_map, hx]; rfl)
      rw [hlen] at hP
      simp [a1, a2]
      refine ⟨fz2 (by decide), hz _ ?_⟩
      rw [List.length_append, hlen, List.length_singleton, List.take_add_one, hx, List.map_append, ← hP]
      rfl
    · refine ⟨d2.D, atI_nat (by rw [List.getElem?_append_right (by rw [List.length_map]; exact Nat.le_refl _)]; simp), ?_⟩
      rw [hP, hlen, List.take_length]
      exact h
  | retN =>
    obtain rfl : d = .none := ho
    simp [End.wd, End.es, le_size, lt_size, cmul_l, cpow_l, cdiv_l]
    simpa [End.D] using h
  | ret o =>
    obtain rfl : d = o.D := ho
    simp [End.wd, End.es, le_size, lt_size, cmul_l, cpow_l, cdiv_l]
    simpa [End.D] using h
  | stop n =>
    obtain ⟨t, rfl⟩ : ∃ t, vs = n :: t := hv
    simp [End.wd, End.es, le_size, lt_size, cmul_l, cpow_l, cdiv_l]
    simpa [End.D] using h

def End.like : End → End → Prop
  | .br _, .br _ => True
  | .con o _ _, .con o' _ _ => o = o'
  | .sw o cs _, .sw o' cs' _ => o = o' ∧ cs.map (·.1) = cs'.map (·.1)
  | .retN, .retN => True
  | .ret o, .ret o' => o = o'
  | .stop n, .stop m => n = m
  | _, _ => False
def vp_with_edges : VSp := fun rs Φ => ∃ e e' : End, rs = [.d e.D, .d (.list (e'.es.map Edg.D))] ∧ e.like e' ∧ e'.es.length ≤ 1000 ∧ Φ (.d e'.D)
theorem len_with_edges : ∀ rs Φ, vp_with_edges rs Φ → rs.length = 2 := fun rs Φ ⟨_, _, e, _⟩ => by rw [e]; rfl
theorem zipM_at {cs : List (Int × Edg)} {ys : List PyData} {k : Nat} {y : PyData} (h : (zipD (cs.map caseD) ys)[k]? = some y) : ∃ c z, cs[k]? = some c ∧ ys[k]? = some z ∧ y = .tuple [caseD c, z] := by
  unfold zipD at h
  rw [List.getElem?_zipWith, List.getElem?_map] at h
  cases e1 : cs[k]? with
  | none => rw [e1] at h; simp at h
  | some c =>
    cases e2 : ys[k]? with
    | none => rw [e1, e2] at h; simp at h
    | some z => rw [e1, e2] at h; simp at h; exact ⟨c, z, rfl, rfl, h.symm⟩
def swp : PyData → PyData
  | .tuple [.tuple (a :: _), b] => .tuple [a, b]
  | x => x
theorem zipM_map : ∀ {cs cs' : List (Int × Edg)} {ds : List PyData}, cs.map (·.1) = cs'.map (·.1) → (zipD (cs.map caseD) (cs'.map (fun c => c.2.D) ++ ds)).map swp = cs'.map caseD
  | [], [], _, _ => by simp [zipD]
  | c :: cs, c' :: cs', ds, h => by
    rw [List.map_cons, List.map_cons] at h
    injection h with h1 h2
    have ih := zipM_map (ds := ds) h2
    unfold zipD at ih ⊢
    rw [List.map_cons, List.map_cons, List.cons_append, List.zipWith_cons_cons, List.map_cons, List.map_cons, ih]
    simp [swp, caseD, h1]
theorem G_with_edges (T : Txt K mg) : FnOk P w K mg base CX0 1 T.f_with_edges T.fd_with_edges ["end", "row"] (toSp K 2 vp_with_edges) := by
  refine fn_ok T.F_with_edges sc_with_edges fun cdv A outer s H E hr => ⟨_, (pss_cons (ps_if (pt_cmpR op_eq (pe_ix (kx_seq (K := K) rfl) (pv 0) pe_int (fun _ _ => rfl)) pe_str (nomark _)) (pss_one (ps_ret (pe_tup (pa_cons pe_str (pa_cons (pe_ix (kx_seq (K := K) rfl) (pv 1) pe_int (fun _ _ => rfl)) pa_nil))))) pss_nil)
 (pss_cons (ps_if (pt_cmpR op_eq (pe_ix (kx_seq (K := K) rfl) (pv 0) pe_int (fun _ _ => rfl)) pe_str (nomark _)) (pss_one (ps_ret (pe_tup (pa_cons pe_str (pa_cons (pe_ix (kx_seq (K := K) rfl) (pv 0) pe_int (fun _ _ => rfl)) (pa_cons (pe_ix (kx_seq (K := K) rfl) (pv 1) pe_int (fun _ _ => rfl)) (pa_cons (pe_ix (kx_seq (K := K) rfl) (pv 1) pe_int (fun _ _ => rfl)) pa_nil))))))) pss_nil)
 (pss_cons (ps_if (pt_cmpR op_eq (pe_ix (kx_seq (K := K) rfl) (pv 0) pe_int (fun _ _ => rfl)) pe_str (nomark _)) (pss_cons (ps_set (i := 2) sc_with_edges.nd rfl (Or.inl rfl) (pe_callTy (kx_tuple (K := K) rfl) (by rfl) T.tuple (by decide +kernel) (pa_cons (pe_lc (own := [("case", 3), ("edge", 4)]) (g := gTup K 2 (gCons (gName 3) (gCons (gName 4) gNil))) (tt := tYes) rfl sc_with_edges.nd (VZ.pi_zipM (by rfl) T.zip (pa_cons (pe_ix (kx_seq (K := K) rfl) (pv 0) pe_int (fun _ _ => rfl)) (pa_cons (pv 1) pa_nil))) (blkOk_by (N := ["end", "row", "cases", "case", "edge"]) (sc := defScope swith_edges) (by decide +kernel)) (fun _ _ _ _ _ => (pg_tup (n := 2) rfl (pgs_cons (pg_name (i := 3) sc_with_edges.nd rfl (Or.inl rfl)) (pgs_cons (pg_name (i := 4) sc_with_edges.nd rfl (Or.inl rfl)) pgs_nil)))) (fun _ _ _ _ _ => pts_nil) (fun _ _ _ _ _ => (pe_tup (pa_cons (pe_ix (kx_seq (K := K) rfl) (pv 3) pe_int (fun _ _ => rfl)) (pa_cons (pv 4) pa_nil))))) pa_nil)))
 (pss_one (ps_ret (pe_tup (pa_cons pe_str (pa_cons (pe_ix (kx_seq (K := K) rfl) (pv 0) pe_int (fun _ _ => rfl)) (pa_cons (pv 2) (pa_cons (pe_ix (kx_seq (K := K) rfl) (pv 1) (pe_un un_neg pe_int) (fun _ _ => rfl)) pa_nil)))))))) pss_nil)
 (pss_one (ps_ret (pv 0)))))), _, fun ex He Hf => (sms_seq (sms_if (smt_t (f1 := false) (sm_op (f1 := false) (f2 := false) opd_eq (sm_ix (f2 := false) (sm_var 0) (sm_int _)) (sm_str _)))
 (sms_ret (sm_tup (sma_cons (sm_str _) (sma_cons (sm_ix (f2 := false) (sm_var 1) (sm_int _)) sma_nil))))
 sms_next)
 (sms_seq (sms_if (smt_t (f1 := false) (sm_op (f1 := false) (f2 := false) opd_eq (sm_ix (f2 := false) (sm_var 0) (sm_int _)) (sm_str _)))
 (sms_ret (sm_tup (sma_cons (sm_str _) (sma_cons (sm_ix (f2 := false) (sm_var 0) (sm_int _)) (sma_cons (sm_ix (f2 := false) (sm_var 1) (sm_int _)) (sma_cons (sm_ix (f2 := false) (sm_var 1) (sm_int _)) sma_nil))))))
 sms_next)
 (sms_seq (sms_if (smt_t (f1 := false) (sm_op (f1 := false) (f2 := false) opd_eq (sm_ix (f2 := false) (sm_var 0) (sm_int _)) (sm_str _)))
 (sms_seq (sms_asg (sm_tuple (SmO.sm (smo_lcG (own := [3, 4]) (kps_tup (kps_cons (by decide) (kps_cons (by decide) kps_nil))) (smi_zipM (sm_ix (f2 := false) (sm_var 0) (sm_int _)) (sm_var 1)) (smg_tup (smg_cons (smg_name 3) (smg_cons (smg_name 4) smg_nil))) smt_yes (sm_tup (sma_cons (sm_ix (f2 := false) (sm_var 3) (sm_int _)) (sma_cons (sm_var 4) sma_nil)))))) (smg_name 2))
 (sms_ret (sm_tup (sma_cons (sm_str _) (sma_cons (sm_ix (f2 := false) (sm_var 0) (sm_int _)) (sma_cons (sm_var 2) (sma_cons (sm_ix (f2 := false) (sm_var 1) (sm_un (f1 := false) (g' := fun i => .int (-i)) (fun _ => rfl) (sm_int _))) sma_nil)))))))
 sms_next)
 (sms_ret (sm_var 0))))), ?_⟩
  rintro rs Φ ⟨e, e', rfl, hk, hl, h⟩
  cases e with
  | br x => cases e' with
    | br y => simp [End.D, End.es, le_size, lt_size, cmul_l, cpow_l, cdiv_l]; simpa [End.D] using h
    | _ => exact (show False from hk).elim
  | con o x y => cases e' with
    | con o' x' y' =>
      obtain rfl : o = o' := hk
      simp [End.D, End.es, le_size, lt_size, cmul_l, cpow_l, cdiv_l]
      simpa [End.D] using h
    | _ => exact (show False from hk).elim
  | sw o cs d => cases e' with
    | sw o' cs' d' =>
      obtain ⟨rfl, hc⟩ := (show o = o' ∧ cs.map (·.1) = cs'.map (·.1) from hk)
      simp only [End.es, List.length_append, List.length_map, List.length_singleton] at hl
      have er : (End.sw o cs' d').es.map Edg.D = cs'.map (fun c => c.2.D) ++ [d'.D] := by simp [End.es]
      rw [er]
      have la : atI (cs'.map (fun c => c.2.D) ++ [d'.D]) (-1) = some d'.D := by
        unfold atI
        have ix : ixN (cs'.length + 1) (-1) = some cs'.length := by
          unfold ixN
          rw [if_neg (by omega), if_pos (by omega)]
          congr 1
          omega
        simp [ix]
      generalize eR : cs'.map (fun c => c.2.D) ++ [d'.D] = RR0 at la
      simp [End.D, le_size, lt_size, cmul_l, cpow_l, cdiv_l]
      have zl : (zipD (cs.map caseD) RR0).length ≤ 1000 := by
        rw [← eR]
        unfold zipD
        rw [List.length_zipWith, List.length_append, List.length_map, List.length_map, List.length_singleton]
        omega
      refine oLcG_map swp (xs := zipD (cs.map caseD) RR0) (by omega) (fun Ψ hΨ => by simpa using hΨ) (fun k y Ψ hy hΨ => ?_) ?_
      · obtain ⟨c, z, h1, h2, rfl⟩ := zipM_at hy
        simp [dwipe, caseD, le_size, lt_size, cmul_l, cpow_l, cdiv_l]
        simpa [swp, caseD] using hΨ
      · refine ⟨d'.D, la, ?_⟩
        rw [← eR, zipM_map hc]
        exact h
    | _ => exact (show False from hk).elim
  | retN => cases e' with
    | retN => simp [End.D, le_size, lt_size, cmul_l, cpow_l, cdiv_l]; simpa [End.D] using h
    | _ => exact (show False from hk).elim
  | ret o => cases e' with
    | ret o' =>
      obtain rfl : o = o' := hk
      simp [End.D, le_size, lt_size, cmul_l, cpow_l, cdiv_l]
      simpa [End.D] using h
    | _ => exact (show False from hk).elim
  | stop n => cases e' with
    | stop m =>
      obtain rfl : n = m := hk
      simp [End.D, le_size, lt_size, cmul_l, cpow_l, cdiv_l]
      simpa [End.D] using h
    | _ => exact (show False from hk).elim

theorem opds_okd2 {os : List Opd} (h : ∀ o ∈ os, o.good) (hl : os.length ≤ 1000) : Okd 2 (.tuple (os.map Opd.D)) := okT (by rw [List.length_map]; exact hl) (alm fun o ho => (h o ho).okd)
theorem seq_grp {a b r : DS} {E : DEnds} {δ : Dl} (h : dSeq (dSeq a b) r E δ) : dSeq a (dSeq b r) E δ := h
theorem seq_ungrp {a b r : DS} {E : DEnds} {δ : Dl} (h : dSeq a (dSeq b r) E δ) : dSeq (dSeq a b) r E δ := h
def w6 : List Str := ["br", "condbr", "switch", "switch", "ret", "stop"]
theorem w6_c {x : Str} (h : x ∈ w6) : x = "br" ∨ x = "condbr" ∨ x = "switch" ∨ x = "ret" ∨ x = "stop" := by
  have h' : x = "br" ∨ x = "condbr" ∨ x = "switch" ∨ x = "switch" ∨ x = "ret" ∨ x = "stop" := by simpa only [w6, List.mem_cons, List.not_mem_nil, or_false] using h
  rcases h' with h | h | h | h | h | h
  · exact .inl h
  · exact .inr (.inl h)
  · exact .inr (.inr (.inl h))
  · exact .inr (.inr (.inl h))
  · exact .inr (.inr (.inr (.inl h)))
  · exact .inr (.inr (.inr (.inr h)))
theorem sw_of {vs : List Int} {es : List Edg} (h : es.length = vs.length + 1) : ∃ (cs : List (Int × Edg)) (d : Edg), vs = cs.map (·.1) ∧ es = cs.map (·.2) ++ [d] := by
  have hne : es ≠ [] := fun e => by rw [e] at h; cases h
  have e1 : es = es.dropLast ++ [es.getLast hne] := (List.dropLast_concat_getLast hne).symm
  have l1 : es.dropLast.length = vs.length := by rw [List.length_dropLast]; omega
  refine ⟨vs.zip es.dropLast, es.getLast hne, (List.map_fst_zip (by omega)).symm, ?_⟩
  rw [List.map_snd_zip (by omega)]
  exact e1
theorem Edg.good.okd {e : Edg} (h : e.good) : Okd 3 e.D := okT (by simp) (alc (.int _) (alc (opds_okd2 h.2 (by have := h.1; omega)) al0))
theorem End.okd2 {e : End} (hl : e.es.length ≤ 1000) (hg : ∀ x ∈ e.es, x.good) (ho : ∀ o ∈ e.os, o.good) : Okd 6 e.D := by
  cases e with
  | br e => exact okT (by simp) (alc (okW (by decide +kernel)) (alc ((hg e (by simp [End.es])).okd.mono (by decide)) al0))
  | con o e f => exact okT (by simp) (alc (okW (by decide +kernel)) (alc ((ho o (by simp [End.os])).okd.mono (by decide)) (alc ((hg e (by simp [End.es])).okd.mono (by decide)) (alc ((hg f (by simp [End.es])).okd.mono (by decide)) al0))))
  | sw o cs d =>
    have h1 : ∀ c ∈ cs, c.2.good := fun c hc => hg c.2 (List.mem_append_left _ (List.mem_map.mpr ⟨c, hc, rfl⟩))
    have h2 : d.good := hg d (by simp [End.es])
    simp only [End.es, List.length_append, List.length_map, List.length_singleton] at hl
    exact okT (by simp) (alc (okW (by decide +kernel)) (alc ((ho o (by simp [End.os])).okd.mono (by decide)) (alc (okT (n := 4) (by rw [List.length_map]; omega) (alm fun c hc => okT (n := 3) (by simp) (alc (.int _) (alc (h1 c hc).okd al0)))) (alc (h2.okd.mono (by decide)) al0))))
  | retN => exact okT (by simp) (alc (okW (by decide +kernel)) (alc .none al0))
  | ret o => exact okT (by simp) (alc (okW (by decide +kernel)) (alc ((ho o (by simp [End.os])).okd.mono (by decide)) al0))
  | stop n => exact okT (by simp) (alc (okW (by decide +kernel)) (alc (.int _) al0))
theorem Opd.D_inj {a b : Opd} (h : a.D = b.D) : a = b := by
  cases a <;> cases b <;> simp [Opd.D] at h ⊢ <;> exact h
theorem D_none {a : Opd} (h : PyData.none = a.D) : False := by cases a <;> simp [Opd.D] at h
theorem os_len (e : End) : e.os.length ≤ 1 := by cases e <;> simp [End.os]

/-! ### an end with other edges -/
theorem with_es {e : End} {ys : List Edg} (h : ys.length = e.es.length) : ∃ e' : End, e.like e' ∧ e'.es = ys ∧ e'.wd = e.wd ∧ (∀ d, e.opd d → e'.opd d) ∧ (∀ vs, e.vals vs → e'.vals vs) ∧ e'.os = e.os := by
  cases e with
  | br x =>
    obtain ⟨y, rfl⟩ : ∃ y, ys = [y] := List.length_eq_one_iff.mp h
    exact ⟨.br y, trivial, rfl, rfl, fun _ _ => trivial, fun _ _ => trivial, rfl⟩
  | con o a b =>
    obtain ⟨x, y, rfl⟩ : ∃ x y, ys = [x, y] := by
      match ys, h with
      | [x, y], _ => exact ⟨x, y, rfl⟩
    exact ⟨.con o x y, rfl, rfl, rfl, fun _ h => h, fun _ _ => trivial, rfl⟩
  | sw o cs d =>
    obtain ⟨cs', d', h1, h2⟩ := sw_of (vs := cs.map (·.1)) (es := ys) (by rw [h]; simp [End.es])
    exact ⟨.sw o cs' d', ⟨rfl, h1⟩, h2.symm, rfl, fun _ h => h, fun vs h => by show vs = _; rw [show vs = cs.map (·.1) from h, h1], rfl⟩
  | retN => exact ⟨.retN, trivial, (List.length_eq_zero_iff.mp h).symm, rfl, fun _ h => h, fun _ h => h, rfl⟩
  | ret o => exact ⟨.ret o, rfl, (List.length_eq_zero_iff.mp h).symm, rfl, fun _ h => h, fun _ h => h, rfl⟩
  | stop n => exact ⟨.stop n, rfl, (List.length_eq_zero_iff.mp h).symm, rfl, fun _ h => h, fun _ h => h, rfl⟩
/-- an end without edges is the only one like it -/
theorem like_nil {e e' : End} (h : e.like e') (hz : e.es = []) : e' = e := by
  cases e with
  | br x => simp [End.es] at hz
  | con o a b => simp [End.es] at hz
  | sw o cs d => simp [End.es] at hz
  | retN => cases e' with
    | retN => rfl
    | _ => exact (show False from h).elim
  | ret o => cases e' with
    | ret o' => obtain rfl : o = o' := h; rfl
    | _ => exact (show False from h).elim
  | stop n => cases e' with
    | stop m => obtain rfl : n = m := h; rfl
    | _ => exact (show False from h).elim

/-! ### the lambdas -/
def spl_0 : VSp := fun rs Φ => ∃ n : Int, rs = [.d (.int n)] ∧ 0 ≤ n ∧ n < 1000 ∧ Φ (.d (.int (3 * n + 1)))
def spl_1 : VSp := fun rs Φ => ∃ n : Int, rs = [.d (.int n)] ∧ Φ (.d (.int n))
def LS (F : LF) (sp : VSp) : Prop := (F = lam_0 ∧ sp = spl_0) ∨ (F = lam_1 ∧ sp = spl_1)
theorem ok_lam_0 : LamOk P w K mg base 1 lam_0 spl_0 := by
  refine lamOk_of (N := ["label"]) (x := "label") (NdefX.nscope_by (by decide +kernel)) (fun pm cdv ctv us hl => match us, hl with | [_], _ => rfl) (fun A outer s H f c hr => ⟨_, (pe_op op_add (pe_op op_mul pe_int (pv 0)) pe_int), _, fun ex He Hf => (sm_op (f1 := false) (f2 := false) (opd_I0 (g' := fun i j => .int (i + j)) fun _ _ => rfl) (sm_op (f1 := false) (f2 := false) (opd_I (g' := fun i j => .int (i * j)) fun _ _ => rfl) (sm_int _) (sm_var 0)) (sm_int _)), ?_⟩)
  rintro rs Φ ⟨n, rfl, h0, h1, h⟩
  have cm : CMul 3 n := .inl ⟨by omega, by omega⟩
  simpa [cm] using h
theorem ok_lam_1 : LamOk P w K mg base 1 lam_1 spl_1 := by
  refine lamOk_of (N := ["label"]) (x := "label") (NdefX.nscope_by (by decide +kernel)) (fun pm cdv ctv us hl => match us, hl with | [_], _ => rfl) (fun A outer s H f c hr => ⟨_, (pv 0), _, fun ex He Hf => (sm_var 0), ?_⟩)
  rintro rs Φ ⟨n, rfl, h⟩
  simpa using h
theorem ok_LS (T : Txt K mg) : ∀ F sp, LS F sp → LamOk P w K mg base 1 F sp := fun F sp h => by
  rcases h with ⟨rfl, rfl⟩ | ⟨rfl, rfl⟩
  · exact ok_lam_0
  · exact ok_lam_1

def Edg.mpL (g : Int → Int) (e : Edg) : Edg := ⟨g e.lb, e.as⟩
def lmp (g : Int → Int) : PyData → PyData
  | .tuple [.int n, a] => .tuple [.int (g n), a]
  | x => x
def vp_map_labels : VSp := fun rs Φ => ∃ (F : LF) (sp : VSp) (g : Int → Int) (e e' : End), rs = [.d e.D, .fn F] ∧ LS F sp ∧ (∀ x ∈ e.es, ∀ Ψ : RX → Prop, Ψ (.d (.int (g x.lb))) → sp [.d (.int x.lb)] Ψ) ∧ e.es.length ≤ 1000 ∧ e.like e' ∧ e'.es = e.es.map (Edg.mpL g) ∧ Φ (.d e'.D)
theorem len_map_labels : ∀ rs Φ, vp_map_labels rs Φ → rs.length = 2 := fun rs Φ ⟨_, _, _, _, _, e, _⟩ => by rw [e]; rfl
theorem G_map_labels (T : Txt K mg) : FnOk P w K mg base CX0 2 T.f_map_labels T.fd_map_labels ["end", "change"] (toSp K 2 vp_map_labels) := by
  refine fn_ok T.F_map_labels sc_map_labels fun cdv A outer s H E hr => ⟨_, (pss_one (ps_ret (pe_call (G_with_edges T) hr (by rfl) T.g_with_edges T.F_with_edges.kp T.b_with_edges .nil pass0 (pa_cons (pv 0) (pa_cons (pe_lc (own := [("label", 2), ("args", 3)]) (g := gTup K 2 (gCons (gName 2) (gCons (gName 3) gNil))) (tt := tYes) rfl sc_map_labels.nd ((kpi_list (K := K) rfl (pe_call (G_edges T) hr (by rfl) T.g_edges T.F_edges.kp T.b_edges .nil pass0 (pa_cons (pv 0) pa_nil)))) (blkOk_by (N := ["end", "change", "label", "args"]) (sc := defScope smap_labels) (by decide +kernel)) (fun _ _ _ _ _ => (pg_tup (n := 2) rfl (pgs_cons (pg_name (i := 2) sc_map_labels.nd rfl (Or.inl rfl)) (pgs_cons (pg_name (i := 3) sc_map_labels.nd rfl (Or.inl rfl)) pgs_nil)))) (fun _ _ _ _ _ => pts_nil) (fun _ _ _ _ _ => (pe_tup (pa_cons (pe_callF (i := 1) (S := LS) rfl (ok_LS T) hr rfl (by first | exact Or.inl rfl | exact Or.inr (Or.inl rfl) | exact Or.inr (Or.inr rfl)) (pa_cons (pv 2) pa_nil)) (pa_cons (pv 3) pa_nil))))) pa_nil))))), _, fun ex He Hf => (sms_ret (sm_call len_with_edges (smq_cons (sm_var 0) (smq_cons (SmO.sm (smo_lcG (own := [2, 3]) (kps_tup (kps_cons (by decide) (kps_cons (by decide) kps_nil))) (smi_list (SmO.sm (smo_call len_edges (smq_cons (sm_var 0) smq_nil)))) (smg_tup (smg_cons (smg_name 2) (smg_cons (smg_name 3) smg_nil))) smt_yes (sm_tup (sma_cons (sm_callF (S := LS) 1 (smq_cons (sm_var 2) smq_nil)) (sma_cons (sm_var 3) sma_nil))))) smq_nil)))), ?_⟩
  rintro rs Φ ⟨F, sp, g, e, e', rfl, hS, hg, hl, hk, he, h⟩
  obtain ⟨eD, hD⟩ : ∃ d, d = e.D := ⟨_, rfl⟩
  simp
  rw [← hD]
  refine oLcG_map (lmp g) (xs := e.es.map Edg.D) (by rw [List.length_map]; omega) (fun Ψ hΨ => ?_) (fun k y Ψ hy hΨ => ?_) ?_
  · simp
    exact ⟨e, by rw [hD], hl, _, rfl, hΨ⟩
  · rw [List.getElem?_map] at hy
    obtain ⟨x, hx, rfl⟩ := Option.map_eq_some_iff.mp hy
    simp [dwipe, Edg.D]
    refine ⟨sp, hS, hg x (List.mem_of_getElem? hx) _ ?_⟩
    simp [le_size, lt_size, cmul_l, cpow_l, cdiv_l]
    simpa [lmp, Edg.D] using hΨ
  · refine ⟨e, e', by rw [← hD, he]; simp [Edg.D, Edg.mpL, lmp], hk, by rw [he, List.length_map]; exact hl, ?_⟩
    exact h
def vp_with_edge : VSp := fun rs Φ => ∃ (e e' : End) (i : Nat) (x : Edg), rs = [.d e.D, .d (.int i), .d x.D] ∧ i < e.es.length ∧ e.es.length ≤ 1000 ∧ e.like e' ∧ e'.es = e.es.set i x ∧ Φ (.d e'.D)
theorem len_with_edge : ∀ rs Φ, vp_with_edge rs Φ → rs.length = 3 := fun rs Φ ⟨_, _, _, _, e, _⟩ => by rw [e]; rfl
theorem G_with_edge (T : Txt K mg) : FnOk P w K mg base CX0 2 T.f_with_edge T.fd_with_edge ["end", "slot", "edge"] (toSp K 3 vp_with_edge) := by
  refine fn_ok T.F_with_edge sc_with_edge fun cdv A outer s H E hr => ⟨_, (pss_cons (ps_set (i := 3) sc_with_edge.nd rfl (Or.inl rfl) (pe_call (G_edges T) hr (by rfl) T.g_edges T.F_edges.kp T.b_edges .nil pass0 (pa_cons (pv 0) pa_nil)))
 (pss_cons (ps_asg (pv 2) (pg_sub (pv 3) (pv 1) set_list))
 (pss_one (ps_ret (pe_call (G_with_edges T) hr (by rfl) T.g_with_edges T.F_with_edges.kp T.b_with_edges .nil pass0 (pa_cons (pv 0) (pa_cons (pv 3) pa_nil))))))), _, fun ex He Hf => (sms_seq (sms_setO 3 (smo_call len_edges (smq_cons (sm_var 0) smq_nil)))
 (sms_seq (sms_setI (f2 := false) 3 (sm_var 2) (sm_var 1))
 (sms_frz 3 (sms_ret (sm_call len_with_edges (smq_cons (sm_var 0) (smq_cons (sm_var 3) smq_nil))))))), ?_⟩
  rintro rs Φ ⟨e, e', i, x, rfl, hi, hl, hk, he, h⟩
  obtain ⟨eD, hD⟩ : ∃ d, d = e.D := ⟨_, rfl⟩
  rw [← hD]
  refine seq_op fun N hN => ?_
  simp
  refine ⟨e, by rw [hD], hl, _, rfl, fun o => ?_⟩
  refine hN _ ?_
  clear hN N
  refine seq_op fun N hN => ?_
  simp
  refine ⟨i, by unfold ixN; simp [hi], hN _ ?_⟩
  clear hN N
  simp
  refine ⟨e, e', by rw [hD, he, List.map_set], hk, by rw [he, List.length_set]; exact hl, ?_⟩
  exact h

theorem cut_up {xs : List PyData} {k : Nat} (h : k ≤ xs.length) : cutDt xs none (some (k : Int)) = xs.take k := by
  have e1 : HT.sIx xs.length xs.length (some (k : Int)) = k := (HT.sIx_nat _ _ _).trans (Nat.min_eq_left h)
  have e2 : HT.sIx xs.length 0 none = 0 := rfl
  unfold cutDt
  rw [e1, e2, Nat.sub_zero, List.drop_zero]
theorem cut_down {xs : List PyData} {k : Nat} (h : k + 1 ≤ xs.length) : cutDt xs (some ((k : Int) + 1)) none = xs.drop (k + 1) := by
  have e1 : HT.sIx xs.length 0 (some ((k : Int) + 1)) = k + 1 := (HT.sIx_nat _ _ (k + 1)).trans (Nat.min_eq_left h)
  have e2 : HT.sIx xs.length xs.length none = xs.length := rfl
  unfold cutDt
  rw [e1, e2]
  exact List.take_of_length_le (by rw [List.length_drop]; exact Nat.le_refl _)
theorem cut_set {xs : List PyData} {k : Nat} (h : k < xs.length) (x : PyData) : xs.take k ++ x :: xs.drop (k + 1) = xs.set k x := (List.set_eq_take_append_cons_drop ..).trans (if_pos h) |>.symm

theorem es_okd {es : List Edg} (h : ∀ e ∈ es, e.good) (hl : es.length ≤ 1000) : Okd 4 (.list (es.map Edg.D)) := .list (alm fun e he => (h e he).okd) (by rw [List.length_map]; omega)
theorem ok_law (T : Txt K mg) {cc Pt : Addr} (TB : LamX.TabB base mg cc Pt) (FC : FunC K "law" "law" slaw T.f_law T.fd_law cc) : FnOk P w K mg base CX0 14 T.f_law T.fd_law ["script"] (spLawT K Pt) := by
  refine FC.ok sc_law (fun vs H Q E h => ?_) (fun A outer s H vs Q E hr h => ?_)
  · obtain ⟨a, ns, rfl, _⟩ := h
    rfl
  obtain ⟨a, ns, rfl, hP, hne, hS, hlen, k⟩ := h
  refine ⟨_, (pss_cons (ps_set (i := 1) sc_law.nd rfl (Or.inr rfl) (pe_call (G__law_stream T) (hr.mono (by decide)) (by rfl) T.g__law_stream T.F__law_stream.kp T.b__law_stream .nil pass0 (pa_cons (pv 0) (pa_cons pe_int pa_nil))))
 (pss_cons (ps_set (i := 2) sc_law.nd rfl (Or.inl rfl) (pe_ix (kx_seq (K := K) rfl) (pe_lst (pa_cons pe_str (pa_cons pe_str (pa_cons pe_str (pa_cons pe_str (pa_cons pe_str (pa_cons pe_str pa_nil))))))) (pe_op op_mod (pe_ix (kx_seq (K := K) rfl) (pv 1) pe_int (fun _ _ => rfl)) pe_int) (fun _ _ => rfl)))
 (pss_cons (ps_set (i := 3) sc_law.nd rfl (Or.inl rfl) (pe_call (G__law_operand T) (hr.mono (by decide)) (by rfl) T.g__law_operand T.F__law_operand.kp T.b__law_operand .nil pass0 (pa_cons (pe_ix (kx_seq (K := K) rfl) (pv 1) pe_int (fun _ _ => rfl)) (pa_cons (pe_ix (kx_seq (K := K) rfl) (pv 1) pe_int (fun _ _ => rfl)) pa_nil))))
 (pss_cons (ps_if (PW.pt (pw_and (pt_cmpR op_eq (pv 2) pe_str (nomark _)) (pw_and1 (pt_cmpR op_eq (pe_op op_mod (pe_ix (kx_seq (K := K) rfl) (pv 1) pe_int (fun _ _ => rfl)) pe_int) pe_int (nomark _))))) (pss_one (ps_set (i := 3) sc_law.nd rfl (Or.inl rfl) pe_non)) pss_nil)
 (pss_cons (ps_setLc (i := 4) (own := [("k", 12)]) (g := gName 12) (tt := tYes) rfl sc_law.nd rfl rfl (sw_true rfl rfl rfl (by decide +kernel)) (pi_range1 rfl T.range (pa_cons (pe_op op_mod (pe_ix (kx_seq (K := K) rfl) (pv 1) pe_int (fun _ _ => rfl)) pe_int) pa_nil)) (blkOk_by (N := ["script", "row", "word", "operand", "values", "count", "found", "end", "moved", "slot", "other", "changed", "k", "edge"]) (sc := defScope slaw) (by decide +kernel)) (fun _ _ _ _ _ => pg_name (i := 12) sc_law.nd rfl (Or.inl rfl)) (fun _ _ _ _ _ => pts_nil) (fun _ _ _ _ _ => (pe_op op_add (pe_op op_mod (pe_ix (kx_seq (K := K) rfl) (pv 1) pe_int (fun _ _ => rfl)) pe_int) (pe_op op_mul pe_int (pv 12)))))
 (pss_cons (ps_set (i := 5) sc_law.nd rfl (Or.inl rfl) pe_int)
 (pss_cons (ps_if (pt_cmpR op_eq (pv 2) pe_str (nomark _)) (pss_one (ps_set (i := 5) sc_law.nd rfl (Or.inl rfl) pe_int)) pss_nil)
 (pss_cons (ps_if (pt_cmpR op_eq (pv 2) pe_str (nomark _)) (pss_one (ps_set (i := 5) sc_law.nd rfl (Or.inl rfl) pe_int)) pss_nil)
 (pss_cons (ps_if (pt_cmpR op_eq (pv 2) pe_str (nomark _)) (pss_one (ps_set (i := 5) sc_law.nd rfl (Or.inl rfl) (pe_op op_add (pe_callB (kx_len (K := K) rfl) (by rfl) T.len PySem.boot_len (pa_cons (pv 4) pa_nil)) pe_int))) pss_nil)
 (pss_cons (ps_if (pt_cmpR op_eq (pv 2) pe_str (nomark _)) (pss_one (ps_set (i := 4) sc_law.nd rfl (Or.inl rfl) (pe_lst (pa_cons (pe_op op_mod (pe_ix (kx_seq (K := K) rfl) (pv 1) pe_int (fun _ _ => rfl)) (pe_op op_pow pe_int pe_int)) pa_nil)))) pss_nil)
 (pss_cons (ps_set (i := 6) sc_law.nd rfl (Or.inl rfl) (pe_call (G__law_edges T) (hr.mono (by decide)) (by rfl) T.g__law_edges T.F__law_edges.kp T.b__law_edges .nil pass0 (pa_cons (pv 1) (pa_cons pe_int (pa_cons (pv 5) pa_nil)))))
 (pss_cons (ps_set (i := 7) sc_law.nd rfl (Or.inl rfl) (pe_call (G__law_end T) (hr.mono (by decide)) (by rfl) T.g__law_end T.F__law_end.kp T.b__law_end .nil pass0 (pa_cons (pv 2) (pa_cons (pv 3) (pa_cons (pv 6) (pa_cons (pv 4) pa_nil))))))
 (pss_cons (ps_if (pt_not (pt_val (pe_call (G__law_same T) hr (by rfl) T.g__law_same T.F__law_same.kp T.b__law_same .nil pass0 (pa_cons (pe_call (G_edges T) (hr.mono (by decide)) (by rfl) T.g_edges T.F_edges.kp T.b_edges .nil pass0 (pa_cons (pv 7) pa_nil)) (pa_cons (pv 6) pa_nil))))) (pss_one (ps_ret pe_bl)) pss_nil)
 (pss_cons (ps_setLc (i := 8) (own := [("edge", 13)]) (g := gName 13) (tt := tYes) rfl sc_law.nd rfl rfl (sw_true rfl rfl rfl (by decide +kernel)) ((kpi_list (K := K) rfl (pv 6))) (blkOk_by (N := ["script", "row", "word", "operand", "values", "count", "found", "end", "moved", "slot", "other", "changed", "k", "edge"]) (sc := defScope slaw) (by decide +kernel)) (fun _ _ _ _ _ => pg_name (i := 13) sc_law.nd rfl (Or.inl rfl)) (fun _ _ _ _ _ => pts_nil) (fun _ _ _ _ _ => (pe_tup (pa_cons (pe_op op_add (pe_op op_mul pe_int (pe_ix (kx_seq (K := K) rfl) (pv 13) pe_int (fun _ _ => rfl))) pe_int) (pa_cons (pe_ix (kx_seq (K := K) rfl) (pv 13) pe_int (fun _ _ => rfl)) pa_nil)))))
 (pss_cons (ps_if (pt_not (pt_val (pe_call (G__law_same T) hr (by rfl) T.g__law_same T.F__law_same.kp T.b__law_same .nil pass0 (pa_cons (pe_call (G_map_labels T) (hr.mono (by decide)) (by rfl) T.g_map_labels T.F_map_labels.kp T.b_map_labels .nil pass0 (pa_cons (pv 7) (pa_cons (pe_lamF (F := lam_0) rfl rfl TB rfl (by rfl) (by decide +kernel)) pa_nil))) (pa_cons (pe_call (G__law_end T) (hr.mono (by decide)) (by rfl) T.g__law_end T.F__law_end.kp T.b__law_end .nil pass0 (pa_cons (pv 2) (pa_cons (pv 3) (pa_cons (pv 8) (pa_cons (pv 4) pa_nil))))) pa_nil))))) (pss_one (ps_ret pe_bl)) pss_nil)
 (pss_cons (ps_if (pt_cmpR op_eq (pv 5) pe_int (nomark _)) (pss_one (ps_ret (pe_call (G__law_same T) hr (by rfl) T.g__law_same T.F__law_same.kp T.b__law_same .nil pass0 (pa_cons (pe_call (G_map_labels T) (hr.mono (by decide)) (by rfl) T.g_map_labels T.F_map_labels.kp T.b_map_labels .nil pass0 (pa_cons (pv 7) (pa_cons (pe_lamF (F := lam_1) rfl rfl TB rfl (by rfl) (by decide +kernel)) pa_nil))) (pa_cons (pv 7) pa_nil))))) pss_nil)
 (pss_cons (ps_set (i := 9) sc_law.nd rfl (Or.inl rfl) (pe_op op_mod (pe_ix (kx_seq (K := K) rfl) (pv 1) pe_int (fun _ _ => rfl)) (pv 5)))
 (pss_cons (ps_set (i := 10) sc_law.nd rfl (Or.inl rfl) (pe_tup (pa_cons (pe_op op_mod (pe_ix (kx_seq (K := K) rfl) (pv 1) pe_int (fun _ _ => rfl)) (pe_op op_pow pe_int pe_int)) (pa_cons (pe_tup (pa_cons (pe_call (G__law_operand T) (hr.mono (by decide)) (by rfl) T.g__law_operand T.F__law_operand.kp T.b__law_operand .nil pass0 (pa_cons (pe_ix (kx_seq (K := K) rfl) (pv 1) pe_int (fun _ _ => rfl)) (pa_cons (pe_ix (kx_seq (K := K) rfl) (pv 1) pe_int (fun _ _ => rfl)) pa_nil))) pa_nil)) pa_nil))))
 (pss_cons (ps_set (i := 11) sc_law.nd rfl (Or.inl rfl) (pe_op op_cat (pe_op op_cat (pe_slice sl_list (pv 6) po_none (po_some (pv 9))) (pe_lst (pa_cons (pv 10) pa_nil))) (pe_slice sl_list (pv 6) (po_some (pe_op op_add (pv 9) pe_int)) po_none)))
 (pss_cons (ps_if (pt_not (pt_val (pe_call (G__law_same T) hr (by rfl) T.g__law_same T.F__law_same.kp T.b__law_same .nil pass0 (pa_cons (pe_call (G_with_edge T) (hr.mono (by decide)) (by rfl) T.g_with_edge T.F_with_edge.kp T.b_with_edge .nil pass0 (pa_cons (pv 7) (pa_cons (pv 9) (pa_cons (pv 10) pa_nil)))) (pa_cons (pe_call (G__law_end T) (hr.mono (by decide)) (by rfl) T.g__law_end T.F__law_end.kp T.b__law_end .nil pass0 (pa_cons (pv 2) (pa_cons (pv 3) (pa_cons (pv 11) (pa_cons (pv 4) pa_nil))))) pa_nil))))) (pss_one (ps_ret pe_bl)) pss_nil)
 (pss_one (ps_ret (pe_call (G__law_same T) hr (by rfl) T.g__law_same T.F__law_same.kp T.b__law_same .nil pass0 (pa_cons (pe_call (G_edges T) (hr.mono (by decide)) (by rfl) T.g_edges T.F_edges.kp T.b_edges .nil pass0 (pa_cons (pv 7) pa_nil)) (pa_cons (pv 6) pa_nil))))))))))))))))))))))))), ?_⟩
  refine law_plainT (n := 13) hP hS hne k (fun He Hf hT => (sms_seq (sms_asg (SmO.sm (smo_call len__law_stream (smq_scr 0 (smq_cons (sm_int _) smq_nil)))) (smg_name 1))
 (sms_seq (sms_asg (sm_ix (f2 := false) (SmO.sm (smo_lst (sma_cons (sm_str _) (sma_cons (sm_str _) (sma_cons (sm_str _) (sma_cons (sm_str _) (sma_cons (sm_str _) (sma_cons (sm_str _) sma_nil)))))))) (sm_op (f1 := false) (f2 := false) (opd_I (g' := fun i j => .int (i % j)) fun _ _ => rfl) (sm_ix (f2 := false) (sm_var 1) (sm_int _)) (sm_int _))) (smg_name 2))
 (sms_seq (sms_asg (sm_call len__law_operand (smq_cons (sm_ix (f2 := false) (sm_var 1) (sm_int _)) (smq_cons (sm_ix (f2 := false) (sm_var 1) (sm_int _)) smq_nil))) (smg_name 3))
 (sms_seq (sms_if (smt_and (smt_t (f1 := false) (sm_op (f1 := false) (f2 := false) opd_eq (sm_var 2) (sm_str _))) (smt_t (f1 := false) (sm_op (f1 := false) (f2 := false) opd_eq (sm_op (f1 := false) (f2 := false) (opd_I (g' := fun i j => .int (i % j)) fun _ _ => rfl) (sm_ix (f2 := false) (sm_var 1) (sm_int _)) (sm_int _)) (sm_int _))))
 (sms_asg sm_non (smg_name 3))
 sms_next)
 (sms_seq (sms_asg (SmO.sm (smo_lc (i := 12) (smi_rng1 (f1 := false) (sm_op (f1 := false) (f2 := false) (opd_I (g' := fun i j => .int (i % j)) fun _ _ => rfl) (sm_ix (f2 := false) (sm_var 1) (sm_int _)) (sm_int _))) smt_yes (sm_op (f1 := false) (f2 := false) (opd_I0 (g' := fun i j => .int (i + j)) fun _ _ => rfl) (sm_op (f1 := false) (f2 := false) (opd_I (g' := fun i j => .int (i % j)) fun _ _ => rfl) (sm_ix (f2 := false) (sm_var 1) (sm_int _)) (sm_int _)) (sm_op (f1 := false) (f2 := false) (opd_I (g' := fun i j => .int (i * j)) fun _ _ => rfl) (sm_int _) (sm_var 12))))) (smg_name 4))
 (sms_seq (sms_asg (sm_int _) (smg_name 5))
 (sms_seq (sms_if (smt_t (f1 := false) (sm_op (f1 := false) (f2 := false) opd_eq (sm_var 2) (sm_str _)))
 (sms_asg (sm_int _) (smg_name 5))
 sms_next)
 (sms_seq (sms_if (smt_t (f1 := false) (sm_op (f1 := false) (f2 := false) opd_eq (sm_var 2) (sm_str _)))
 (sms_asg (sm_int _) (smg_name 5))
 sms_next)
 (sms_seq (sms_if (smt_t (f1 := false) (sm_op (f1 := false) (f2 := false) opd_eq (sm_var 2) (sm_str _)))
 (sms_asg (sm_op (f1 := false) (f2 := false) (opd_I0 (g' := fun i j => .int (i + j)) fun _ _ => rfl) (sm_cb (f1 := false) cbd_len (sma_cons (sm_var 4) sma_nil)) (sm_int _)) (smg_name 5))
 sms_next)
 (sms_seq (sms_if (smt_t (f1 := false) (sm_op (f1 := false) (f2 := false) opd_eq (sm_var 2) (sm_str _)))
 (sms_asg (SmO.sm (smo_lst (sma_cons (sm_op (f1 := false) (f2 := false) (opd_I (g' := fun i j => .int (i % j)) fun _ _ => rfl) (sm_ix (f2 := false) (sm_var 1) (sm_int _)) (sm_op (f1 := false) (f2 := false) (opd_I (g' := fun i j => .int (i ^ j.toNat)) fun _ _ => rfl) (sm_int _) (sm_int _))) sma_nil))) (smg_name 4))
 sms_next)
 (sms_seq (sms_asg (SmO.sm (smo_call len__law_edges (smq_cons (sm_var 1) (smq_cons (sm_int _) (smq_cons (sm_var 5) smq_nil))))) (smg_name 6))
 (sms_seq (sms_asg (sm_call len__law_end (smq_cons (sm_var 2) (smq_cons (sm_var 3) (smq_cons (sm_var 6) (smq_cons (sm_var 4) smq_nil))))) (smg_name 7))
 (sms_seq (sms_if (smt_not (smt_b (f1 := false) (sm_call len__law_same (smq_cons (SmO.sm (smo_call len_edges (smq_cons (sm_var 7) smq_nil))) (smq_cons (sm_var 6) smq_nil)))))
 (sms_ret (sm_bl _))
 sms_next)
 (sms_seq (sms_asg (SmO.sm (smo_lc (i := 13) (smi_list (sm_var 6)) smt_yes (sm_tup (sma_cons (sm_op (f1 := false) (f2 := false) (opd_I0 (g' := fun i j => .int (i + j)) fun _ _ => rfl) (sm_op (f1 := false) (f2 := false) (opd_I (g' := fun i j => .int (i * j)) fun _ _ => rfl) (sm_int _) (sm_ix (f2 := false) (sm_var 13) (sm_int _))) (sm_int _)) (sma_cons (sm_ix (f2 := false) (sm_var 13) (sm_int _)) sma_nil))))) (smg_name 8))
 (sms_seq (sms_if (smt_not (smt_b (f1 := false) (sm_call len__law_same (smq_cons (sm_call len_map_labels (smq_cons (sm_var 7) (smq_lam (F := lam_0) rfl hT rfl smq_nil))) (smq_cons (sm_call len__law_end (smq_cons (sm_var 2) (smq_cons (sm_var 3) (smq_cons (sm_var 8) (smq_cons (sm_var 4) smq_nil))))) smq_nil)))))
 (sms_ret (sm_bl _))
 sms_next)
 (sms_seq (sms_if (smt_t (f1 := false) (sm_op (f1 := false) (f2 := false) opd_eq (sm_var 5) (sm_int _)))
 (sms_ret (sm_call len__law_same (smq_cons (sm_call len_map_labels (smq_cons (sm_var 7) (smq_lam (F := lam_1) rfl hT rfl smq_nil))) (smq_cons (sm_var 7) smq_nil))))
 sms_next)
 (sms_seq (sms_asg (sm_op (f1 := false) (f2 := false) (opd_I (g' := fun i j => .int (i % j)) fun _ _ => rfl) (sm_ix (f2 := false) (sm_var 1) (sm_int _)) (sm_var 5)) (smg_name 9))
 (sms_seq (sms_asg (sm_tup (sma_cons (sm_op (f1 := false) (f2 := false) (opd_I (g' := fun i j => .int (i % j)) fun _ _ => rfl) (sm_ix (f2 := false) (sm_var 1) (sm_int _)) (sm_op (f1 := false) (f2 := false) (opd_I (g' := fun i j => .int (i ^ j.toNat)) fun _ _ => rfl) (sm_int _) (sm_int _))) (sma_cons (sm_tup (sma_cons (sm_call len__law_operand (smq_cons (sm_ix (f2 := false) (sm_var 1) (sm_int _)) (smq_cons (sm_ix (f2 := false) (sm_var 1) (sm_int _)) smq_nil))) sma_nil)) sma_nil))) (smg_name 10))
 (sms_seq (sms_asg (SmO.sm (smo_cat (SmO.sm (smo_cat (SmO.sm (smo_slice (sm_var 6) smp_none (smp_some (f1 := false) (sm_var 9)))) (SmO.sm (smo_lst (sma_cons (sm_var 10) sma_nil))))) (SmO.sm (smo_slice (sm_var 6) (smp_some (f1 := false) (sm_op (f1 := false) (f2 := false) (opd_I0 (g' := fun i j => .int (i + j)) fun _ _ => rfl) (sm_var 9) (sm_int _))) smp_none)))) (smg_name 11))
 (sms_seq (sms_if (smt_not (smt_b (f1 := false) (sm_call len__law_same (smq_cons (sm_call len_with_edge (smq_cons (sm_var 7) (smq_cons (sm_var 9) (smq_cons (sm_var 10) smq_nil)))) (smq_cons (sm_call len__law_end (smq_cons (sm_var 2) (smq_cons (sm_var 3) (smq_cons (sm_var 11) (smq_cons (sm_var 4) smq_nil))))) smq_nil)))))
 (sms_ret (sm_bl _))
 sms_next)
 (sms_ret (sm_call len__law_same (smq_cons (SmO.sm (smo_call len_edges (smq_cons (sm_var 7) smq_nil))) (smq_cons (sm_var 6) smq_nil))))))))))))))))))))))))) ?_
  refine seq_op fun N hN => ?_
  simp
  refine ⟨ns, 80, rfl, hlen, by decide, fun row h1 h2 h3 => ⟨_, rfl, hN _ ?_⟩⟩
  clear hN N
  obtain ⟨v0, e0, z0, u0⟩ := row_at h3 (i := 0) (by omega) (by omega)
  obtain ⟨v1, e1, z1, u1⟩ := row_at h3 (i := 1) (by omega) (by omega)
  obtain ⟨v2, e2, z2, u2⟩ := row_at h3 (i := 2) (by omega) (by omega)
  obtain ⟨v3, e3, z3, u3⟩ := row_at h3 (i := 3) (by omega) (by omega)
  obtain ⟨v4, e4, z4, u4⟩ := row_at h3 (i := 4) (by omega) (by omega)
  obtain ⟨v5, e5, z5, u5⟩ := row_at h3 (i := 5) (by omega) (by omega)
  obtain ⟨v70, e70, z70, u70⟩ := row_at h3 (i := 70) (by omega) (by omega)
  obtain ⟨v71, e71, z71, u71⟩ := row_at h3 (i := 71) (by omega) (by omega)
  obtain ⟨v72, e72, z72, u72⟩ := row_at h3 (i := 72) (by omega) (by omega)
  obtain ⟨v73, e73, z73, u73⟩ := row_at h3 (i := 73) (by omega) (by omega)
  obtain ⟨wd, ew, mw⟩ := pick (xs := w6) (i := v0 % 6) (by omega) (by show v0 % 6 < 6; omega)
  refine seq_op fun N hN => ?_
  simp [e0, le_size, lt_size, cmul_l, cpow_l, cdiv_l]
  refine ⟨_, ew, hN _ ?_⟩
  clear hN N
  refine seq_op fun N hN => ?_
  simp [e1, e2]
  refine ⟨v1, v2, rfl, z1, z2, fun op hop => ?_⟩
  refine hN _ ?_
  clear hN N
  simp only [data_d]
  -- the end
  iterate 8 refine seq_grp ?_
  obtain ⟨RW, hRW⟩ : ∃ x : PyData, x = .list (row.map .int) := ⟨_, rfl⟩
  rw [← hRW]
  refine seq_by (fun δ => ∃ (e : End) (d : PyData) (vs : List Int), e.opd d ∧ e.vals vs ∧ vs.length ≤ 1000 ∧ e.es.length ≤ 7 ∧ (∀ x ∈ e.es, x.in) ∧ (∀ o ∈ e.os, o.good) ∧ δ = [some (.scr ns), some (.d RW), some (.d (.str e.wd)), some (.d d), some (.d (.list (vs.map .int))), some (.d (.int e.es.length)), some (.d (.list (e.es.map Edg.D))), some (.d e.D), none, none, none, none, none, none]) (fun δ hI => ?_) (fun N hN => ?_)
  rotate_left
  · iterate 7 refine seq_ungrp ?_
    refine seq_by (fun δ => ∃ d : PyData, (d = op.D ∨ (wd = Str.ofString "ret" ∧ d = .none)) ∧ δ = [some (.scr ns), some (.d RW), some (.d (.str wd)), some (.d d), none, none, none, none, none, none, none, none, none, none]) (fun δ hI => ?_) (fun N hN => ?_)
    rotate_left
    · by_cases cw : wd = Str.ofString "ret"
      · by_cases c3 : v3 % 3 = 0
        · simp [cw, hRW, e3, c3]
          rw [← hRW, ← cw]
          exact hN _ ⟨.none, .inr ⟨cw, rfl⟩, rfl⟩
        · simp [cw, hRW, e3, c3]
          rw [← hRW, ← cw]
          exact hN _ ⟨op.D, .inl rfl, rfl⟩
      · simp [cw]
        exact hN _ ⟨op.D, .inl rfl, rfl⟩
    obtain ⟨d, hd, rfl⟩ := hI
    refine seq_by (fun δ => ∃ vs : List Int, vs.length ≤ 6 ∧ δ = [some (.scr ns), some (.d RW), some (.d (.str wd)), some (.d d), some (.d (.list (vs.map .int))), none, none, none, none, none, none, none, none, none]) (fun δ hI => ?_) (fun N hN => ?_)
    rotate_left
    · simp
      refine oLc_n (n := (v5 % 7).toNat) (by omega) (fun Ψ hΨ => by rw [show ((v5 % 7).toNat : Int) = v5 % 7 by omega] at hΨ; simpa [hRW, e5] using hΨ) (fun acc => ∃ vs : List Int, acc = vs.map .int) ⟨[], rfl⟩ (fun k acc Ψ hk hlen hP hz => ?_) (fun acc hlen hP => ?_)
      · obtain ⟨vs, rfl⟩ := hP
        have cm : CMul 7 (k : Int) := .inl ⟨by omega, by omega⟩
        simp [hRW, e4, cm]
        exact hz _ ⟨vs ++ [v4 % 50 + 7 * k], by simp⟩
      · obtain ⟨vs, rfl⟩ := hP
        rw [List.length_map] at hlen
        exact hN _ ⟨vs, by omega, rfl⟩
    obtain ⟨vs, hvs, rfl⟩ := hI
    have gop : op.good := hop.good
    rcases w6_c mw with rfl | rfl | rfl | rfl | rfl
    · simp [le_size, lt_size, cmul_l, cpow_l, cdiv_l]
      refine ⟨row, 6, 1, by rw [hRW]; rfl, h3, by omega, by omega, fun es he1 he2 => ?_⟩
      obtain ⟨x, rfl⟩ : ∃ x, es = [x] := List.length_eq_one_iff.mp he1
      simp
      refine ⟨.br x, d, vs, rfl, trivial, trivial, by omega, ?_⟩
      simp
      exact hN _ ⟨.br x, d, vs, trivial, trivial, by omega, by simp [End.es], he2, al0', rfl⟩
    · obtain rfl : d = op.D := by simpa using hd
      simp [le_size, lt_size, cmul_l, cpow_l, cdiv_l]
      refine ⟨row, 6, 2, by rw [hRW]; rfl, h3, by omega, by omega, fun es he1 he2 => ?_⟩
      obtain ⟨x, y, rfl⟩ : ∃ x y, es = [x, y] := by
        match es, he1 with
        | [x, y], _ => exact ⟨x, y, rfl⟩
      simp
      refine ⟨.con op x y, op.D, vs, rfl, rfl, trivial, by omega, ?_⟩
      simp
      exact hN _ ⟨.con op x y, op.D, vs, rfl, trivial, by omega, by simp [End.es], he2, by simp [End.os, gop], rfl⟩
    · obtain rfl : d = op.D := by simpa using hd
      simp [le_size, lt_size, cmul_l, cpow_l, cdiv_l]
      refine ⟨row, 6, vs.length + 1, by rw [hRW]; rfl, h3, by omega, by omega, fun es he1 he2 => ?_⟩
      obtain ⟨cs, x, rfl, rfl⟩ := sw_of he1
      rw [List.length_map] at hvs
      refine ⟨_, rfl, ?_⟩
      refine ⟨.sw op cs x, op.D, cs.map (fun c : Int × Edg => c.1), rfl, rfl, rfl, by rw [List.length_map]; omega, ?_⟩
      exact hN _ ⟨.sw op cs x, op.D, cs.map (fun c : Int × Edg => c.1), rfl, rfl, by rw [List.length_map]; omega, by simp [End.es]; omega, he2, by simp [End.os, gop], by simp [End.es, End.wd]⟩
    · simp [le_size, lt_size, cmul_l, cpow_l, cdiv_l]
      refine ⟨row, 6, 0, by rw [hRW]; rfl, h3, by omega, by omega, fun es he1 he2 => ?_⟩
      obtain rfl : es = [] := List.length_eq_zero_iff.mp he1
      simp
      rcases hd with rfl | ⟨_, rfl⟩
      · refine ⟨.ret op, op.D, vs, rfl, rfl, trivial, by omega, ?_⟩
        simp
        exact hN _ ⟨.ret op, op.D, vs, rfl, trivial, by omega, by simp [End.es], al0', by simp [End.os, gop], rfl⟩
      · refine ⟨.retN, .none, vs, rfl, rfl, trivial, by omega, ?_⟩
        simp
        exact hN _ ⟨.retN, .none, vs, rfl, trivial, by omega, by simp [End.es], al0', al0', rfl⟩
    · simp [le_size, lt_size, cmul_l, cpow_l, cdiv_l, hRW, e4]
      refine ⟨row, 6, 0, rfl, h3, by omega, by omega, fun es he1 he2 => ?_⟩
      obtain rfl : es = [] := List.length_eq_zero_iff.mp he1
      simp
      refine ⟨.stop (v4 % 1000000000), d, [v4 % 1000000000], rfl, trivial, ⟨[], rfl⟩, by simp, ?_⟩
      simp
      rw [← hRW]
      exact hN _ ⟨.stop (v4 % 1000000000), d, [v4 % 1000000000], trivial, ⟨[], rfl⟩, by simp, by simp [End.es], al0', al0', rfl⟩
  obtain ⟨e, d, vs, ho, hv, hvl, hl, hg, hgo, rfl⟩ := hI
  have hgg : ∀ x ∈ e.es, x.good := fun x hx => (hg x hx).good
  have okes : ∀ ys : List Edg, (∀ x ∈ ys, x.good) → ys.length ≤ 7 → Okd 4 (.list (ys.map Edg.D)) := fun ys h hl => es_okd h (by omega)
  refine seq_op fun N hN => ?_
  simp
  refine ⟨e, rfl, by omega, _, rfl, ?_⟩
  refine ⟨_, rfl, ⟨4, by decide, okes _ hgg hl⟩, ?_⟩
  simp
  refine hN _ ?_
  clear hN N
  -- moved
  refine seq_op fun N hN => ?_
  simp
  refine oLc_of e.es Edg.D (fun x => (x.mpL fun n => 3 * n + 1).D) (by omega) (fun Ψ hΨ => by simpa using hΨ) (fun k x Ψ hx hΨ => ?_) ?_
  · have hxg := hg x (List.mem_of_getElem? hx)
    have cm : CMul 3 x.lb := .inl ⟨by have := hxg.2.2.1; omega, by have := hxg.2.2.2; omega⟩
    simp [Edg.D, cm, le_size, lt_size, cmul_l, cpow_l, cdiv_l]
    simpa [Edg.D, Edg.mpL, le_size, lt_size, cmul_l, cpow_l, cdiv_l] using hΨ
  refine hN _ ?_
  clear hN N
  have em : ∀ g : Int → Int, e.es.map (fun x => (x.mpL g).D) = (e.es.map (Edg.mpL g)).map Edg.D := fun g => by rw [List.map_map]; rfl
  rw [em]
  obtain ⟨f, kf, ef, wf, of_, vf, sf⟩ := with_es (e := e) (ys := e.es.map (Edg.mpL fun n => 3 * n + 1)) (by rw [List.length_map])
  have gf : ∀ x ∈ f.es, x.good := fun x hx => by
    rw [ef] at hx
    obtain ⟨y, hy, rfl⟩ := List.mem_map.mp hx
    exact hgg y hy
  refine seq_op fun N hN => ?_
  simp
  refine ⟨lam_0, spl_0, fun n => 3 * n + 1, e, f, rfl, .inl ⟨rfl, rfl⟩, fun x hx Ψ h => ⟨x.lb, rfl, (hg x hx).2.2.1, (hg x hx).2.2.2, h⟩, by omega, kf, ef, ?_⟩
  refine ⟨f, d, vs, by rw [wf, ef]; simp, of_ _ ho, vf _ hv, hvl, ?_⟩
  refine ⟨_, rfl, ⟨6, by decide, End.okd2 (by rw [ef, List.length_map]; omega) gf (by rw [sf]; exact hgo)⟩, ?_⟩
  simp
  refine hN _ ?_
  clear hN N
  by_cases hc : e.es = []
  · simp [hc]
    have er : e.like e := by cases e <;> simp [End.like]
    refine ⟨lam_1, spl_1, fun n => n, e, e, rfl, .inr ⟨rfl, rfl⟩, fun x hx Ψ h => ⟨x.lb, rfl, h⟩, by omega, er, by rw [hc]; rfl, ?_⟩
    exact ⟨_, rfl, ⟨6, by decide, End.okd2 (by omega) hgg hgo⟩, rfl⟩
  have hn0 : 0 < e.es.length := List.length_pos_iff.mpr hc
  refine seq_op fun N hN => ?_
  simp [hc]
  refine hN _ ?_
  clear hN N
  obtain ⟨i, hi⟩ : ∃ i : Nat, (i : Int) = v70 % (e.es.length : Int) := ⟨(v70 % (e.es.length : Int)).toNat, by have := Int.emod_nonneg v70 (b := (e.es.length : Int)) (by omega); omega⟩
  have hil : i < e.es.length := by
    have := Int.emod_lt_of_pos v70 (b := (e.es.length : Int)) (by omega)
    omega
  refine seq_op fun N hN => ?_
  simp [hRW, e70, hc]
  rw [← hRW, ← hi]
  refine ⟨hn0, hN _ ?_⟩
  clear hN N
  refine seq_op fun N hN => ?_
  simp [hRW, e71, e72, e73, le_size, lt_size, cmul_l, cpow_l, cdiv_l]
  rw [← hRW]
  refine ⟨v72, v73, rfl, z72, z73, fun op2 hop2 => ?_⟩
  refine hN _ ?_
  clear hN N
  simp only [data_d]
  obtain ⟨x, hx⟩ : ∃ x : Edg, x = ⟨v71 % 1000000000, [op2]⟩ := ⟨_, rfl⟩
  have gx : x.good := by rw [hx]; exact ⟨by simp, by simp; exact hop2.good⟩
  have ex : PyData.tuple [PyData.int (v71 % 1000000000), PyData.tuple [op2.D]] = x.D := by rw [hx]; simp [Edg.D]
  rw [ex]
  refine seq_op fun N hN => ?_
  simp [le_size, lt_size, cmul_l, cpow_l, cdiv_l]
  rw [cut_up (by rw [List.length_map]; omega), cut_down (by rw [List.length_map]; omega), cut_set (by rw [List.length_map]; exact hil), ← List.map_set]
  refine ⟨fz2 (by rw [List.length_take, List.length_map]; omega), fz2 (by rw [List.length_take, List.length_drop, List.length_map]; omega), hN _ ?_⟩
  clear hN N
  obtain ⟨u, ku, eu, wu, ou, vu, su⟩ := with_es (e := e) (ys := e.es.set i x) (by rw [List.length_set])
  have gu : ∀ y ∈ u.es, y.good := fun y hy => by
    rw [eu] at hy
    rcases List.mem_or_eq_of_mem_set hy with h | h
    · exact hgg y h
    · rw [h]; exact gx
  refine seq_op fun N hN => ?_
  simp
  refine ⟨e, u, i, x, rfl, hil, by omega, ku, eu, ?_⟩
  refine ⟨u, d, vs, by rw [wu, eu, List.map_set], ou _ ho, vu _ hv, hvl, ?_⟩
  refine ⟨_, rfl, ⟨6, by decide, End.okd2 (by rw [eu, List.length_set]; omega) gu (by rw [su]; exact hgo)⟩, ?_⟩
  simp
  refine hN _ ?_
  clear hN N
  simp
  refine ⟨e, rfl, by omega, _, rfl, ?_⟩
  exact ⟨_, rfl, ⟨4, by decide, okes _ hgg hl⟩, rfl⟩

end
theorem all_mk {l : PySem.W.OpenLaw} {w : World} {K : PySem.W.Frag} {h : Heap} {mg : Str → Option Value} {fa : Addr} (X : K.In h) (G : h.Ns mainGlobals mg) (hfa : mg "law" = some (.ref fa))
    {f0 : Addr} {od0 an0 : Option Addr} {sl0 : Array (Option Value)} {oc0 kV0 dc0 pm0 cd0 ct0 : Value}
    {f1 : Addr} {od1 an1 : Option Addr} {sl1 : Array (Option Value)} {oc1 kV1 dc1 pm1 cd1 ct1 : Value}
    {f2 : Addr} {od2 an2 : Option Addr} {sl2 : Array (Option Value)} {oc2 kV2 dc2 pm2 cd2 ct2 : Value}
    {f3 : Addr} {od3 an3 : Option Addr} {sl3 : Array (Option Value)} {oc3 kV3 dc3 pm3 cd3 ct3 : Value}
    {f4 : Addr} {od4 an4 : Option Addr} {sl4 : Array (Option Value)} {oc4 kV4 dc4 pm4 cd4 ct4 : Value}
    {f5 : Addr} {od5 an5 : Option Addr} {sl5 : Array (Option Value)} {oc5 kV5 dc5 pm5 cd5 ct5 : Value}
    {f6 : Addr} {od6 an6 : Option Addr} {sl6 : Array (Option Value)} {oc6 kV6 dc6 pm6 cd6 ct6 : Value}
    {f7 : Addr} {od7 an7 : Option Addr} {sl7 : Array (Option Value)} {oc7 kV7 dc7 pm7 cd7 ct7 : Value}
    {f8 : Addr} {od8 an8 : Option Addr} {sl8 : Array (Option Value)} {oc8 kV8 dc8 pm8 cd8 ct8 : Value}
    {f9 : Addr} {od9 an9 : Option Addr} {sl9 : Array (Option Value)} {oc9 kV9 dc9 pm9 cd9 ct9 : Value}
    (a0 : PySem.W.nsIn K mainGlobals "edges" = some (some (.ref f0))) (l0 : K.lookup f0 = some ⟨oc0, od0, .func (PySem.W.fnOf "edges" "edges" (defArgs sedges) (defBody sedges) (defScope sedges) .none kV0 dc0 pm0 an0 cd0 ct0), sl0⟩) (c0 : PySem.W.codeIn K cd0 "edges" = true) (k0 : PySem.W.keepIn K (.ref f0) = true)
    (a1 : PySem.W.nsIn K mainGlobals "with_edges" = some (some (.ref f1))) (l1 : K.lookup f1 = some ⟨oc1, od1, .func (PySem.W.fnOf "with_edges" "with_edges" (defArgs swith_edges) (defBody swith_edges) (defScope swith_edges) .none kV1 dc1 pm1 an1 cd1 ct1), sl1⟩) (c1 : PySem.W.codeIn K cd1 "with_edges" = true) (k1 : PySem.W.keepIn K (.ref f1) = true)
    (a2 : PySem.W.nsIn K mainGlobals "with_edge" = some (some (.ref f2))) (l2 : K.lookup f2 = some ⟨oc2, od2, .func (PySem.W.fnOf "with_edge" "with_edge" (defArgs swith_edge) (defBody swith_edge) (defScope swith_edge) .none kV2 dc2 pm2 an2 cd2 ct2), sl2⟩) (c2 : PySem.W.codeIn K cd2 "with_edge" = true) (k2 : PySem.W.keepIn K (.ref f2) = true)
    (a3 : PySem.W.nsIn K mainGlobals "map_labels" = some (some (.ref f3))) (l3 : K.lookup f3 = some ⟨oc3, od3, .func (PySem.W.fnOf "map_labels" "map_labels" (defArgs smap_labels) (defBody smap_labels) (defScope smap_labels) .none kV3 dc3 pm3 an3 cd3 ct3), sl3⟩) (c3 : PySem.W.codeIn K cd3 "map_labels" = true) (k3 : PySem.W.keepIn K (.ref f3) = true)
    (a4 : PySem.W.nsIn K mainGlobals "_law_stream" = some (some (.ref f4))) (l4 : K.lookup f4 = some ⟨oc4, od4, .func (PySem.W.fnOf "_law_stream" "_law_stream" (defArgs s_law_stream) (defBody s_law_stream) (defScope s_law_stream) .none kV4 dc4 pm4 an4 cd4 ct4), sl4⟩) (c4 : PySem.W.codeIn K cd4 "_law_stream" = true) (k4 : PySem.W.keepIn K (.ref f4) = true)
    (a5 : PySem.W.nsIn K mainGlobals "_law_same" = some (some (.ref f5))) (l5 : K.lookup f5 = some ⟨oc5, od5, .func (PySem.W.fnOf "_law_same" "_law_same" (defArgs s_law_same) (defBody s_law_same) (defScope s_law_same) .none kV5 dc5 pm5 an5 cd5 ct5), sl5⟩) (c5 : PySem.W.codeIn K cd5 "_law_same" = true) (k5 : PySem.W.keepIn K (.ref f5) = true)
    (a6 : PySem.W.nsIn K mainGlobals "_law_operand" = some (some (.ref f6))) (l6 : K.lookup f6 = some ⟨oc6, od6, .func (PySem.W.fnOf "_law_operand" "_law_operand" (defArgs s_law_operand) (defBody s_law_operand) (defScope s_law_operand) .none kV6 dc6 pm6 an6 cd6 ct6), sl6⟩) (c6 : PySem.W.codeIn K cd6 "_law_operand" = true) (k6 : PySem.W.keepIn K (.ref f6) = true)
    (a7 : PySem.W.nsIn K mainGlobals "_law_end" = some (some (.ref f7))) (l7 : K.lookup f7 = some ⟨oc7, od7, .func (PySem.W.fnOf "_law_end" "_law_end" (defArgs s_law_end) (defBody s_law_end) (defScope s_law_end) .none kV7 dc7 pm7 an7 cd7 ct7), sl7⟩) (c7 : PySem.W.codeIn K cd7 "_law_end" = true) (k7 : PySem.W.keepIn K (.ref f7) = true)
    (a8 : PySem.W.nsIn K mainGlobals "_law_edges" = some (some (.ref f8))) (l8 : K.lookup f8 = some ⟨oc8, od8, .func (PySem.W.fnOf "_law_edges" "_law_edges" (defArgs s_law_edges) (defBody s_law_edges) (defScope s_law_edges) .none kV8 dc8 pm8 an8 cd8 ct8), sl8⟩) (c8 : PySem.W.codeIn K cd8 "_law_edges" = true) (k8 : PySem.W.keepIn K (.ref f8) = true)
    (a9 : PySem.W.nsIn K mainGlobals "law" = some (some (.ref f9))) (l9 : K.lookup f9 = some ⟨oc9, od9, .func (PySem.W.fnOf "law" "law" (defArgs slaw) (defBody slaw) (defScope slaw) .none kV9 dc9 pm9 an9 cd9 ct9), sl9⟩) (c9 : PySem.W.codeIn K cd9 "law" = true) (k9 : PySem.W.keepIn K (.ref f9) = true)
    (z_tuple : PySem.W.nsIn K mainGlobals "tuple" = some none)
    (z_zip : PySem.W.nsIn K mainGlobals "zip" = some none)
    (z_range : PySem.W.nsIn K mainGlobals "range" = some none)
    (z_abs : PySem.W.nsIn K mainGlobals "abs" = some none)
    (z_isinstance : PySem.W.nsIn K mainGlobals "isinstance" = some none)
    (z_list : PySem.W.nsIn K mainGlobals "list" = some none)
    (z_bool : PySem.W.nsIn K mainGlobals "bool" = some none)
    (z_len : PySem.W.nsIn K mainGlobals "len" = some none)
    (z_int : PySem.W.nsIn K mainGlobals "int" = some none)
    (z_str : PySem.W.nsIn K mainGlobals "str" = some none)
    {cc Pt : Addr} (hPe : h.get? Pt = some { cls := .none, data := .fields #[] }) (hcc : cd9 = .ref cc) (hhd : PySem.W.codeHdIn K cc Pt = true) (hno : K.lookup Pt = none) : LamX.LawAtS l w K L2.CX0 14 63 "script" mg fa h := by
  have e := hfa.symm.trans (PySem.W.mg_of X G a9)
  cases e
  have F0 := fun_mk (st := sedges) l0 c0 k0
  have b0 := F0.binds (ps := ["end"]) fun _ _ _ _ _ _ us hl => match us, hl with | [_], _ => rfl
  have F1 := fun_mk (st := swith_edges) l1 c1 k1
  have b1 := F1.binds (ps := ["end", "row"]) fun _ _ _ _ _ _ us hl => match us, hl with | [_, _], _ => rfl
  have F2 := fun_mk (st := swith_edge) l2 c2 k2
  have b2 := F2.binds (ps := ["end", "slot", "edge"]) fun _ _ _ _ _ _ us hl => match us, hl with | [_, _, _], _ => rfl
  have F3 := fun_mk (st := smap_labels) l3 c3 k3
  have b3 := F3.binds (ps := ["end", "change"]) fun _ _ _ _ _ _ us hl => match us, hl with | [_, _], _ => rfl
  have F4 := fun_mk (st := s_law_stream) l4 c4 k4
  have b4 := F4.binds (ps := ["script", "count"]) fun _ _ _ _ _ _ us hl => match us, hl with | [_, _], _ => rfl
  have F5 := fun_mk (st := s_law_same) l5 c5 k5
  have b5 := F5.binds (ps := ["actual", "expected"]) fun _ _ _ _ _ _ us hl => match us, hl with | [_, _], _ => rfl
  have F6 := fun_mk (st := s_law_operand) l6 c6 k6
  have b6 := F6.binds (ps := ["first", "second"]) fun _ _ _ _ _ _ us hl => match us, hl with | [_, _], _ => rfl
  have F7 := fun_mk (st := s_law_end) l7 c7 k7
  have b7 := F7.binds (ps := ["word", "operand", "row", "values"]) fun _ _ _ _ _ _ us hl => match us, hl with | [_, _, _, _], _ => rfl
  have F8 := fun_mk (st := s_law_edges) l8 c8 k8
  have b8 := F8.binds (ps := ["row", "at", "count"]) fun _ _ _ _ _ _ us hl => match us, hl with | [_, _, _], _ => rfl
  have F9 := fun_mk (st := slaw) l9 c9 k9
  have b9 := F9.binds (ps := ["script"]) fun _ _ _ _ _ _ us hl => match us, hl with | [_], _ => rfl
  subst hcc
  exact ⟨PySem.W.fnOf "law" "law" (defArgs slaw) (defBody slaw) (defScope slaw) .none kV9 dc9 pm9 an9 (.ref cc) ct9, [(cc, Pt)], spLawT K Pt, fun p hp => by rw [List.mem_singleton.mp hp]; exact hPe, fun p hp => by rw [List.mem_singleton.mp hp]; exact hno, fun p hp => by rw [List.mem_singleton.mp hp]; exact PySem.W.codeHd_of_K X hhd, fun s v => .of_eq rfl, fun H a ns hl _ hT hS => ⟨a, ns, rfl, hT _ (List.mem_singleton.mpr rfl), lawT_ne (hT _ (List.mem_singleton.mpr rfl)) hno hS, hS, hl, fun _ => rfl⟩, fun base _ _ TB => ok_law ⟨f0, _, F0, PySem.W.mg_of X G a0, b0, f1, _, F1, PySem.W.mg_of X G a1, b1, f2, _, F2, PySem.W.mg_of X G a2, b2, f3, _, F3, PySem.W.mg_of X G a3, b3, f4, _, F4, PySem.W.mg_of X G a4, b4, f5, _, F5, PySem.W.mg_of X G a5, b5, f6, _, F6, PySem.W.mg_of X G a6, b6, f7, _, F7, PySem.W.mg_of X G a7, b7, f8, _, F8, PySem.W.mg_of X G a8, b8, fa, _, F9, PySem.W.mg_of X G a9, b9, PySem.W.mg_none_of X G z_tuple, PySem.W.mg_none_of X G z_zip, PySem.W.mg_none_of X G z_range, PySem.W.mg_none_of X G z_abs, PySem.W.mg_none_of X G z_isinstance, PySem.W.mg_none_of X G z_list, PySem.W.mg_none_of X G z_bool, PySem.W.mg_none_of X G z_len, PySem.W.mg_none_of X G z_int, PySem.W.mg_none_of X G z_str⟩ (TB _ (List.mem_singleton.mpr rfl)) ⟨⟨_, _, _, _, _, _, _, _, rfl, l9, c9⟩⟩⟩
end Toy
open PySem PySem.W PyProof.Rows
set_option maxRecDepth 100000 in
set_option maxHeartbeats 0 in
theorem PySem.Challenge.cw_burnish_k03_edges_by_slots_holds : PySem.Challenge.rw_burnish_k03_edges_by_slots.Holds := by
  w_on; o_law; k_head; (case hw => w_witness2)
  k_fill
  refine LamX.walk_ofTs (l := PySem.Challenge.rw_burnish_k03_edges_by_slots) (n := 63) (k := 14) (x := "script") (CX := fun _ => L2.CX0) rfl (by decide) rfl ⟨rfl, by decide, by decide⟩ (fun w h Y => PySem.W.km_in_of Y) ?F (fun _ _ _ _ _ h => h)
  case F =>
    intro w mg fa h Y KX G hmg
    have hT8 := PySem.W.km_tabs_of Y
    refine' Toy.all_mk KX G hmg ?a0 ?l0 ?c0 ?k0 ?a1 ?l1 ?c1 ?k1 ?a2 ?l2 ?c2 ?k2 ?a3 ?l3 ?c3 ?k3 ?a4 ?l4 ?c4 ?k4 ?a5 ?l5 ?c5 ?k5 ?a6 ?l6 ?c6 ?k6 ?a7 ?l7 ?c7 ?k7 ?a8 ?l8 ?c8 ?k8 ?a9 ?l9 ?c9 ?k9 ?z_tuple ?z_zip ?z_range ?z_abs ?z_isinstance ?z_list ?z_bool ?z_len ?z_int ?z_str ?hPe ?hcc ?hhd ?hno
    (case a0 => k_is)
    (case l0 => k_is)
    (case c0 => k_is)
    (case k0 => k_is)
    (case a1 => k_is)
    (case l1 => k_is)
    (case c1 => k_is)
    (case k1 => k_is)
    (case a2 => k_is)
    (case l2 => k_is)
    (case c2 => k_is)
    (case k2 => k_is)
    (case a3 => k_is)
    (case l3 => k_is)
    (case c3 => k_is)
    (case k3 => k_is)
    (case a4 => k_is)
    (case l4 => k_is)
    (case c4 => k_is)
    (case k4 => k_is)
    (case a5 => k_is)
    (case l5 => k_is)
    (case c5 => k_is)
    (case k5 => k_is)
    (case a6 => k_is)
    (case l6 => k_is)
    (case c6 => k_is)
    (case k6 => k_is)
    (case a7 => k_is)
    (case l7 => k_is)
    (case c7 => k_is)
    (case k7 => k_is)
    (case a8 => k_is)
    (case l8 => k_is)
    (case c8 => k_is)
    (case k8 => k_is)
    (case a9 => k_is)
    (case l9 => k_is)
    (case c9 => k_is)
    (case k9 => k_is)
    (case z_tuple => k_is)
    (case z_zip => k_is)
    (case z_range => k_is)
    (case z_abs => k_is)
    (case z_isinstance => k_is)
    (case z_list => k_is)
    (case z_bool => k_is)
    (case z_len => k_is)
    (case z_int => k_is)
    (case z_str => k_is)
    (case hPe => exact hT8 _ (List.mem_singleton.mpr rfl))
    (case hcc => rfl)
    (case hhd => first | kernel_rfl | exact rfl | decide +kernel)
    (case hno => first | kernel_rfl | exact rfl | decide +kernel)
