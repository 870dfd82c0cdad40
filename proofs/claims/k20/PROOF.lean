import PyProof.Rows.All
import Wide.All
import OpenK.AllK
import Wide.FinOn
import HandS.ForMost
import HandS.IsInst
import HandS.Wide
import HandS.More
import HandS.WideBits
import KE.GoesEnum
import HandS.TupAny
import KE.DataMinMax
import HandS.SortKw
import HandS.FStr
import HandS.Zip
import HandS.CallLocal
import PyProof.Rows.StrJoinMade
import PyProof.StrLaws
import PyProof.ReprRoads
import HandS.Rev
import HandS.Style
import HandS.Conv
import HandS.Flow
import HandS.CallLocal
import HandS.More
import HandS.NoneIn
import HandS.WordsDict
import HandS.Iter
import HandS.WrittenGet
import HandS.NestedK
import HandS.EndTab
import HandS.SortInts
import HandS.DictComp
import HandS.SetKeys
import PySem.Challenge.RW_burnish_k20_graph_of_a_function
set_option Elab.async false
set_option linter.all false
set_option maxRecDepth 100000
set_option maxHeartbeats 4000000
/-! A layer of values over the hand layer: data are trees, the heap is hidden. -/
namespace VL
open PySem L2

/-! ### data in a heap -/
def keyD : Key → PyData
  | .inl i => .int i
  | .inr x => .str x
mutual
inductive Rp (K : PySem.W.Frag) (H : Hp) : V → PyData → Prop
  | non : Rp K H .non .none
  | bl (b : Bool) : Rp K H (.bl b) (.bool b)
  | int (i : Int) : Rp K H (.int i) (.int i)
  | str (x : Str) : Rp K H (.str x) (.str x)
  | lst {a : Addr} {xs : List V} {ds : List PyData} : H a = some (.lst xs) → RpA K H xs ds → Rp K H (.ref a) (.list ds)
  | tup {a : Addr} {xs : List V} {ds : List PyData} : SqT K H a xs → RpA K H xs ds → Rp K H (.ref a) (.tuple ds)
  | dic {a : Addr} {od : Obj} {kvs : List (Key × V)} {es : List (PyData × PyData)} : H a = some (.frz od (.dK kvs)) → RpD K H kvs es → Rp K H (.ref a) (.dict es)
inductive RpA (K : PySem.W.Frag) (H : Hp) : List V → List PyData → Prop
  | nil : RpA K H [] []
  | cons {v : V} {vs : List V} {d : PyData} {ds : List PyData} : Rp K H v d → RpA K H vs ds → RpA K H (v :: vs) (d :: ds)
inductive RpD (K : PySem.W.Frag) (H : Hp) : List (Key × V) → List (PyData × PyData) → Prop
  | nil : RpD K H [] []
  | cons {k : Key} {v : V} {kvs : List (Key × V)} {d : PyData} {es : List (PyData × PyData)} : Rp K H v d → RpD K H kvs es → RpD K H ((k, v) :: kvs) ((keyD k, d) :: es)
end
section
variable {K : PySem.W.Frag} {H H' : Hp}
theorem same_t {a : Addr} {xs : List V} (e : Same H H') (h : SqT K H a xs) : SqT K H' a xs := by
  rcases h with (h | ⟨o, h⟩) | h
  · exact .inl (.inl (e _ _ h))
  · exact .inl (.inr ⟨o, e _ _ h⟩)
  · exact .inr h
mutual
theorem Rp.mono (e : Same H H') : ∀ {v : V} {d : PyData}, Rp K H v d → Rp K H' v d
  | _, _, .non => .non
  | _, _, .bl b => .bl b
  | _, _, .int i => .int i
  | _, _, .str x => .str x
  | _, _, .lst h r => .lst (e _ _ h) (RpA.mono e r)
  | _, _, .tup h r => .tup (same_t e h) (RpA.mono e r)
  | _, _, .dic h r => .dic (e _ _ h) (RpD.mono e r)
theorem RpA.mono (e : Same H H') : ∀ {vs : List V} {ds : List PyData}, RpA K H vs ds → RpA K H' vs ds
  | _, _, .nil => .nil
  | _, _, .cons h r => .cons (Rp.mono e h) (RpA.mono e r)
theorem RpD.mono (e : Same H H') : ∀ {vs : List (Key × V)} {ds : List (PyData × PyData)}, RpD K H vs ds → RpD K H' vs ds
  | _, _, .nil => .nil
  | _, _, .cons h r => .cons (Rp.mono e h) (RpD.mono e r)
end
mutual
theorem Rp.dp : ∀ {v : V} {d : PyData}, Rp K H v d → d.canLay0 = true → Dp K H v d
  | _, _, .non, _ => .non
  | _, _, .bl b, _ => .bl b
  | _, _, .int i, _ => .int i
  | _, _, .str x, _ => .str x
  | _, _, .lst h r, c => .lst (SqL.of h) (RpA.dp r (by simpa [PyData.canLay0] using c))
  | _, _, .tup h r, c => .tup h (RpA.dp r (by simpa [PyData.canLay0] using c))
  | _, _, .dic h r, c => by simp [PyData.canLay0] at c
theorem RpA.dp : ∀ {vs : List V} {ds : List PyData}, RpA K H vs ds → PyData.canLayAll0 ds = true → DpAll K H vs ds
  | _, _, .nil, _ => .nil
  | _, _, .cons h r, c => by
    simp only [PyData.canLayAll0, Bool.and_eq_true] at c
    exact .cons (Rp.dp h c.1) (RpA.dp r c.2)
end
theorem RpA.length : ∀ {vs : List V} {ds : List PyData}, RpA K H vs ds → vs.length = ds.length
  | _, _, .nil => rfl
  | _, _, .cons _ r => by rw [List.length_cons, List.length_cons, RpA.length r]
theorem RpA.get : ∀ {vs : List V} {ds : List PyData} {i : Nat} {d : PyData}, RpA K H vs ds → ds[i]? = some d → ∃ v, vs[i]? = some v ∧ Rp K H v d
  | _, _, _, _, .nil, e => by simp at e
  | _, _, 0, _, .cons h _, e => by simp at e; subst e; exact ⟨_, rfl, h⟩
  | _, _, i + 1, _, .cons _ r, e => by
    obtain ⟨v, h1, h2⟩ := RpA.get (i := i) r (by simpa using e)
    exact ⟨v, by simpa using h1, h2⟩
theorem RpA.get' : ∀ {vs : List V} {ds : List PyData} {i : Nat} {v : V}, RpA K H vs ds → vs[i]? = some v → ∃ d, ds[i]? = some d ∧ Rp K H v d
  | _, _, _, _, .nil, e => by simp at e
  | _, _, 0, _, .cons h _, e => by simp at e; subst e; exact ⟨_, rfl, h⟩
  | _, _, i + 1, _, .cons _ r, e => by
    obtain ⟨v, h1, h2⟩ := RpA.get' (i := i) r (by simpa using e)
    exact ⟨v, by simpa using h1, h2⟩
theorem RpA.append : ∀ {vs us : List V} {ds es : List PyData}, RpA K H vs ds → RpA K H us es → RpA K H (vs ++ us) (ds ++ es)
  | _, _, _, _, .nil, r => r
  | _, _, _, _, .cons h r, s => .cons h (RpA.append r s)
theorem RpA.snoc {vs : List V} {ds : List PyData} {v : V} {d : PyData} (r : RpA K H vs ds) (h : Rp K H v d) : RpA K H (vs ++ [v]) (ds ++ [d]) := r.append (.cons h .nil)
theorem RpA.set {v : V} {d : PyData} (h : Rp K H v d) : ∀ {vs : List V} {ds : List PyData} (i : Nat), RpA K H vs ds → RpA K H (vs.set i v) (ds.set i d)
  | _, _, _, .nil => .nil
  | _, _, 0, .cons _ r => .cons h r
  | _, _, i + 1, .cons g r => .cons g (RpA.set h i r)
theorem RpA.take : ∀ {vs : List V} {ds : List PyData} (n : Nat), RpA K H vs ds → RpA K H (vs.take n) (ds.take n)
  | _, _, 0, _ => .nil
  | _, _, _ + 1, .nil => .nil
  | _, _, n + 1, .cons h r => .cons h (RpA.take n r)
theorem RpA.drop : ∀ {vs : List V} {ds : List PyData} (n : Nat), RpA K H vs ds → RpA K H (vs.drop n) (ds.drop n)
  | _, _, 0, r => r
  | _, _, _ + 1, .nil => .nil
  | _, _, n + 1, .cons _ r => RpA.drop n r
theorem RpA.ints : ∀ {vs : List V} {ns : List Int}, RpA K H vs (ns.map PyData.int) → vs = ns.map V.int
  | _, [], .nil => rfl
  | _, _ :: _, .cons (.int _) r => by rw [List.map_cons, RpA.ints r]
end

/-! ### the one object that changes without an owner: the row of numbers that a law draws from, or the table of the law's code -/
def Draw1 (H0 H : Hp) (p : Addr) : Prop := ∃ (c : Addr) (i v s : Int) (cells : List Int), H p = some (.lst [.ref c, .int i, .int v, .int s]) ∧ H0 c = some (.lst (cells.map V.int)) ∧
  (∀ x ∈ cells, 0 ≤ x) ∧ -1 ≤ i ∧ 0 ≤ v ∧ 0 ≤ s ∧ s < 2147483647
/-- the name of each lambda that the law makes -/
def lamName : Str := (("law" : Str) ++ ".<locals>.") ++ "<lambda>"
def TabAt (H0 H : Hp) (p : Addr) : Prop := ∃ ps : Array Value, H p = some (.tbl ps) ∧ TriplesOk ps.toList ∧ ∀ (pos : Pos) (cv : Value), codeAmong pos ps.toList = some cv → ∃ c, cv = .ref c ∧ H0 c = some (LamX.CodeO c lamName)
def IsTb (H : Hp) (p : Addr) : Prop := ∃ ps : Array Value, H p = some (.tbl ps)
/-- He is the heap at the def's start: what was a table stays one -/
def DrawAt (He H0 H : Hp) (p : Addr) : Prop := H0 p = none ∧ (Draw1 H0 H p ∨ TabAt H0 H p) ∧ (IsTb He p ↔ IsTb H p)
section
variable {He H0 H H0' H' : Hp} {p : Addr}
theorem DrawAt.no (h : DrawAt He H0 H p) : H0 p = none := h.1
theorem DrawAt.live (h : DrawAt He H0 H p) : ∃ o, H p = some o := by
  rcases h.2.1 with ⟨_, _, _, _, _, e, _⟩ | ⟨_, e, _⟩ <;> exact ⟨_, e⟩
theorem DrawAt.keep (h : DrawAt He H0 H p) (gr : Same H0 H0') (n : H0' p = none) (e : H' p = H p) : DrawAt He H0' H' p := by
  refine ⟨n, ?_, h.2.2.trans (by unfold IsTb; rw [e])⟩
  rcases h.2.1 with ⟨c, i, v, s, cells, g1, g2, g3⟩ | ⟨ps, g1, g2, g3⟩
  · exact .inl ⟨c, i, v, s, cells, e.trans g1, gr _ _ g2, g3⟩
  · exact .inr ⟨ps, e.trans g1, g2, fun pos cv k => let ⟨c, k1, k2⟩ := g3 pos cv k; ⟨c, k1, gr _ _ k2⟩⟩
theorem DrawAt.in_ (h : DrawAt He H0 H p) : DrawAt H H0 H p := ⟨h.1, h.2.1, Iff.rfl⟩
theorem DrawAt.out (h : DrawAt He H0 H p) (g : DrawAt H H0' H' p) : DrawAt He H0' H' p := ⟨g.1, g.2.1, h.2.2.trans g.2.2⟩
/-- of a table -/
theorem DrawAt.tab (h : DrawAt He H0 H p) (t : IsTb He p) : TabAt H0 H p := h.2.1.elim (fun ⟨_, _, _, _, _, e, _⟩ => by
  obtain ⟨ps, z⟩ := h.2.2.mp t
  rw [e] at z; cases z) id
/-- of a draw -/
theorem DrawAt.draw (h : DrawAt He H0 H p) (t : ¬ IsTb He p) : Draw1 H0 H p := h.2.1.elim id fun ⟨ps, e, _⟩ => absurd (h.2.2.mpr ⟨ps, e⟩) t
end

/-- a lambda without captured names -/
structure LF where
  qual : Str
  params : Arguments
  body : Expr
  scope : Scope
def LamO (f : Addr) (F : LF) (c : Addr) : HO := .ext fun h => ∃ (pm ctv : Value), h.get? f = some (PySem.W.kla_obj "<lambda>" F.qual F.params F.body F.scope [] pm c ctv)

/-! ### what stands in owned objects: data, or another owned object -/
inductive CV where
  | d (x : PyData) | r (b : Addr)
inductive Cell where
  | l (xs : List CV) | D (es : List (Key × CV)) | I (C dx : Addr) (fs : List (Str × CV))
def CVR (K : PySem.W.Frag) (H : Hp) (v : V) : CV → Prop
  | .d x => Rp K H v x
  | .r b => v = .ref b
inductive CVs (K : PySem.W.Frag) (H : Hp) : List V → List CV → Prop
  | nil : CVs K H [] []
  | cons {v : V} {c : CV} {vs : List V} {cs : List CV} : CVR K H v c → CVs K H vs cs → CVs K H (v :: vs) (c :: cs)
inductive CVk {κ : Type} (K : PySem.W.Frag) (H : Hp) : List (κ × V) → List (κ × CV) → Prop
  | nil : CVk K H [] []
  | cons {k : κ} {v : V} {c : CV} {vs : List (κ × V)} {cs : List (κ × CV)} : CVR K H v c → CVk K H vs cs → CVk K H ((k, v) :: vs) ((k, c) :: cs)
def CellR (K : PySem.W.Frag) (H : Hp) (o : HO) : Cell → Prop
  | .l xs => ∃ vs, o = .lst vs ∧ CVs K H vs xs
  | .D es => ∃ vs, o = .dK vs ∧ CVk K H vs es
  | .I C dx fs => ∃ vs, o = .ins C dx vs ∧ CVk K H vs fs
section
variable {K : PySem.W.Frag} {H H' : Hp}
theorem CVR.mono (e : Same H H') {v : V} : ∀ {c : CV}, CVR K H v c → CVR K H' v c
  | .d _, h => Rp.mono e h
  | .r _, h => h
theorem CVs.mono (e : Same H H') : ∀ {vs : List V} {cs : List CV}, CVs K H vs cs → CVs K H' vs cs
  | _, _, .nil => .nil
  | _, _, .cons h r => .cons (h.mono e) (CVs.mono e r)
theorem CVk.mono {κ : Type} (e : Same H H') : ∀ {vs : List (κ × V)} {cs : List (κ × CV)}, CVk K H vs cs → CVk K H' vs cs
  | _, _, .nil => .nil
  | _, _, .cons h r => .cons (h.mono e) (CVk.mono e r)
theorem CellR.mono (e : Same H H') {o : HO} : ∀ {c : Cell}, CellR K H o c → CellR K H' o c
  | .l _, ⟨vs, h, r⟩ => ⟨vs, h, r.mono e⟩
  | .D _, ⟨vs, h, r⟩ => ⟨vs, h, r.mono e⟩
  | .I _ _ _, ⟨vs, h, r⟩ => ⟨vs, h, r.mono e⟩
end
abbrev Sto := List (Addr × Cell)

/-! ### slots -/
inductive R where
  | d (x : PyData) | own (a : Addr) (xs : List PyData) | drw | raw (v : V) | scr (ns : List Int) | dct (a : Addr) (es : List (Key × PyData)) | fn (F : LF) | reg (u : V) (m : Sto)
/-- the addresses of what a slot owns -/
def R.adr : R → List Addr
  | .own a _ => [a]
  | .dct a _ => [a]
  | .reg _ m => m.map (·.1)
  | _ => []
inductive RX where
  | d (x : PyData) | own (xs : List PyData) | m (u : V) (m : List (Addr × Cell)) (x : PyData)
abbrev Dl := List (Option R)
structure Ctx where
  K : PySem.W.Frag
  ex : Option Addr
  He : Hp
  Hf : Hp
structure Wf (C : Ctx) (H0 H : Hp) : Prop where
  sub : Same H0 H
  kp : ∀ b o, C.ex ≠ some b → C.He b = some o → H b = some o
  fz : Same C.Hf H0
  nw : ∀ b o, H0 b = some o → C.Hf b = some o ∨ C.He b = none
  dr : ∀ p, C.ex = some p → DrawAt C.He H0 H p
/-- entries of an owned dict -/
inductive RpK (K : PySem.W.Frag) (H : Hp) : List (Key × V) → List (Key × PyData) → Prop
  | nil : RpK K H [] []
  | cons {k : Key} {v : V} {d : PyData} {kvs : List (Key × V)} {es : List (Key × PyData)} : Rp K H v d → RpK K H kvs es → RpK K H ((k, v) :: kvs) ((k, d) :: es)
theorem RpK.mono {K : PySem.W.Frag} {H H' : Hp} (e : Same H H') : ∀ {vs : List (Key × V)} {es : List (Key × PyData)}, RpK K H vs es → RpK K H' vs es
  | _, _, .nil => .nil
  | _, _, .cons h r => .cons (Rp.mono e h) (RpK.mono e r)
def entD (es : List (Key × PyData)) : List (PyData × PyData) := es.map fun e => (keyD e.1, e.2)
theorem RpK.rpd {K : PySem.W.Frag} {H : Hp} : ∀ {vs : List (Key × V)} {es : List (Key × PyData)}, RpK K H vs es → RpD K H vs (entD es)
  | _, _, .nil => .nil
  | _, _, .cons h r => .cons h (RpK.rpd r)
theorem RpK.length {K : PySem.W.Frag} {H : Hp} : ∀ {vs : List (Key × V)} {es : List (Key × PyData)}, RpK K H vs es → vs.length = es.length
  | _, _, .nil => rfl
  | _, _, .cons _ r => by rw [List.length_cons, List.length_cons, RpK.length r]
def RR (C : Ctx) (H0 H : Hp) (v : V) : R → Prop
  | .d x => Rp C.K H0 v x
  | .own a xs => v = .ref a ∧ H0 a = none ∧ C.He a = none ∧ C.ex ≠ some a ∧ ∃ vs, H a = some (.lst vs) ∧ RpA C.K H0 vs xs
  | .drw => ∃ p, C.ex = some p ∧ v = .ref p ∧ ¬ IsTb C.He p
  | .raw u => v = u
  | .scr ns => ∃ a, v = .ref a ∧ SqL C.K H0 a (ns.map V.int)
  | .fn F => ∃ f c, v = .ref f ∧ H0 f = some (LamO f F c) ∧ H0 c = some (LamX.CodeO c F.qual)
  | .dct a es => v = .ref a ∧ H0 a = none ∧ C.He a = none ∧ C.ex ≠ some a ∧ ∃ kvs, H a = some (.dK kvs) ∧ RpK C.K H0 kvs es
  | .reg u m => v = u ∧ (m.map (·.1)).Nodup ∧ ∀ a c, (a, c) ∈ m → H0 a = none ∧ C.He a = none ∧ C.ex ≠ some a ∧ ∃ o, H a = some o ∧ CellR C.K H0 o c
structure St (C : Ctx) (H0 H : Hp) (σ : L2.St) (δ : Dl) : Prop extends Wf C H0 H where
  len : σ.length = δ.length
  sl : ∀ (i : Nat) (r : R), δ[i]? = some (some r) → ∃ v, σ[i]? = some (some v) ∧ RR C H0 H v r
  sep : ∀ (i j : Nat) (a b : Addr) (p q : R), i ≠ j → δ[i]? = some (some p) → δ[j]? = some (some q) → a ∈ p.adr → b ∈ q.adr → a ≠ b
/-- an expression's way -/
structure Go (C : Ctx) (H0 H H0' H' : Hp) : Prop where
  wf : Wf C H0' H'
  fz : Same H0 H0'
  kp : ∀ b o, C.ex ≠ some b → H b = some o → H' b = some o
  nw : ∀ b o, H0' b = some o → H0 b = some o ∨ H b = none
section
variable {C : Ctx} {H0 H H0' H' H0'' H'' : Hp} {σ : L2.St} {δ : Dl} {v : V} {x : PyData}
theorem Go.refl (w : Wf C H0 H) : Go C H0 H H0 H := ⟨w, Same.refl _, fun _ _ _ e => e, fun _ _ e => .inl e⟩
theorem Go.trans (a : Go C H0 H H0' H') (b : Go C H0' H' H0'' H'') : Go C H0 H H0'' H'' := by
  refine ⟨b.wf, a.fz.trans b.fz, fun c o n e => b.kp c o n (a.kp c o n e), fun c o e => ?_⟩
  rcases b.nw c o e with h | h
  · exact a.nw c o h
  · cases q : H c with
    | none => exact .inr rfl
    | some u =>
      by_cases n : C.ex = some c
      · have z := (b.wf.dr c n).no
        rw [e] at z; cases z
      · have := a.kp c u n q
        rw [h] at this; cases this
theorem RR.go {r : R} (h : RR C H0 H v r) (g : Go C H0 H H0' H') : RR C H0' H' v r := by
  cases r with
  | d x => exact Rp.mono g.fz h
  | own a xs =>
    obtain ⟨e, h1, h2, h3, vs, h4, h5⟩ := h
    refine ⟨e, ?_, h2, h3, vs, g.kp a _ h3 h4, h5.mono g.fz⟩
    cases q : H0' a with
    | none => rfl
    | some o =>
      rcases g.nw a o q with z | z
      · rw [h1] at z; cases z
      · rw [h4] at z; cases z
  | drw => exact h
  | raw u => exact h
  | scr ns => obtain ⟨a, e, q⟩ := h; exact ⟨a, e, g.fz.seq q⟩
  | fn F => obtain ⟨a, c, e, q, q2⟩ := h; exact ⟨a, c, e, g.fz _ _ q, g.fz _ _ q2⟩
  | dct a es =>
    obtain ⟨e, h1, h2, h3, vs, h4, h5⟩ := h
    refine ⟨e, ?_, h2, h3, vs, g.kp a _ h3 h4, h5.mono g.fz⟩
    cases q : H0' a with
    | none => rfl
    | some o =>
      rcases g.nw a o q with z | z
      · rw [h1] at z; cases z
      · rw [h4] at z; cases z
  | reg u m =>
    obtain ⟨e, nd, h⟩ := h
    refine ⟨e, nd, fun a c hm => ?_⟩
    obtain ⟨h1, h2, h3, o, h4, h5⟩ := h a c hm
    refine ⟨?_, h2, h3, o, g.kp a _ h3 h4, h5.mono g.fz⟩
    cases q : H0' a with
    | none => rfl
    | some o =>
      rcases g.nw a o q with z | z
      · rw [h1] at z; cases z
      · rw [h4] at z; cases z
theorem adr_reg {u : V} {m : Sto} {a : Addr} (e : a ∈ (R.reg u m).adr) : ∃ c, (a, c) ∈ m := by
  obtain ⟨⟨b, c⟩, h, rfl⟩ := List.mem_map.mp e
  exact ⟨c, h⟩
theorem RR.adr {r : R} {a : Addr} (h : RR C H0 H v r) (e : a ∈ r.adr) : H0 a = none ∧ C.He a = none ∧ C.ex ≠ some a := by
  cases r with
  | own b xs => obtain rfl := List.mem_singleton.mp e; exact ⟨h.2.1, h.2.2.1, h.2.2.2.1⟩
  | dct b es => obtain rfl := List.mem_singleton.mp e; exact ⟨h.2.1, h.2.2.1, h.2.2.2.1⟩
  | reg u m => obtain ⟨c, hc⟩ := adr_reg e; have k := h.2.2 a c hc; exact ⟨k.1, k.2.1, k.2.2.1⟩
  | d x => cases e
  | drw => cases e
  | raw u => cases e
  | scr ns => cases e
  | fn F => cases e
theorem RR.live {r : R} {a : Addr} (h : RR C H0 H v r) (e : a ∈ r.adr) : ∃ o, H a = some o := by
  cases r with
  | own b xs => obtain rfl := List.mem_singleton.mp e; obtain ⟨_, _, _, _, vs, k, _⟩ := h; exact ⟨_, k⟩
  | dct b es => obtain rfl := List.mem_singleton.mp e; obtain ⟨_, _, _, _, vs, k, _⟩ := h; exact ⟨_, k⟩
  | reg u m => obtain ⟨c, hc⟩ := adr_reg e; obtain ⟨o, k, _⟩ := (h.2.2 a c hc).2.2.2; exact ⟨o, k⟩
  | d x => cases e
  | drw => cases e
  | raw u => cases e
  | scr ns => cases e
  | fn F => cases e
/-- what a slot says stays where another address is written -/
theorem RR.upd {r : R} {a : Addr} {o : HO} (h : RR C H0 H v r) (n : ∀ b, b ∈ r.adr → b ≠ a) : RR C H0 (L2.upd H a o) v r := by
  cases r with
  | d x => exact h
  | own b zs =>
    obtain ⟨k1, k2, k3, k4, ws, k5, k6⟩ := h
    exact ⟨k1, k2, k3, k4, ws, by rw [upd_ne (n b (List.mem_singleton.mpr rfl))]; exact k5, k6⟩
  | reg u m =>
    obtain ⟨e, nd, h⟩ := h
    refine ⟨e, nd, fun b c hm => ?_⟩
    obtain ⟨h1, h2, h3, o, h4, h5⟩ := h b c hm
    exact ⟨h1, h2, h3, o, by rw [upd_ne (n b (List.mem_map.mpr ⟨_, hm, rfl⟩))]; exact h4, h5⟩
  | drw => exact h
  | raw u => exact h
  | scr ns => exact h
  | fn F => exact h
  | dct b zs =>
    obtain ⟨k1, k2, k3, k4, ws, k5, k6⟩ := h
    exact ⟨k1, k2, k3, k4, ws, by rw [upd_ne (n b (List.mem_singleton.mpr rfl))]; exact k5, k6⟩
/-- .. and where an address is frozen -/
theorem RR.frz {r : R} {a : Addr} {o : HO} (gr : Same H0 (L2.upd H0 a o)) (h : RR C H0 H v r) (n : ∀ b, b ∈ r.adr → b ≠ a) : RR C (L2.upd H0 a o) H v r := by
  cases r with
  | d x => exact Rp.mono gr h
  | own b zs =>
    obtain ⟨k1, k2, k3, k4, ws, k5, k6⟩ := h
    exact ⟨k1, by rw [upd_ne (n b (List.mem_singleton.mpr rfl))]; exact k2, k3, k4, ws, k5, k6.mono gr⟩
  | reg u m =>
    obtain ⟨e, nd, h⟩ := h
    refine ⟨e, nd, fun b c hm => ?_⟩
    obtain ⟨h1, h2, h3, o, h4, h5⟩ := h b c hm
    exact ⟨by rw [upd_ne (n b (List.mem_map.mpr ⟨_, hm, rfl⟩))]; exact h1, h2, h3, o, h4, h5.mono gr⟩
  | drw => exact h
  | raw u => exact h
  | scr ns => obtain ⟨a', e', q'⟩ := h; exact ⟨a', e', gr.seq q'⟩
  | fn F => obtain ⟨a', c', e', q', q2⟩ := h; exact ⟨a', c', e', gr _ _ q', gr _ _ q2⟩
  | dct b zs =>
    obtain ⟨k1, k2, k3, k4, ws, k5, k6⟩ := h
    exact ⟨k1, by rw [upd_ne (n b (List.mem_singleton.mpr rfl))]; exact k2, k3, k4, ws, k5, k6.mono gr⟩
/-- δ with another slot: what was there before -/
theorem set_at {r p : R} {i j : Nat} (e : (δ.set i (some r))[j]? = some (some p)) : (i = j ∧ p = r) ∨ (i ≠ j ∧ δ[j]? = some (some p)) := by
  by_cases q : i = j
  · subst q
    rw [List.getElem?_set_self'] at e
    cases hd : δ[i]? with
    | none => rw [hd] at e; simp at e
    | some z => rw [hd] at e; simp at e; exact .inl ⟨rfl, e.symm⟩
  · rw [List.getElem?_set_ne q] at e; exact .inr ⟨q, e⟩
theorem St.go (s : St C H0 H σ δ) (g : Go C H0 H H0' H') : St C H0' H' σ δ where
  toWf := g.wf
  len := s.len
  sl := fun i r e => let ⟨v, e1, h⟩ := s.sl i r e; ⟨v, e1, h.go g⟩
  sep := s.sep
theorem St.set_d (s : St C H0 H σ δ) (i : Nat) (h : Rp C.K H0 v x) : St C H0 H (σ.set i (some v)) (δ.set i (some (.d x))) where
  toWf := s.toWf
  len := by rw [List.length_set, List.length_set, s.len]
  sl := fun j r e => by
    by_cases q : i = j
    · subst q
      rw [List.getElem?_set_self'] at e
      cases hd : δ[i]? with
      | none => rw [hd] at e; simp at e
      | some z =>
        rw [hd] at e
        simp at e
        subst e
        have : i < σ.length := by rw [s.len]; exact (List.getElem?_eq_some_iff.mp hd).1
        exact ⟨v, by rw [List.getElem?_set_self this], h⟩
    · rw [List.getElem?_set_ne q] at e
      obtain ⟨u, e1, h1⟩ := s.sl j r e
      exact ⟨u, by rw [List.getElem?_set_ne q]; exact e1, h1⟩
  sep := fun j k a b p q n e1 e2 a1 a2 => by
    rcases set_at e1 with ⟨_, rfl⟩ | ⟨_, e1⟩
    · cases a1
    rcases set_at e2 with ⟨_, rfl⟩ | ⟨_, e2⟩
    · cases a2
    exact s.sep j k a b p q n e1 e2 a1 a2
theorem St.none (s : St C H0 H σ δ) (i : Nat) : St C H0 H (σ.set i none) (δ.set i none) where
  toWf := s.toWf
  len := by rw [List.length_set, List.length_set, s.len]
  sl := fun j r e => by
    by_cases q : i = j
    · subst q
      rw [List.getElem?_set_self'] at e
      cases hd : δ[i]? with
      | none => rw [hd] at e; simp at e
      | some z => rw [hd] at e; simp at e
    · rw [List.getElem?_set_ne q] at e
      obtain ⟨u, e1, h1⟩ := s.sl j r e
      exact ⟨u, by rw [List.getElem?_set_ne q]; exact e1, h1⟩
  sep := fun j k a b p q n e1 e2 a1 a2 => by
    have f : ∀ {j : Nat} {p : R}, (δ.set i (Option.none))[j]? = some (some p) → δ[j]? = some (some p) := fun {j p} e => by
      by_cases q : i = j
      · subst q
        rw [List.getElem?_set_self'] at e
        cases hd : δ[i]? with
        | none => rw [hd] at e; simp at e
        | some z => rw [hd] at e; simp at e
      · rw [List.getElem?_set_ne q] at e; exact e
    exact s.sep j k a b p q n (f e1) (f e2) a1 a2
/-- a new owned object is given to a slot -/
theorem St.set_adr {r : R} {a : Addr} (s : St C H0 H σ δ) (i : Nat) (ea : r.adr = [a]) (hf : ∀ (j : Nat) (p : R) (b : Addr), δ[j]? = some (some p) → b ∈ p.adr → b ≠ a) (hr : RR C H0 H (.ref a) r) :
    St C H0 H (σ.set i (some (.ref a))) (δ.set i (some r)) where
  toWf := s.toWf
  len := by rw [List.length_set, List.length_set, s.len]
  sl := fun j p e => by
    rcases set_at e with ⟨q, rfl⟩ | ⟨q, e⟩
    · subst q
      have hd : i < δ.length := by
        have := (List.getElem?_eq_some_iff.mp e).1
        rwa [List.length_set] at this
      have : i < σ.length := by rw [s.len]; exact hd
      exact ⟨.ref a, by rw [List.getElem?_set_self this], hr⟩
    · obtain ⟨u, e1, h1⟩ := s.sl j p e
      exact ⟨u, by rw [List.getElem?_set_ne q]; exact e1, h1⟩
  sep := fun j k b c p q n e1 e2 a1 a2 => by
    rcases set_at e1 with ⟨q1, rfl⟩ | ⟨q1, z1⟩ <;> rcases set_at e2 with ⟨q2, rfl⟩ | ⟨q2, z2⟩
    · exact absurd (q1.symm.trans q2) n
    · rw [ea] at a1; obtain rfl := List.mem_singleton.mp a1; exact (hf k q c z2 a2).symm
    · rw [ea] at a2; obtain rfl := List.mem_singleton.mp a2; exact hf j p b z1 a1
    · exact s.sep j k b c p q n z1 z2 a1 a2
theorem St.set_own {a : Addr} {vs : List V} {xs : List PyData} (s : St C H0 H σ δ) (i : Nat) (hf : ∀ (j : Nat) (p : R) (b : Addr), δ[j]? = some (some p) → b ∈ p.adr → b ≠ a) (h1 : H0 a = Option.none) (h2 : C.He a = Option.none) (h3 : C.ex ≠ some a) (h4 : H a = some (.lst vs)) (h5 : RpA C.K H0 vs xs) :
    St C H0 H (σ.set i (some (.ref a))) (δ.set i (some (.own a xs))) := s.set_adr i rfl hf ⟨rfl, h1, h2, h3, vs, h4, h5⟩
/-- an address of slot i is written -/
theorem St.put' {a : Addr} {o : HO} {r r' : R} {v : V} (s : St C H0 H σ δ) (i : Nat) (e : δ[i]? = some (some r)) (e1 : σ[i]? = some (some v)) (ea : a ∈ r.adr) (ea' : ∀ b, b ∈ r'.adr → b ∈ r.adr) (hr : RR C H0 (upd H a o) v r') : St C H0 (upd H a o) σ (δ.set i (some r')) := by
  obtain ⟨v', e1', hv⟩ := s.sl i _ e
  obtain ⟨h1, h2, h3⟩ := hv.adr ea
  refine ⟨⟨fun b u q => ?_, fun b u n q => ?_, s.fz, s.nw, fun p q => ?_⟩, by rw [List.length_set, s.len], fun j p q => ?_, fun j k b c p q n q1 q2 a1 a2 => ?_⟩
  · rw [upd_ne (fun z => by rw [z, h1] at q; cases q)]; exact s.sub b u q
  · rw [upd_ne (fun z => by rw [z, h2] at q; cases q)]; exact s.kp b u n q
  · exact (s.dr p q).keep (Same.refl _) (s.dr p q).no (upd_ne (fun z => h3 (by rw [← z]; exact q)))
  · rcases set_at q with ⟨z, rfl⟩ | ⟨z, q⟩
    · subst z
      exact ⟨_, e1, hr⟩
    · obtain ⟨u, f1, f2⟩ := s.sl j p q
      exact ⟨u, f1, f2.upd fun b hb => s.sep j i b a p r (fun z' => z z'.symm) q e hb ea⟩
  · rcases set_at q1 with ⟨z1, y1⟩ | ⟨z1, y1⟩ <;> rcases set_at q2 with ⟨z2, y2⟩ | ⟨z2, y2⟩
    · exact absurd (z1.symm.trans z2) n
    · rw [y1] at a1; exact (s.sep k i c b q r (fun z => z2 z.symm) y2 e a2 (ea' _ a1)).symm
    · rw [y2] at a2; exact s.sep j i b c p r (fun z => z1 z.symm) y1 e a1 (ea' _ a2)
    · exact s.sep j k b c p q n y1 y2 a1 a2
/-- the owned object in slot i is written -/
theorem St.put {a : Addr} {o : HO} {r r' : R} (s : St C H0 H σ δ) (i : Nat) (e : δ[i]? = some (some r)) (hd : ∀ v, RR C H0 H v r → v = .ref a) (ea : r.adr = [a]) (ea' : r'.adr = [a]) (hr : ∀ H', H' a = some o → H0 a = Option.none → C.He a = Option.none → C.ex ≠ some a → RR C H0 H' (.ref a) r') : St C H0 (upd H a o) σ (δ.set i (some r')) := by
  obtain ⟨v, e1, hv⟩ := s.sl i _ e
  have m : a ∈ r.adr := by rw [ea]; exact List.mem_singleton.mpr rfl
  obtain ⟨h1, h2, h3⟩ := hv.adr m
  obtain rfl := hd v hv
  exact s.put' i e e1 m (fun b hb => by rw [ea'] at hb; rw [ea]; exact hb) (hr _ upd_same h1 h2 h3)
theorem St.write {a : Addr} {vs : List V} {xs ys : List PyData} (s : St C H0 H σ δ) (i : Nat) (e : δ[i]? = some (some (.own a ys))) (h5 : RpA C.K H0 vs xs) : St C H0 (upd H a (.lst vs)) σ (δ.set i (some (.own a xs))) :=
  s.put i e (fun _ h => h.1) rfl rfl fun _ h h1 h2 h3 => ⟨rfl, h1, h2, h3, vs, h, h5⟩
/-- an owned object stands still from here on -/
theorem St.frz {a : Addr} {o : HO} {r : R} {x : PyData} (s : St C H0 H σ δ) (i : Nat) (e : δ[i]? = some (some r)) (hd : ∀ v, RR C H0 H v r → v = .ref a) (ea : a ∈ r.adr) (h4 : H a = some o) (hx : Same H0 (upd H0 a o) → Rp C.K (upd H0 a o) (.ref a) x) : ∃ H0', Same H0 H0' ∧ St C H0' H σ (δ.set i (some (.d x))) := by
  obtain ⟨v, e1, hv⟩ := s.sl i _ e
  obtain ⟨h1, h2, h3⟩ := hv.adr ea
  obtain rfl := hd v hv
  have gr : Same H0 (upd H0 a o) := fun b u q => by rw [upd_ne (fun z => by rw [z, h1] at q; cases q)]; exact q
  have w' : Wf C (upd H0 a o) H := by
    refine ⟨fun b u q => ?_, s.kp, s.fz.trans gr, fun b u q => ?_, fun p q => ?_⟩
    · by_cases z : b = a
      · subst z; rw [upd_same] at q; cases q; exact h4
      · rw [upd_ne z] at q; exact s.sub b u q
    · by_cases z : b = a
      · subst z; exact .inr h2
      · rw [upd_ne z] at q; exact s.nw b u q
    · exact (s.dr p q).keep gr (by rw [upd_ne (fun z => h3 (by rw [← z]; exact q))]; exact (s.dr p q).no) rfl
  refine ⟨_, gr, w', by rw [List.length_set, s.len], fun j p q => ?_, fun j k b c p q n q1 q2 a1 a2 => ?_⟩
  · rcases set_at q with ⟨z, rfl⟩ | ⟨z, q⟩
    · subst z
      exact ⟨_, e1, hx gr⟩
    · obtain ⟨u, f1, f2⟩ := s.sl j p q
      exact ⟨u, f1, f2.frz gr fun b hb => s.sep j i b a p r (fun z' => z z'.symm) q e hb ea⟩
  · rcases set_at q1 with ⟨_, rfl⟩ | ⟨_, q1⟩
    · cases a1
    rcases set_at q2 with ⟨_, rfl⟩ | ⟨_, q2⟩
    · cases a2
    exact s.sep j k b c p q n q1 q2 a1 a2
theorem St.freeze {a : Addr} {xs : List PyData} (s : St C H0 H σ δ) (i : Nat) (e : δ[i]? = some (some (.own a xs))) : ∃ H0', Same H0 H0' ∧ St C H0' H σ (δ.set i (some (.d (.list xs)))) := by
  obtain ⟨v, e1, rfl, h1, h2, h3, us, h4, h6⟩ := s.sl i _ e
  exact s.frz i e (fun _ h => h.1) (List.mem_singleton.mpr rfl) h4 fun gr => .lst upd_same (h6.mono gr)
/-- .. as another object -/
theorem St.frzU {a : Addr} {o : HO} {r : R} {x : PyData} (s : St C H0 H σ δ) (i : Nat) (e : δ[i]? = some (some r)) (hd : ∀ v, RR C H0 H v r → v = .ref a) (ea : a ∈ r.adr) (hx : Same H0 (upd H0 a o) → Rp C.K (upd H0 a o) (.ref a) x) : Same H0 (upd H0 a o) ∧ St C (upd H0 a o) (upd H a o) σ (δ.set i (some (.d x))) := by
  obtain ⟨v, e1, hv⟩ := s.sl i _ e
  obtain ⟨h1, h2, h3⟩ := hv.adr ea
  obtain rfl := hd v hv
  have gr : Same H0 (upd H0 a o) := fun b u q => by rw [upd_ne (fun z => by rw [z, h1] at q; cases q)]; exact q
  have w' : Wf C (upd H0 a o) (upd H a o) := by
    refine ⟨fun b u q => ?_, fun b u n q => ?_, s.fz.trans gr, fun b u q => ?_, fun p q => ?_⟩
    · by_cases z : b = a
      · subst z; rw [upd_same] at q ⊢; exact q
      · rw [upd_ne z] at q ⊢; exact s.sub b u q
    · rw [upd_ne (fun z => by rw [z, h2] at q; cases q)]; exact s.kp b u n q
    · by_cases z : b = a
      · subst z; exact .inr h2
      · rw [upd_ne z] at q; exact s.nw b u q
    · have np : p ≠ a := fun z => h3 (by rw [← z]; exact q)
      exact (s.dr p q).keep gr (by rw [upd_ne np]; exact (s.dr p q).no) (upd_ne np)
  refine ⟨gr, w', by rw [List.length_set, s.len], fun j p q => ?_, fun j k b c p q n q1 q2 a1 a2 => ?_⟩
  · rcases set_at q with ⟨z, rfl⟩ | ⟨z, q⟩
    · subst z
      exact ⟨_, e1, hx gr⟩
    · obtain ⟨u, f1, f2⟩ := s.sl j p q
      have nb : ∀ b, b ∈ p.adr → b ≠ a := fun b hb => s.sep j i b a p r (fun z' => z z'.symm) q e hb ea
      exact ⟨u, f1, (f2.upd nb).frz gr nb⟩
  · rcases set_at q1 with ⟨_, rfl⟩ | ⟨_, q1⟩
    · cases a1
    rcases set_at q2 with ⟨_, rfl⟩ | ⟨_, q2⟩
    · cases a2
    exact s.sep j k b c p q n q1 q2 a1 a2
end

/-! ### what a reading of the hand layer asks, by data -/
abbrev DE := Dl → (PyData → Prop) → Prop
abbrev DT := Dl → (Bool → Prop) → Prop
abbrev DA := Dl → (List PyData → Prop) → Prop
abbrev DR := Dl → (List R → Prop) → Prop
abbrev DO := Dl → (List PyData → Prop) → Prop
def hid (C : Ctx) (H : Hp) : Hp := fun b => if C.ex = some b then none else H b
def loc (C : Ctx) (f : Bool) (H0 H : Hp) : Hp := match f with
  | true => H0
  | false => hid C H
section
variable {C : Ctx} {H0 H H0' H' H0'' H'' : Hp} {σ : L2.St} {δ : Dl} {v : V} {x : PyData} {f g : Bool}
theorem hid_sub (C : Ctx) (H : Hp) : Same (hid C H) H := fun b o e => by
  unfold hid at e
  split at e
  · cases e
  · exact e
theorem hid_of {a : Addr} {o : HO} (h : H a = some o) (n : C.ex ≠ some a) : hid C H a = some o := by
  unfold hid
  rw [if_neg n]
  exact h
theorem Wf.hid (w : Wf C H0 H) : Same H0 (hid C H) := fun b o e => by
  refine hid_of (w.sub b o e) fun z => ?_
  have q := (w.dr b z).no
  rw [e] at q; cases q
theorem Wf.loc (w : Wf C H0 H) : Same (loc C f H0 H) H := by
  cases f with
  | true => exact w.sub
  | false => exact hid_sub C H
theorem Wf.to (w : Wf C H0 H) : Same H0 (VL.loc C f H0 H) := by
  cases f with
  | true => exact Same.refl _
  | false => exact w.hid
theorem Go.loc (q : Go C H0 H H0' H') : Same (loc C f H0 H) (loc C f H0' H') := by
  cases f with
  | true => exact q.fz
  | false =>
    intro b o e
    show VL.hid C H' b = some o
    have e : VL.hid C H b = some o := e
    unfold VL.hid at e
    split at e
    · cases e
    · rename_i n
      exact hid_of (q.kp b o n e) n
/-- a new frozen object -/
theorem Go.new {p : Addr} {o : HO} (w : Wf C H0 H) (hp : H p = none) : Go C H0 H (upd H0 p o) (upd H p o) := by
  have h0 : H0 p = none := by
    cases q : H0 p with
    | none => rfl
    | some u => rw [w.sub p u q] at hp; cases hp
  have gr : Same H0 (upd H0 p o) := fun b u q => by rw [upd_ne (fun z => by rw [z, h0] at q; cases q)]; exact q
  refine ⟨⟨fun b u q => ?_, fun b u n q => ?_, w.fz.trans gr, fun b u q => ?_, fun c q => ?_⟩, gr, fun b u n q => ?_, fun b u q => ?_⟩
  · by_cases z : b = p
    · subst z; rw [upd_same] at q ⊢; exact q
    · rw [upd_ne z] at q ⊢; exact w.sub b u q
  · have e := w.kp b u n q
    rw [upd_ne (fun z => by rw [z, hp] at e; cases e)]; exact e
  · by_cases z : b = p
    · subst z
      cases hq : C.He b with
      | none => exact .inr rfl
      | some y =>
        by_cases n : C.ex = some b
        · obtain ⟨_, g1⟩ := (w.dr b n).live
          rw [hp] at g1; cases g1
        · rw [w.kp b y n hq] at hp; cases hp
    · rw [upd_ne z] at q; exact w.nw b u q
  · obtain ⟨_, g1⟩ := (w.dr c q).live
    have nc : c ≠ p := fun z => by rw [z, hp] at g1; cases g1
    exact (w.dr c q).keep gr (by rw [upd_ne nc]; exact (w.dr c q).no) (upd_ne nc)
  · rw [upd_ne (fun z => by rw [z, hp] at q; cases q)]; exact q
  · by_cases z : b = p
    · subst z; exact .inr hp
    · rw [upd_ne z] at q; exact .inl q
/-- a new object that is not frozen -/
theorem Go.free {p : Addr} {o : HO} (w : Wf C H0 H) (hp : H p = none) : Go C H0 H H0 (upd H p o) := by
  have h0 : H0 p = none := by
    cases q : H0 p with
    | none => rfl
    | some u => rw [w.sub p u q] at hp; cases hp
  refine ⟨⟨fun b u q => ?_, fun b u n q => ?_, w.fz, w.nw, fun c q => ?_⟩, Same.refl _, fun b u n q => ?_, fun b u q => .inl q⟩
  · rw [upd_ne (fun z => by rw [z, h0] at q; cases q)]; exact w.sub b u q
  · have e := w.kp b u n q
    rw [upd_ne (fun z => by rw [z, hp] at e; cases e)]; exact e
  · obtain ⟨_, g1⟩ := (w.dr c q).live
    have nc : c ≠ p := fun z => by rw [z, hp] at g1; cases g1
    exact (w.dr c q).keep (Same.refl _) (w.dr c q).no (upd_ne nc)
  · rw [upd_ne (fun z => by rw [z, hp] at q; cases q)]; exact q

def Sm (C : Ctx) (f : Bool) (te : TE) (de : DE) : Prop := ∀ (σ : L2.St) (δ : Dl) (H0 H : Hp) (Φ : PyData → Prop) (Q : VK), St C H0 H σ δ → de δ Φ →
  (∀ H0' H' v x, Go C H0 H H0' H' → Rp C.K (loc C f H0' H') v x → Φ x → Q v H') → te σ H Q
def SmT (C : Ctx) (tt : TT) (dt : DT) : Prop := ∀ (σ : L2.St) (δ : Dl) (H0 H : Hp) (Φ : Bool → Prop) (Q : Bool → Hp → Prop), St C H0 H σ δ → dt δ Φ →
  (∀ H0' H' b, Go C H0 H H0' H' → Φ b → Q b H') → tt σ H Q
def SmA (C : Ctx) (f : Bool) (ta : TA) (da : DA) : Prop := ∀ (σ : L2.St) (δ : Dl) (H0 H : Hp) (Φ : List PyData → Prop) (Q : List V → Hp → Prop), St C H0 H σ δ → da δ Φ →
  (∀ H0' H' vs xs, Go C H0 H H0' H' → RpA C.K (loc C f H0' H') vs xs → Φ xs → Q vs H') → ta σ H Q
inductive RRs (C : Ctx) (H0 H : Hp) : List V → List R → Prop
  | nil : RRs C H0 H [] []
  | cons {v : V} {r : R} {vs : List V} {rs : List R} : RR C H0 H v r → RRs C H0 H vs rs → RRs C H0 H (v :: vs) (r :: rs)
theorem RRs.go : ∀ {vs : List V} {rs : List R}, RRs C H0 H vs rs → Go C H0 H H0' H' → RRs C H0' H' vs rs
  | _, _, .nil, _ => .nil
  | _, _, .cons h r, g => .cons (h.go g) (RRs.go r g)
theorem RRs.length : ∀ {vs : List V} {rs : List R}, RRs C H0 H vs rs → vs.length = rs.length
  | _, _, .nil => rfl
  | _, _, .cons _ r => by rw [List.length_cons, List.length_cons, RRs.length r]
def SmR (C : Ctx) (ta : TA) (da : DR) : Prop := ∀ (σ : L2.St) (δ : Dl) (H0 H : Hp) (Φ : List R → Prop) (Q : List V → Hp → Prop), St C H0 H σ δ → da δ Φ →
  (∀ H0' H' vs rs, Go C H0 H H0' H' → RRs C H0' H' vs rs → Φ rs → Q vs H') → ta σ H Q
/-- a new list, not frozen yet -/
def SmO (C : Ctx) (te : TE) (de : DO) : Prop := ∀ (σ : L2.St) (δ : Dl) (H0 H : Hp) (Φ : List PyData → Prop) (Q : VK), St C H0 H σ δ → de δ Φ →
  (∀ H0' H' a vs xs, Go C H0 H H0' H' → H a = none → H0' a = none → H' a = some (.lst vs) → RpA C.K H0' vs xs → Φ xs → Q (.ref a) H') → te σ H Q
theorem Go.he {a : Addr} (w : Wf C H0 H) (hp : H a = none) : C.He a = none ∧ C.ex ≠ some a := by
  have n : C.ex ≠ some a := fun z => by
    obtain ⟨_, g1⟩ := (w.dr a z).live
    rw [hp] at g1; cases g1
  refine ⟨?_, n⟩
  cases hq : C.He a with
  | none => rfl
  | some y => rw [w.kp a y n hq] at hp; cases hp
/-- .. is frozen -/
theorem Go.frz {a : Addr} {vs : List V} (w : Wf C H0 H) (q : Go C H0 H H0' H') (hp : H a = none) (h0 : H0' a = none) (h : H' a = some (.lst vs)) : Go C H0 H (upd H0' a (.lst vs)) H' := by
  have gr : Same H0' (upd H0' a (.lst vs)) := fun b u e => by rw [upd_ne (fun z => by rw [z, h0] at e; cases e)]; exact e
  obtain ⟨he, n⟩ := Go.he w hp
  refine ⟨⟨fun b u e => ?_, q.wf.kp, q.wf.fz.trans gr, fun b u e => ?_, fun c e => ?_⟩, q.fz.trans gr, q.kp, fun b u e => ?_⟩
  · by_cases z : b = a
    · subst z; rw [upd_same] at e; cases e; exact h
    · rw [upd_ne z] at e; exact q.wf.sub b u e
  · by_cases z : b = a
    · subst z; exact .inr he
    · rw [upd_ne z] at e; exact q.wf.nw b u e
  · exact (q.wf.dr c e).keep gr (by rw [upd_ne (fun z => n (by rw [← z]; exact e))]; exact (q.wf.dr c e).no) rfl
  · by_cases z : b = a
    · subst z; exact .inr hp
    · rw [upd_ne z] at e; exact q.nw b u e

/-! ### expressions -/
variable {te ta tb tc : TE} {de da db dc : DE} {tt tu : TT} {dt du : DT} {tas : TA} {das : DA} {f1 f2 : Bool}
theorem Sm.fz (h : Sm C true te de) : Sm C f te de := fun σ δ H0 H Φ Q s w q => h σ δ H0 H Φ Q s w fun H0' H' v x g r p => q H0' H' v x g (r.mono g.wf.to) p
theorem SmA.fz (h : SmA C true tas das) : SmA C f tas das := fun σ δ H0 H Φ Q s w q => h σ δ H0 H Φ Q s w fun H0' H' v x g r p => q H0' H' v x g (r.mono g.wf.to) p
@[simp] def dVar (i : Nat) : DE := fun δ Φ => ∃ x, δ[i]? = some (some (.d x)) ∧ Φ x
theorem sm_var (i : Nat) : Sm C f (tVar i) (dVar i) := fun σ δ H0 H Φ Q s ⟨x, e, p⟩ q => by
  obtain ⟨v, e1, h⟩ := s.sl i _ e
  exact ⟨v, e1, q H0 H v x (.refl s.toWf) (Rp.mono s.toWf.to h) p⟩
/-- an owned list, looked at -/
@[simp] def dVarO (i : Nat) : DE := fun δ Φ => ∃ a xs, δ[i]? = some (some (.own a xs)) ∧ Φ (.list xs)
theorem sm_varO (i : Nat) : Sm C false (tVar i) (dVarO i) := fun σ δ H0 H Φ Q s ⟨a, xs, e, p⟩ q => by
  obtain ⟨v, e1, rfl, h1, h2, h3, vs, h4, h5⟩ := s.sl i _ e
  exact ⟨_, e1, q H0 H _ _ (.refl s.toWf) (.lst (hid_of h4 h3) (h5.mono s.toWf.hid)) p⟩
@[simp] def dC (x : PyData) : DE := fun _ Φ => Φ x
theorem sm_int (i : Int) : Sm C f (tC (.int i)) (dC (.int i)) := fun σ δ H0 H Φ Q s p q => q H0 H _ _ (.refl s.toWf) (.int i) p
theorem sm_bl (i : Bool) : Sm C f (tC (.bl i)) (dC (.bool i)) := fun σ δ H0 H Φ Q s p q => q H0 H _ _ (.refl s.toWf) (.bl i) p
theorem sm_str (i : Str) : Sm C f (tC (.str i)) (dC (.str i)) := fun σ δ H0 H Φ Q s p q => q H0 H _ _ (.refl s.toWf) (.str i) p
theorem sm_non : Sm C f (tC .non) (dC .none) := fun σ δ H0 H Φ Q s p q => q H0 H _ _ (.refl s.toWf) .non p
/-- an operation on two values whose answer is scalar and that leaves the heap -/
def OpD (C : Ctx) (r : R2) (g : PyData → PyData → (PyData → Prop) → Prop) : Prop := ∀ (H : Hp) (v u : V) (x y : PyData) (Φ : PyData → Prop) (Q : VK), Rp C.K H v x → Rp C.K H u y → g x y Φ → (∀ w z, (∀ H, Rp C.K H w z) → Φ z → Q w H) → r v u H Q
@[simp] def dOp (g : PyData → PyData → (PyData → Prop) → Prop) (da db : DE) : DE := fun δ Φ => da δ fun x => db δ fun y => g x y Φ
theorem sm_op {r : R2} {g : PyData → PyData → (PyData → Prop) → Prop} (hr : OpD C r g) (ha : Sm C f1 ta da) (hb : Sm C f2 tb db) : Sm C f (tOp r ta tb) (dOp g da db) := fun σ δ H0 H Φ Q s w q =>
  ha σ δ H0 H _ _ s w fun H01 H1 v x g1 r1 w1 => hb σ δ H01 H1 _ _ (s.go g1) w1 fun H02 H2 u y g2 r2 w2 =>
    hr H2 v u x y Φ Q ((r1.mono g2.loc).mono g2.wf.loc) (r2.mono g2.wf.loc) w2 fun w' z hz p => q H02 H2 w' z (g1.trans g2) (hz _) p
def isScalV : V → Option PyData
  | .non => some .none
  | .bl b => some (.bool b)
  | .int i => some (.int i)
  | .str s => some (.str s)
  | _ => none
theorem isScal_rp {K : PySem.W.Frag} {v : V} {x : PyData} (h : isScalV v = some x) (H : Hp) : Rp K H v x := by
  cases v <;> simp [isScalV] at h <;> subst h <;> constructor
@[simp] def gI0 (g : Int → Int → PyData) : PyData → PyData → (PyData → Prop) → Prop := fun x y Φ => ∃ i j, x = .int i ∧ y = .int j ∧ Φ (g i j)
@[simp] def gI (c : Int → Int → Prop) (g : Int → Int → PyData) : PyData → PyData → (PyData → Prop) → Prop := fun x y Φ => ∃ i j, x = .int i ∧ y = .int j ∧ c i j ∧ Φ (g i j)
theorem opd_I0 {g : Int → Int → V} {g' : Int → Int → PyData} (h : ∀ i j, isScalV (g i j) = some (g' i j)) : OpD C (rI0 g) (gI0 g') := fun H v u x y Φ Q rv ru ⟨i, j, e1, e2, p⟩ q => by
  subst e1 e2
  cases rv
  cases ru
  exact ⟨i, j, rfl, rfl, q _ _ (isScal_rp (h i j)) p⟩
theorem opd_I {c : Int → Int → Prop} {g : Int → Int → V} {g' : Int → Int → PyData} (h : ∀ i j, isScalV (g i j) = some (g' i j)) : OpD C (rI c g) (gI c g') := fun H v u x y Φ Q rv ru ⟨i, j, e1, e2, e3, p⟩ q => by
  subst e1 e2
  cases rv
  cases ru
  exact ⟨i, j, rfl, rfl, e3, q _ _ (isScal_rp (h i j)) p⟩
@[simp] def toV : PyData → Option V
  | .none => some .non
  | .bool b => some (.bl b)
  | .int i => some (.int i)
  | .str s => some (.str s)
  | _ => none
theorem toV_rp {K : PySem.W.Frag} {H : Hp} {v w : V} {x : PyData} (h : Rp K H v x) (e : toV x = some w) : v = w := by
  cases h <;> simp [toV] at e <;> subst e <;> rfl
@[simp] def gEq (neg : Bool) : PyData → PyData → (PyData → Prop) → Prop := fun x y Φ => ∃ v u, toV x = some v ∧ toV y = some u ∧ scal v u = true ∧ Φ (.bool (if neg then !decide (v = u) else decide (v = u)))
theorem opd_eq : OpD C rEq (gEq false) := fun H v u x y Φ Q rv ru ⟨v', u', e1, e2, e3, p⟩ q => by
  have a := toV_rp rv e1
  have b := toV_rp ru e2
  subst a b
  exact ⟨e3, q _ _ (fun _ => .bl _) p⟩
theorem opd_ne : OpD C rNe (gEq true) := fun H v u x y Φ Q rv ru ⟨v', u', e1, e2, e3, p⟩ q => by
  have a := toV_rp rv e1
  have b := toV_rp ru e2
  subst a b
  exact ⟨e3, q _ _ (fun _ => .bl _) p⟩
@[simp] def gEqD (neg : Bool) : PyData → PyData → (PyData → Prop) → Prop := fun x y Φ => SeqAt.shaped x = true ∧ SeqAt.shaped y = true ∧ Φ (.bool (if neg then !PyData.eqv x y else PyData.eqv x y))
theorem opd_eqD : OpD C (rEqD C.K) (gEqD false) := fun H v u x y Φ Q rv ru ⟨e1, e2, p⟩ q =>
  ⟨x, y, rv.dp (SeqAt.canLay_of_shaped e1), ru.dp (SeqAt.canLay_of_shaped e2), e1, e2, q _ _ (fun _ => .bl _) p⟩
theorem opd_neD : OpD C (rNeD C.K) (gEqD true) := fun H v u x y Φ Q rv ru ⟨e1, e2, p⟩ q =>
  ⟨x, y, rv.dp (SeqAt.canLay_of_shaped e1), ru.dp (SeqAt.canLay_of_shaped e2), e1, e2, q _ _ (fun _ => .bl _) p⟩
@[simp] def isN : PyData → Bool
  | .none => true
  | _ => false
@[simp] def gIsN (neg : Bool) : PyData → PyData → (PyData → Prop) → Prop := fun x y Φ => y = .none ∧ Φ (.bool (if neg then !isN x else isN x))
theorem isN_rp {K : PySem.W.Frag} {H : Hp} {v : V} {x : PyData} (h : Rp K H v x) : decide (v = .non) = isN x := by
  cases h <;> simp [isN]
theorem opd_isN : OpD C (fun x y H Q => y = .non ∧ Q (.bl (decide (x = .non))) H) (gIsN false) := fun H v u x y Φ Q rv ru ⟨e1, p⟩ q => by
  subst e1
  cases ru
  rw [isN_rp rv]
  exact ⟨rfl, q _ _ (fun _ => .bl _) p⟩
theorem opd_notN : OpD C (fun x y H Q => y = .non ∧ Q (.bl (!decide (x = .non))) H) (gIsN true) := fun H v u x y Φ Q rv ru ⟨e1, p⟩ q => by
  subst e1
  cases ru
  rw [isN_rp rv]
  exact ⟨rfl, q _ _ (fun _ => .bl _) p⟩
@[simp] def flatD : PyData → Bool
  | .none => true
  | .bool _ => true
  | .int _ => true
  | .str _ => true
  | _ => false
theorem flat_rp {K : PySem.W.Frag} {H : Hp} {v : V} {x : PyData} (h : Rp K H v x) : flatV v = flatD x := by
  cases h <;> rfl
theorem flats_rp {K : PySem.W.Frag} {H : Hp} : ∀ {vs : List V} {xs : List PyData}, RpA K H vs xs → vs.all flatV = xs.all flatD
  | _, _, .nil => rfl
  | _, _, .cons h r => by rw [List.all_cons, List.all_cons, flat_rp h, flats_rp r]
theorem eqV_rp {K : PySem.W.Frag} {H : Hp} {v u : V} {x y : PyData} (h : Rp K H v x) (k : Rp K H u y) (fx : flatD x = true) (fy : flatD y = true) : eqV v u = PyData.eqv x y := by
  cases h <;> cases k <;> simp [flatD] at fx fy <;> simp [eqV, PyData.eqv]
def inD (x : PyData) (xs : List PyData) : Bool := xs.any fun y => PyData.eqv y x
theorem inV_rp {K : PySem.W.Frag} {H : Hp} {v : V} {x : PyData} (h : Rp K H v x) (fx : flatD x = true) : ∀ {vs : List V} {xs : List PyData}, RpA K H vs xs → xs.all flatD = true → inV v vs = inD x xs
  | _, _, .nil, _ => rfl
  | _, _, .cons k r, e => by
    rw [List.all_cons, Bool.and_eq_true] at e
    have ih := inV_rp h fx r e.2
    unfold inV inD at *
    rw [List.any_cons, List.any_cons, eqV_rp k h e.1 fx, ih]
@[simp] def seqOf : PyData → Option (List PyData)
  | .list xs => some xs
  | .tuple xs => some xs
  | _ => none
@[simp] def gIn (neg : Bool) : PyData → PyData → (PyData → Prop) → Prop := fun x y Φ => ∃ xs, seqOf y = some xs ∧ flatD x = true ∧ xs.all flatD = true ∧ Φ (.bool (if neg then !inD x xs else inD x xs))
theorem opd_in (neg : Bool) : OpD C (rIn C.K neg) (gIn neg) := fun H v u x y Φ Q rv ru ⟨xs, e1, e2, e3, p⟩ q => by
  cases ru with
  | lst h r =>
    simp [seqOf] at e1
    subst e1
    exact ⟨_, _, rfl, .inl (SqL.of h), by rw [flat_rp rv, e2], by rw [flats_rp r, e3], by rw [inV_rp rv e2 r e3]; exact q _ _ (fun _ => .bl _) p⟩
  | tup h r =>
    simp [seqOf] at e1
    subst e1
    exact ⟨_, _, rfl, .inr h, by rw [flat_rp rv, e2], by rw [flats_rp r, e3], by rw [inV_rp rv e2 r e3]; exact q _ _ (fun _ => .bl _) p⟩
  | _ => simp [seqOf] at e1
/-- a text added to a text -/
def gCatS : PyData → PyData → (PyData → Prop) → Prop := fun x y Φ => ∃ a b, x = .str a ∧ y = .str b ∧ a.length + b.length ≤ sizeLine ∧ Φ (.str (a ++ b))
/-- an item -/
theorem atI_rp {K : PySem.W.Frag} {H : Hp} {vs : List V} {xs : List PyData} {i : Int} {y : PyData} (r : RpA K H vs xs) (e : atI xs i = some y) : ∃ v, atI vs i = some v ∧ Rp K H v y := by
  unfold atI at e ⊢
  rw [r.length]
  cases h : ixN xs.length i with
  | none => rw [h] at e; simp at e
  | some j =>
    rw [h] at e
    exact r.get e
@[simp] def gIx : PyData → PyData → (PyData → Prop) → Prop := fun x y Φ => ∃ i, y = .int i ∧ match x with
  | .list xs => ∃ z, atI xs i = some z ∧ Φ z
  | .tuple xs => ∃ z, atI xs i = some z ∧ Φ z
  | .str s => s.length ≤ sizeLine ∧ ∃ c, atI s.cps.toList i = some c ∧ Φ (.str ⟨#[c]⟩)
  | _ => False
theorem sm_ix (ha : Sm C f ta da) (hb : Sm C f2 tb db) : Sm C f (tOp (rIx C.K) ta tb) (dOp gIx da db) := fun σ δ H0 H Φ Q s w q =>
  ha σ δ H0 H _ _ s w fun H01 H1 v x g1 r1 w1 => hb σ δ H01 H1 _ _ (s.go g1) w1 fun H02 H2 u y g2 r2 w2 => by
    obtain ⟨i, rfl, w2⟩ := w2
    cases r2
    have r3 := r1.mono g2.loc
    cases r3 with
    | lst h r =>
      obtain ⟨z, e, p⟩ := w2
      obtain ⟨v, e1, rv⟩ := atI_rp r e
      exact .inl ⟨_, _, i, v, rfl, rfl, SqL.of (g2.wf.loc _ _ h), e1, q H02 H2 v z (g1.trans g2) rv p⟩
    | tup h r =>
      obtain ⟨z, e, p⟩ := w2
      obtain ⟨v, e1, rv⟩ := atI_rp r e
      exact .inr (.inl ⟨_, _, i, v, rfl, rfl, same_t g2.wf.loc h, e1, q H02 H2 v z (g1.trans g2) rv p⟩)
    | str t =>
      obtain ⟨e0, c, e, p⟩ := w2
      exact .inr (.inr ⟨t, i, c, rfl, rfl, e0, e, q H02 H2 _ _ (g1.trans g2) (.str _) p⟩)
    | _ => exact w2.elim
@[simp] def dUn (g : Int → PyData) (da : DE) : DE := fun δ Φ => da δ fun x => ∃ i, x = .int i ∧ Φ (g i)
theorem sm_un {g : Int → V} {g' : Int → PyData} (h : ∀ i, isScalV (g i) = some (g' i)) (ha : Sm C f1 ta da) : Sm C f (tUn (rU g) ta) (dUn g' da) := fun σ δ H0 H Φ Q s w q =>
  ha σ δ H0 H _ _ s w fun H01 H1 v x g1 r1 ⟨i, e, p⟩ => by
    subst e
    cases r1
    exact ⟨i, rfl, q H01 H1 _ _ g1 (isScal_rp (h i) _) p⟩

/-! ### argument lists, displays, calls -/
@[simp] def dNil : DA := fun _ Φ => Φ []
@[simp] def dCons (da : DE) (ds : DA) : DA := fun δ Φ => da δ fun x => ds δ fun xs => Φ (x :: xs)
theorem sma_nil : SmA C f tNil dNil := fun σ δ H0 H Φ Q s w q => q H0 H _ _ (.refl s.toWf) .nil w
theorem sma_cons (ha : Sm C f ta da) (hb : SmA C f tas das) : SmA C f (tCons ta tas) (dCons da das) := fun σ δ H0 H Φ Q s w q =>
  ha σ δ H0 H _ _ s w fun H01 H1 v x g1 r1 w1 => hb σ δ H01 H1 _ _ (s.go g1) w1 fun H02 H2 us ys g2 r2 w2 =>
    q H02 H2 _ _ (g1.trans g2) (.cons (r1.mono g2.loc) r2) w2
@[simp] def dTup (ds : DA) : DE := fun δ Φ => ds δ fun xs => xs.length ≤ sizeLine ∧ Φ (.tuple xs)
theorem Go.same_new {p : Addr} {o : HO} (h0 : H0 p = none) : Same H0 (upd H0 p o) := fun b u q => by rw [upd_ne (fun z => by rw [z, h0] at q; cases q)]; exact q
theorem Wf.none (w : Wf C H0 H) {p : Addr} (hp : H p = Option.none) : H0 p = Option.none := by
  cases q : H0 p with
  | none => rfl
  | some u => rw [w.sub p u q] at hp; cases hp
theorem sm_tup (ha : SmA C true tas das) : Sm C f (tTup tas) (dTup das) := fun σ δ H0 H Φ Q s w q =>
  ha σ δ H0 H _ _ s w fun H01 H1 vs xs g1 r1 ⟨e, p⟩ => ⟨by rw [r1.length]; exact e, fun l hl => by
    have g2 := Go.new (o := .tup vs) g1.wf hl
    refine q _ _ _ _ (g1.trans g2) ?_ p
    exact Rp.mono g2.wf.to (.tup (SqT.of upd_same) (r1.mono (Go.same_new (g1.wf.none hl))))⟩
@[simp] def oLst (ds : DA) : DO := fun δ Φ => ds δ fun xs => xs.length ≤ sizeLine ∧ Φ xs
theorem smo_lst (ha : SmA C true tas das) : SmO C (tLst tas) (oLst das) := fun σ δ H0 H Φ Q s w q =>
  ha σ δ H0 H _ _ s w fun H01 H1 vs xs g1 r1 ⟨e, p⟩ => ⟨by rw [r1.length]; exact e, fun l hl => by
    have g2 := Go.free (o := .lst vs) g1.wf hl
    refine q _ _ l vs xs (g1.trans g2) ?_ (g1.wf.none hl) upd_same r1 p
    cases z : H l with
    | none => rfl
    | some u =>
      by_cases n : C.ex = some l
      · obtain ⟨_, k1⟩ := (g1.wf.dr l n).live
        rw [hl] at k1; cases k1
      · rw [g1.kp l u n z] at hl; cases hl⟩
/-- a new list as data -/
@[simp] def dO (o : DO) : DE := fun δ Φ => o δ fun xs => Φ (.list xs)
theorem SmO.sm {o : DO} (h : SmO C te o) : Sm C f te (dO o) := fun σ δ H0 H Φ Q s w q =>
  h σ δ H0 H _ _ s w fun H01 H1 a vs xs g1 e1 e2 e3 r p => by
    have g2 := Go.frz s.toWf g1 e1 e2 e3
    refine q _ _ _ _ g2 (Rp.mono g2.wf.to ?_) p
    exact .lst upd_same (r.mono (Go.same_new e2))
/-- a new list, its elements from others -/
@[simp] def oCat (da db : DE) : DO := fun δ Φ => da δ fun x => db δ fun y => ∃ xs ys, x = .list xs ∧ y = .list ys ∧ xs.length + ys.length ≤ sizeLine ∧ Φ (xs ++ ys)
theorem Go.fresh {p : Addr} (g : Go C H0 H H0' H') (hp : H' p = none) : H p = none := by
  cases z : H p with
  | none => rfl
  | some u =>
    by_cases n : C.ex = some p
    · obtain ⟨_, k1⟩ := (g.wf.dr p n).live
      rw [hp] at k1; cases k1
    · rw [g.kp p u n z] at hp; cases hp
theorem smo_cat (ha : Sm C true ta da) (hb : Sm C true tb db) : SmO C (tOp rCat ta tb) (oCat da db) := fun σ δ H0 H Φ Q s w q =>
  ha σ δ H0 H _ _ s w fun H01 H1 v x g1 r1 w1 => hb σ δ H01 H1 _ _ (s.go g1) w1 fun H02 H2 u y g2 r2 ⟨xs, ys, e1, e2, e3, p⟩ => by
    subst e1 e2
    have r3 := r1.mono g2.fz
    cases r3 with
    | @lst a1 us1 _ h r =>
      cases r2 with
      | @lst a2 us2 _ h' r' =>
        refine ⟨_, _, _, _, rfl, rfl, g2.wf.sub _ _ h, g2.wf.sub _ _ h', by rw [r.length, r'.length]; exact e3, fun l hl => ?_⟩
        have g3 := Go.free (o := .lst (us1 ++ us2)) g2.wf hl
        exact q _ _ l _ _ ((g1.trans g2).trans g3) ((g1.trans g2).fresh hl) (g2.wf.none hl) upd_same (r.append r') p
@[simp] def oList (da : DE) : DO := fun δ Φ => da δ fun x => ∃ xs, seqOf x = some xs ∧ Φ xs
theorem smo_list (ha : Sm C true ta da) : SmO C (tCB (fun xs H Q => ∃ p ys, xs = [.ref p] ∧ (SqL C.K H p ys ∨ SqT C.K H p ys) ∧ ∀ l, H l = none → Q (.ref l) (upd H l (.lst ys))) (tCons ta tNil)) (oList da) := fun σ δ H0 H Φ Q s w q =>
  ha σ δ H0 H _ _ s w fun H01 H1 v x g1 r1 ⟨xs, e, p⟩ => by
    cases r1 with
    | lst h r =>
      simp [seqOf] at e
      subst e
      exact ⟨_, _, rfl, .inl (SqL.of (g1.wf.sub _ _ h)), fun l hl => q _ _ l _ _ (g1.trans (Go.free (o := .lst _) g1.wf hl)) (g1.fresh hl) (g1.wf.none hl) upd_same r p⟩
    | tup h r =>
      simp [seqOf] at e
      subst e
      exact ⟨_, _, rfl, .inr (same_t g1.wf.sub h), fun l hl => q _ _ l _ _ (g1.trans (Go.free (o := .lst _) g1.wf hl)) (g1.fresh hl) (g1.wf.none hl) upd_same r p⟩
    | _ => simp [seqOf] at e
/-- tuple(x) -/
@[simp] def dTuple (da : DE) : DE := fun δ Φ => da δ fun x => ∃ xs, seqOf x = some xs ∧ Φ (.tuple xs)
/-- the elements of a list that is looked at, kept in the frozen part -/
theorem sm_tuple (ha : Sm C true ta da) : Sm C f (tCB (fun xs H Q => ∃ p ys, xs = [.ref p] ∧ ((SqL C.K H p ys ∧ ∀ l, H l = none → Q (.ref l) (upd H l (.tup ys))) ∨ (SqT C.K H p ys ∧ Q (.ref p) H))) (tCons ta tNil)) (dTuple da) := fun σ δ H0 H Φ Q s w q =>
  ha σ δ H0 H _ _ s w fun H01 H1 v x g1 r1 ⟨xs, e, p⟩ => by
    cases r1 with
    | @lst a1 us1 _ h r =>
      simp [seqOf] at e
      subst e
      refine ⟨_, _, rfl, .inl ⟨SqL.of (g1.wf.sub _ _ h), fun l hl => ?_⟩⟩
      have g2 := Go.new (o := .tup us1) g1.wf hl
      exact q _ _ _ _ (g1.trans g2) (Rp.mono g2.wf.to (.tup (SqT.of upd_same) (r.mono (Go.same_new (g1.wf.none hl))))) p
    | tup h r =>
      simp [seqOf] at e
      subst e
      exact ⟨_, _, rfl, .inr ⟨same_t g1.wf.sub h, q _ _ _ _ g1 (Rp.mono g1.wf.to (.tup h r)) p⟩⟩
    | _ => simp [seqOf] at e
/-- a built-in on data, its answer scalar -/
def CbD (C : Ctx) (r : List V → Hp → VK → Prop) (g : List PyData → (PyData → Prop) → Prop) : Prop := ∀ (H : Hp) (vs : List V) (xs : List PyData) (Φ : PyData → Prop) (Q : VK), RpA C.K H vs xs → g xs Φ → (∀ w z, (∀ H, Rp C.K H w z) → Φ z → Q w H) → r vs H Q
@[simp] def dCB (g : List PyData → (PyData → Prop) → Prop) (ds : DA) : DE := fun δ Φ => ds δ fun xs => g xs Φ
theorem sm_cb {r : List V → Hp → VK → Prop} {g : List PyData → (PyData → Prop) → Prop} (hr : CbD C r g) (ha : SmA C f1 tas das) : Sm C f (tCB r tas) (dCB g das) := fun σ δ H0 H Φ Q s w q =>
  ha σ δ H0 H _ _ s w fun H01 H1 vs xs g1 r1 w1 => hr H1 vs xs Φ Q (r1.mono g1.wf.loc) w1 fun w' z hz p => q _ _ w' z g1 (hz _) p
@[simp] def gLen : List PyData → (PyData → Prop) → Prop := fun xs Φ => ∃ x, xs = [x] ∧ match x with
  | .list ys => Φ (.int ys.length)
  | .tuple ys => Φ (.int ys.length)
  | .str s => s.length ≤ sizeLine ∧ Φ (.int s.length)
  | _ => False
theorem cbd_len : CbD C (fun xs H Q => ∃ x n, xs = [x] ∧ LenV C.K x H n ∧ Q (.int n) H) gLen := fun H vs xs Φ Q r ⟨x, e, p⟩ q => by
  subst e
  cases r with
  | cons h n =>
    cases n
    cases h with
    | lst h r => exact ⟨_, _, rfl, .inl ⟨_, SqL.of h, rfl⟩, by rw [r.length]; exact q _ _ (fun _ => .int _) p⟩
    | tup h r => exact ⟨_, _, rfl, .inr ⟨_, h, rfl⟩, by rw [r.length]; exact q _ _ (fun _ => .int _) p⟩
    | str t => exact ⟨_, _, rfl, ⟨p.1, rfl⟩, q _ _ (fun _ => .int _) p.2⟩
    | _ => exact p.elim
@[simp] def gAbs : List PyData → (PyData → Prop) → Prop := fun xs Φ => ∃ i, xs = [.int i] ∧ Φ (.int (if i < 0 then -i else i))
theorem cbd_abs : CbD C (fun xs H Q => ∃ i, xs = [.int i] ∧ Q (.int (if i < 0 then -i else i)) H) gAbs := fun H vs xs Φ Q r ⟨i, e, p⟩ q => by
  subst e
  cases r with
  | cons h n => cases n; cases h; exact ⟨i, rfl, q _ _ (fun _ => .int _) p⟩
@[simp] def gMax : List PyData → (PyData → Prop) → Prop := fun xs Φ => ∃ i j, xs = [.int i, .int j] ∧ Φ (.int (if j > i then j else i))
theorem cbd_max : CbD C (fun xs H Q => ∃ i j, xs = [.int i, .int j] ∧ Q (.int (if j > i then j else i)) H) gMax := fun H vs xs Φ Q r ⟨i, j, e, p⟩ q => by
  subst e
  cases r with
  | cons h n => cases h; cases n with | cons h n => cases n; cases h; exact ⟨i, j, rfl, q _ _ (fun _ => .int _) p⟩
@[simp] def gMin : List PyData → (PyData → Prop) → Prop := fun xs Φ => ∃ i j, xs = [.int i, .int j] ∧ Φ (.int (if j < i then j else i))
theorem cbd_min : CbD C (fun xs H Q => ∃ i j, xs = [.int i, .int j] ∧ Q (.int (if j < i then j else i)) H) gMin := fun H vs xs Φ Q r ⟨i, j, e, p⟩ q => by
  subst e
  cases r with
  | cons h n => cases h; cases n with | cons h n => cases n; cases h; exact ⟨i, j, rfl, q _ _ (fun _ => .int _) p⟩
@[simp] def gInt : List PyData → (PyData → Prop) → Prop := fun xs Φ => ∃ x, xs = [x] ∧ match x with
  | .int i => Φ (.int i)
  | .bool k => Φ (.int (if k then 1 else 0))
  | _ => False
theorem cbd_int : CbD C (fun xs H Q => (∃ i, xs = [.int i] ∧ Q (.int i) H) ∨ ∃ k, xs = [.bl k] ∧ Q (.int (if k then 1 else 0)) H) gInt := fun H vs xs Φ Q r ⟨x, e, p⟩ q => by
  subst e
  cases r with
  | cons h n =>
    cases n
    cases h with
    | int i => exact .inl ⟨i, rfl, q _ _ (fun _ => .int _) p⟩
    | bl k => exact .inr ⟨k, rfl, q _ _ (fun _ => .int _) p⟩
    | _ => exact p.elim
@[simp] def gStr : List PyData → (PyData → Prop) → Prop := fun xs Φ => ∃ i, xs = [.int i] ∧ i.natAbs.log2 < 1920 ∧ Φ (.str (toString i))
theorem cbd_str : CbD C (fun xs H Q => ∃ i, xs = [.int i] ∧ i.natAbs.log2 < 1920 ∧ Q (.str (toString i)) H) gStr := fun H vs xs Φ Q r ⟨i, e, e2, p⟩ q => by
  subst e
  cases r with
  | cons h n => cases n; cases h; exact ⟨i, rfl, e2, q _ _ (fun _ => .str _) p⟩
/-- isinstance of data -/
def tyD : PyData → String
  | .none => "NoneType"
  | .bool _ => "bool"
  | .int _ => "int"
  | .str _ => "str"
  | .list _ => "list"
  | .tuple _ => "tuple"
  | .dict _ => "dict"
@[simp] def dIsi (n : String) (da : DE) : DE := fun δ Φ => da δ fun x => ∃ b, kitB (tyD x) n = some b ∧ Φ (.bool b)
theorem tyD_rp {K : PySem.W.Frag} {v : V} {x : PyData} (h : Rp K H v x) : TyX K H v (.type (tyD x)) := by
  cases h with
  | non => exact .base .non
  | bl b => exact .base (.bl b)
  | int b => exact .base (.int b)
  | str b => exact .base (.str b)
  | lst h _ => exact .base (.lst h)
  | dic h _ => exact .fDict h
  | tup h _ =>
    rcases h with (h | ⟨o, h⟩) | ⟨o, its, n, h, c, _⟩
    · exact .base (.tup h)
    · exact .fTuple h
    · exact .kTuple h c
theorem sm_isi (n : String) (ha : Sm C f1 ta da) : Sm C f (tCB (rIsi C.K) (tCons ta (tCons (tC (.ty n)) tNil))) (dIsi n da) := fun σ δ H0 H Φ Q s w q =>
  ha σ δ H0 H _ _ s w fun H01 H1 v x g1 r1 ⟨b, e, p⟩ =>
    ⟨v, .ty n, _, _, b, rfl, .ty n, tyD_rp (r1.mono g1.wf.loc), kit_ty e, q _ _ _ _ g1 (.bl b) p⟩

/-! ### values by tests -/
@[simp] def dIf (dt : DT) (da db : DE) : DE := fun δ Φ => dt δ fun b => if b = true then da δ Φ else db δ Φ
theorem sm_if (ht : SmT C tt dt) (ha : Sm C f ta da) (hb : Sm C f tb db) : Sm C f (tIf tt ta tb) (dIf dt da db) := fun σ δ H0 H Φ Q s w q =>
  ht σ δ H0 H _ _ s w fun H01 H1 b g1 w1 => by
    cases b with
    | true => exact iteT (ha σ δ H01 H1 Φ Q (s.go g1) (by simpa using w1) fun H02 H2 v x g2 r p => q _ _ _ _ (g1.trans g2) r p)
    | false => exact iteF (hb σ δ H01 H1 Φ Q (s.go g1) (by simpa using w1) fun H02 H2 v x g2 r p => q _ _ _ _ (g1.trans g2) r p)
@[simp] def dAndV (da db : DE) : DE := fun δ Φ => da δ fun x => ∃ c, x = .bool c ∧ if c = true then db δ Φ else Φ (.bool false)
theorem sm_and (ha : Sm C f1 ta da) (hb : Sm C f tb db) : Sm C f (tAndV ta tb) (dAndV da db) := fun σ δ H0 H Φ Q s w q =>
  ha σ δ H0 H _ _ s w fun H01 H1 v x g1 r1 ⟨c, e, w1⟩ => by
    subst e
    cases r1
    refine ⟨c, rfl, ?_⟩
    cases c with
    | true => exact iteT (hb σ δ H01 H1 Φ Q (s.go g1) (by simpa using w1) fun H02 H2 v x g2 r p => q _ _ _ _ (g1.trans g2) r p)
    | false => exact iteF (q _ _ _ _ g1 (.bl false) (by simpa using w1))
@[simp] def dOrV (da db : DE) : DE := fun δ Φ => da δ fun x => ∃ c, x = .bool c ∧ if c = true then Φ (.bool true) else db δ Φ
theorem sm_or (ha : Sm C f1 ta da) (hb : Sm C f tb db) : Sm C f (tOrV ta tb) (dOrV da db) := fun σ δ H0 H Φ Q s w q =>
  ha σ δ H0 H _ _ s w fun H01 H1 v x g1 r1 ⟨c, e, w1⟩ => by
    subst e
    cases r1
    refine ⟨c, rfl, ?_⟩
    cases c with
    | false => exact iteF (hb σ δ H01 H1 Φ Q (s.go g1) (by simpa using w1) fun H02 H2 v x g2 r p => q _ _ _ _ (g1.trans g2) r p)
    | true => exact iteT (q _ _ _ _ g1 (.bl true) (by simpa using w1))
@[simp] def dNotV (da : DE) : DE := fun δ Φ => da δ fun x => ∃ c, x = .bool c ∧ Φ (.bool (!c))
theorem sm_not (ha : Sm C f1 ta da) : Sm C f (tNotV ta) (dNotV da) := fun σ δ H0 H Φ Q s w q =>
  ha σ δ H0 H _ _ s w fun H01 H1 v x g1 r1 ⟨c, e, w1⟩ => by
    subst e
    cases r1
    exact ⟨c, rfl, q _ _ _ _ g1 (.bl _) w1⟩

/-! ### tests -/
@[simp] def dB (da : DE) : DT := fun δ Φ => da δ fun x => ∃ c, x = .bool c ∧ Φ c
theorem smt_b (ha : Sm C f1 ta da) : SmT C (tB ta) (dB da) := fun σ δ H0 H Φ Q s w q =>
  ha σ δ H0 H _ _ s w fun H01 H1 v x g1 r1 ⟨c, e, w1⟩ => by
    subst e
    cases r1
    exact ⟨c, rfl, q _ _ _ g1 w1⟩
theorem smt_t (ha : Sm C f1 ta da) : SmT C (tTest ta) (dB da) := fun σ δ H0 H Φ Q s w q =>
  ha σ δ H0 H _ _ s w fun H01 H1 v x g1 r1 ⟨c, e, w1⟩ => by
    subst e
    cases r1
    exact ⟨c, rfl, q _ _ _ g1 w1⟩
@[simp] def dAnd (dt du : DT) : DT := fun δ Φ => dt δ fun c => if c = true then du δ Φ else Φ false
theorem smt_and (ht : SmT C tt dt) (hu : SmT C tu du) : SmT C (tAnd tt tu) (dAnd dt du) := fun σ δ H0 H Φ Q s w q =>
  ht σ δ H0 H _ _ s w fun H01 H1 b g1 w1 => by
    cases b with
    | true => exact iteT (hu σ δ H01 H1 Φ Q (s.go g1) (by simpa using w1) fun H02 H2 c g2 p => q _ _ _ (g1.trans g2) p)
    | false => exact iteF (q _ _ _ g1 (by simpa using w1))
@[simp] def dOr (dt du : DT) : DT := fun δ Φ => dt δ fun c => if c = true then Φ true else du δ Φ
theorem smt_or (ht : SmT C tt dt) (hu : SmT C tu du) : SmT C (tOr tt tu) (dOr dt du) := fun σ δ H0 H Φ Q s w q =>
  ht σ δ H0 H _ _ s w fun H01 H1 b g1 w1 => by
    cases b with
    | false => exact iteF (hu σ δ H01 H1 Φ Q (s.go g1) (by simpa using w1) fun H02 H2 c g2 p => q _ _ _ (g1.trans g2) p)
    | true => exact iteT (q _ _ _ g1 (by simpa using w1))
@[simp] def dNot (dt : DT) : DT := fun δ Φ => dt δ fun c => Φ (!c)
theorem smt_not (ht : SmT C tt dt) : SmT C (tNot tt) (dNot dt) := fun σ δ H0 H Φ Q s w q =>
  ht σ δ H0 H _ _ s w fun H01 H1 b g1 w1 => q _ _ _ g1 w1
end
end VL

namespace VL
open PySem L2
section
variable {C : Ctx} {H0 H H0' H' H0'' H'' : Hp} {σ : L2.St} {δ : Dl} {v : V} {x : PyData} {f : Bool}
variable {te ta tb tc : TE} {de da db dc : DE} {tt tu : TT} {dt du : DT} {tas : TA} {das : DA} {f1 f2 : Bool}
/-! ### calls -/
def RRa (K : PySem.W.Frag) (ex : Option Addr) (He H0 : Hp) (v : V) : R → Prop
  | .d x => Rp K H0 v x
  | .own _ _ => False
  | .drw => ∃ p, ex = some p ∧ v = .ref p ∧ ¬ IsTb He p
  | .raw u => v = u
  | .scr ns => ∃ a, v = .ref a ∧ SqL K H0 a (ns.map V.int)
  | .fn F => ∃ f c, v = .ref f ∧ H0 f = some (LamO f F c) ∧ H0 c = some (LamX.CodeO c F.qual)
  | .dct _ _ => False
  | .reg _ _ => False
theorem RRa.mono {K : PySem.W.Frag} {ex : Option Addr} {He : Hp} {r : R} (h : RRa K ex He H0 v r) (e : Same H0 H0') : RRa K ex He H0' v r := by
  cases r with
  | d x => exact Rp.mono e h
  | own a xs => exact h
  | drw => exact h
  | raw u => exact h
  | scr ns => obtain ⟨a, e', q⟩ := h; exact ⟨a, e', e.seq q⟩
  | fn F => obtain ⟨a, c, e', q, q2⟩ := h; exact ⟨a, c, e', e _ _ q, e _ _ q2⟩
  | dct a es => exact h
  | reg u m => exact h
inductive RRas (K : PySem.W.Frag) (ex : Option Addr) (He H0 : Hp) : List V → List R → Prop
  | nil : RRas K ex He H0 [] []
  | cons {v : V} {r : R} {vs : List V} {rs : List R} : RRa K ex He H0 v r → RRas K ex He H0 vs rs → RRas K ex He H0 (v :: vs) (r :: rs)
theorem RRa.in_ {r : R} (h : RRa C.K C.ex C.He H0 v r) (w : Wf C H0 H) : RRa C.K C.ex H H0 v r := by
  cases r with
  | drw =>
    obtain ⟨p, e1, e2, e3⟩ := h
    exact ⟨p, e1, e2, fun z => e3 ((w.dr p e1).2.2.mpr z)⟩
  | d x => exact h
  | own a xs => exact h
  | raw u => exact h
  | scr ns => exact h
  | fn F => exact h
  | dct a es => exact h
  | reg u m => exact h
theorem RRas.in_ : ∀ {vs : List V} {rs : List R}, RRas C.K C.ex C.He H0 vs rs → Wf C H0 H → RRas C.K C.ex H H0 vs rs
  | _, _, .nil, _ => .nil
  | _, _, .cons h r, w => .cons (h.in_ w) (r.in_ w)
theorem RRas.length {K : PySem.W.Frag} {ex : Option Addr} {He : Hp} : ∀ {vs : List V} {rs : List R}, RRas K ex He H0 vs rs → vs.length = rs.length
  | _, _, .nil => rfl
  | _, _, .cons _ r => by rw [List.length_cons, List.length_cons, RRas.length r]
theorem RRas.get {K : PySem.W.Frag} {ex : Option Addr} {He : Hp} : ∀ {vs : List V} {rs : List R} {i : Nat} {r : R}, RRas K ex He H0 vs rs → rs[i]? = some r → ∃ v, vs[i]? = some v ∧ RRa K ex He H0 v r
  | _, _, _, _, .nil, e => by simp at e
  | _, _, 0, _, .cons h _, e => by simp at e; subst e; exact ⟨_, rfl, h⟩
  | _, _, i + 1, _, .cons _ r, e => by
    obtain ⟨v, h1, h2⟩ := RRas.get (i := i) r (by simpa using e)
    exact ⟨v, by simpa using h1, h2⟩
def SmQ (C : Ctx) (ta : TA) (da : DR) : Prop := ∀ (σ : L2.St) (δ : Dl) (H0 H : Hp) (Φ : List R → Prop) (Q : List V → Hp → Prop), St C H0 H σ δ → da δ Φ →
  (∀ H0' H' vs rs, Go C H0 H H0' H' → RRas C.K C.ex C.He H0' vs rs → Φ rs → Q vs H') → ta σ H Q
@[simp] def qNil : DR := fun _ Φ => Φ []
@[simp] def qCons (da : DE) (ds : DR) : DR := fun δ Φ => da δ fun x => ds δ fun xs => Φ (.d x :: xs)
@[simp] def qDrw (i : Nat) (ds : DR) : DR := fun δ Φ => δ[i]? = some (some .drw) ∧ ds δ fun xs => Φ (.drw :: xs)
variable {dqs : DR}
theorem smq_nil : SmQ C tNil qNil := fun σ δ H0 H Φ Q s w q => q H0 H _ _ (.refl s.toWf) .nil w
theorem smq_cons (ha : Sm C true ta da) (hb : SmQ C tas dqs) : SmQ C (tCons ta tas) (qCons da dqs) := fun σ δ H0 H Φ Q s w q =>
  ha σ δ H0 H _ _ s w fun H01 H1 v x g1 r1 w1 => hb σ δ H01 H1 _ _ (s.go g1) w1 fun H02 H2 us ys g2 r2 w2 =>
    q H02 H2 _ _ (g1.trans g2) (RRas.cons (r := R.d x) (Rp.mono g2.fz r1) r2) w2
theorem smq_drw (i : Nat) (hb : SmQ C tas dqs) : SmQ C (tCons (tVar i) tas) (qDrw i dqs) := fun σ δ H0 H Φ Q s ⟨e, w⟩ q => by
  obtain ⟨v, e1, p, h1, h2, h3⟩ := s.sl i _ e
  exact ⟨v, e1, hb σ δ H0 H _ _ s w fun H02 H2 us ys g2 r2 w2 => q H02 H2 _ _ g2 (RRas.cons (r := R.drw) ⟨p, h1, h2, h3⟩ r2) w2⟩

@[simp] def qScr (i : Nat) (ds : DR) : DR := fun δ Φ => ∃ ns, δ[i]? = some (some (.scr ns)) ∧ ds δ fun xs => Φ (.scr ns :: xs)
theorem smq_scr (i : Nat) (hb : SmQ C tas dqs) : SmQ C (tCons (tVar i) tas) (qScr i dqs) := fun σ δ H0 H Φ Q s ⟨ns, e, w⟩ q => by
  obtain ⟨v, e1, a, h1, h2⟩ := s.sl i _ e
  exact ⟨v, e1, hb σ δ H0 H _ _ s w fun H02 H2 us ys g2 r2 w2 => q H02 H2 _ _ g2 (RRas.cons (r := R.scr ns) ⟨a, h1, g2.fz.seq h2⟩ r2) w2⟩

/-- what a def answers, by data -/
abbrev VSp := List R → (RX → Prop) → Prop
def RXR (C : Ctx) (H0 H : Hp) (v : V) : RX → Prop
  | .d x => Rp C.K H0 v x
  | .own xs => ∃ a vs, v = .ref a ∧ H0 a = none ∧ C.He a = none ∧ C.ex ≠ some a ∧ H a = some (.lst vs) ∧ RpA C.K H0 vs xs
  | .m u m x => Rp C.K H0 v x ∧ RR C H0 H u (.reg u m)
def RX.data : RX → PyData
  | .d x => x
  | .own xs => .list xs
  | .m _ _ x => x
@[simp] theorem data_d (x : PyData) : (RX.d x).data = x := rfl
@[simp] theorem data_own (xs : List PyData) : (RX.own xs).data = .list xs := rfl
def toSp (K : PySem.W.Frag) (n : Nat) (p : VSp) : Sp := fun vs H Q _ => vs.length = n ∧ ∃ (ex : Option Addr) (H0 : Hp) (rs : List R) (Φ : RX → Prop), Wf ⟨K, ex, H, H0⟩ H0 H ∧ RRas K ex H H0 vs rs ∧ p rs Φ ∧
  ∀ H0' H' v r, Wf ⟨K, ex, H, H0⟩ H0' H' → RXR ⟨K, ex, H, H0⟩ H0' H' v r → Φ r → Q v H'
theorem Wf.inner (w : Wf C H0 H) : Wf ⟨C.K, C.ex, H, H0⟩ H0 H := ⟨w.sub, fun _ _ _ e => e, Same.refl _, fun _ _ e => .inl e, fun p e => (w.dr p e).in_⟩
theorem Go.outer (w : Wf C H0 H) (g : Wf ⟨C.K, C.ex, H, H0⟩ H0' H') : Go C H0 H H0' H' := by
  refine ⟨⟨g.sub, fun b o n e => g.kp b o n (w.kp b o n e), w.fz.trans g.fz, fun b o e => ?_, fun p e => (w.dr p e).out (g.dr p e)⟩, g.fz, g.kp, fun b o e => ?_⟩
  · rcases g.nw b o e with z | z
    · exact w.nw b o z
    · cases q : C.He b with
      | none => exact .inr rfl
      | some y =>
        by_cases n : C.ex = some b
        · have k := (g.dr b n).no
          rw [e] at k; cases k
        · have := w.kp b y n q
          have z : H b = none := z
          rw [this] at z; cases z
  · exact g.nw b o e
@[simp] def dCall (p : VSp) (ds : DR) : DE := fun δ Φ => ds δ fun rs => p rs fun r => Φ r.data
theorem sm_call {n : Nat} {p : VSp} {E : XK} (hp : ∀ rs Φ, p rs Φ → rs.length = n) (ha : SmQ C tas dqs) : Sm C f (tCall (toSp C.K n p) [] E tas) (dCall p dqs) := fun σ δ H0 H Φ Q s w q =>
  ha σ δ H0 H _ _ s w fun H01 H1 vs rs g1 r1 w1 => by
    show toSp C.K n p (vs ++ []) H1 Q E
    rw [List.append_nil]
    refine ⟨by rw [r1.length]; exact hp _ _ w1, C.ex, H01, rs, _, g1.wf.inner, r1.in_ g1.wf, w1, fun H02 H2 v r g2 h2 p2 => ?_⟩
    have g3 := Go.outer g1.wf g2
    cases r with
    | d x => exact q _ _ _ _ (g1.trans g3) (Rp.mono g3.wf.to h2) p2
    | own xs =>
      obtain ⟨a, us, rfl, k1, k2, k3, k4, k5⟩ := h2
      have g4 := Go.frz s.toWf (g1.trans g3) (g1.fresh k2) k1 k4
      exact q _ _ _ _ g4 (Rp.mono g4.wf.to (.lst upd_same (k5.mono (Go.same_new k1)))) p2
    | m u m x => exact q _ _ _ _ (g1.trans g3) (Rp.mono g3.wf.to h2.1) p2
@[simp] def oCall (p : VSp) (ds : DR) : DO := fun δ Φ => ds δ fun rs => p rs fun r => ∃ xs, r = .own xs ∧ Φ xs
theorem smo_call {n : Nat} {p : VSp} {E : XK} (hp : ∀ rs Φ, p rs Φ → rs.length = n) (ha : SmQ C tas dqs) : SmO C (tCall (toSp C.K n p) [] E tas) (oCall p dqs) := fun σ δ H0 H Φ Q s w q =>
  ha σ δ H0 H _ _ s w fun H01 H1 vs rs g1 r1 w1 => by
    show toSp C.K n p (vs ++ []) H1 Q E
    rw [List.append_nil]
    refine ⟨by rw [r1.length]; exact hp _ _ w1, C.ex, H01, rs, _, g1.wf.inner, r1.in_ g1.wf, w1, fun H02 H2 v r g2 h2 p2 => ?_⟩
    have g3 := Go.outer g1.wf g2
    obtain ⟨xs, rfl, p2⟩ := p2
    obtain ⟨a, us, rfl, k1, k2, k3, k4, k5⟩ := h2
    exact q _ _ _ _ _ (g1.trans g3) (g1.fresh k2) k1 k4 k5 p2

/-! ### what is walked -/
structure Wk (C : Ctx) (J : It) (H0 : Hp) (xs : List PyData) : Prop where
  stop : ∀ (H0' H' : Hp) (i : Nat), Same H0 H0' → Wf C H0' H' → xs.length = i → J.stop i H'
  go : ∀ (H0' H' : Hp) (i : Nat), Same H0 H0' → Wf C H0' H' → i < xs.length → J.go i H'
  yld : ∀ (H0' H' : Hp) (i : Nat) (v : V) (H'' : Hp), Same H0 H0' → Wf C H0' H' → i < xs.length → J.yld i H' v H'' → ∃ H0'' y, Go C H0' H' H0'' H'' ∧ xs[i]? = some y ∧ Rp C.K H0'' v y
abbrev DI := Dl → (List PyData → Prop) → Prop
def SmI (C : Ctx) (ti : TI) (di : DI) : Prop := ∀ (σ : L2.St) (δ : Dl) (H0 H : Hp) (Φ : List PyData → Prop) (R : It → Hp → Prop), St C H0 H σ δ → di δ Φ →
  (∀ H0' H' J xs, Go C H0 H H0' H' → Wk C J H0' xs → Φ xs → R J H') → ti σ H R
theorem SqL.len_inj {K : PySem.W.Frag} {H : Hp} {a : Addr} {xs ys : List V} (h : H a = some (.lst xs)) (k : H a = some (.lst ys)) : xs = ys := by
  rw [h] at k; cases k; rfl
@[simp] def iL (da : DE) : DI := fun δ Φ => da δ fun x => ∃ xs, x = .list xs ∧ Φ xs
theorem get_lt {α : Type} {xs : List α} {i : Nat} (h : i < xs.length) : ∃ y, xs[i]? = some y := ⟨xs[i], List.getElem?_eq_getElem h⟩
theorem wk_list {a : Addr} {us : List V} {xs : List PyData} (h : H0 a = some (.lst us)) (r : RpA C.K H0 us xs) : Wk C (Itl C.K a) H0 xs := by
  refine ⟨fun H0' H' i e w hi0 => have hi := Nat.le_of_eq hi0; ⟨us, SqL.of (w.sub _ _ (e _ _ h)), by rw [r.length]; exact hi⟩, fun H0' H' i e w hi => ?_, fun H0' H' i v H'' e w hi y => ?_⟩
  · obtain ⟨y, hy⟩ := get_lt hi
    obtain ⟨v, h1, h2⟩ := r.get hy
    exact ⟨us, v, SqL.of (w.sub _ _ (e _ _ h)), h1⟩
  · obtain ⟨rfl, y⟩ := y
    obtain ⟨z, hz⟩ := get_lt hi
    obtain ⟨u, h1, h2⟩ := r.get hz
    have := y us (SqL.of (w.sub _ _ (e _ _ h)))
    rw [h1] at this
    cases this
    exact ⟨H0', z, .refl w, hz, h2.mono e⟩
theorem smi_list (ha : Sm C true ta da) : SmI C (iList C.K ta) (iL da) := fun σ δ H0 H Φ R s w q =>
  ha σ δ H0 H _ _ s w fun H01 H1 v x g1 r1 ⟨xs, e, p⟩ => by
    subst e
    cases r1 with
    | @lst a us _ h r => exact ⟨a, rfl, ⟨us, SqL.of (g1.wf.sub _ _ h)⟩, q _ _ _ _ g1 (wk_list h r) p⟩
/-- the script is walked -/
@[simp] def iScr (i : Nat) : DI := fun δ Φ => ∃ ns : List Int, δ[i]? = some (some (.scr ns)) ∧ Φ (ns.map .int)
theorem smi_scr (i : Nat) : SmI C (iList C.K (tVar i)) (iScr i) := fun σ δ H0 H Φ R s ⟨ns, e, w⟩ q => by
  obtain ⟨v, e1, a, rfl, hq⟩ := s.sl i _ e
  refine ⟨_, e1, a, rfl, ⟨_, s.toWf.sub.seq hq⟩, q H0 H _ _ (.refl s.toWf) ⟨fun H0' H' k e w hk => ?_, fun H0' H' k e w hk => ?_, fun H0' H' k v H'' e w hk y => ?_⟩ w⟩
  · exact ⟨_, w.sub.seq (e.seq hq), by simpa using Nat.le_of_eq hk⟩
  · rw [List.length_map] at hk
    exact ⟨_, .int ns[k], w.sub.seq (e.seq hq), by rw [List.getElem?_map, List.getElem?_eq_getElem hk]; rfl⟩
  · rw [List.length_map] at hk
    obtain ⟨rfl, y⟩ := y
    have := y _ (w.sub.seq (e.seq hq))
    rw [List.getElem?_map, List.getElem?_eq_getElem hk] at this
    cases this
    exact ⟨H0', .int ns[k], .refl w, by rw [List.getElem?_map, List.getElem?_eq_getElem hk]; rfl, .int _⟩
@[simp] def iT (da : DE) : DI := fun δ Φ => da δ fun x => ∃ xs, x = .tuple xs ∧ Φ xs
theorem wk_tup {a : Addr} {us : List V} {xs : List PyData} (h : SqT C.K H0 a us) (r : RpA C.K H0 us xs) : Wk C (Itt C.K a) H0 xs := by
  refine ⟨fun H0' H' i e w hi0 => have hi := Nat.le_of_eq hi0; ⟨us, same_t w.sub (same_t e h), by rw [r.length]; exact hi⟩, fun H0' H' i e w hi => ?_, fun H0' H' i v H'' e w hi y => ?_⟩
  · obtain ⟨y, hy⟩ := get_lt hi
    obtain ⟨v, h1, h2⟩ := r.get hy
    exact ⟨us, v, same_t w.sub (same_t e h), h1⟩
  · obtain ⟨rfl, y⟩ := y
    obtain ⟨z, hz⟩ := get_lt hi
    obtain ⟨u, h1, h2⟩ := r.get hz
    have := y us (same_t w.sub (same_t e h))
    rw [h1] at this
    cases this
    exact ⟨H0', z, .refl w, hz, h2.mono e⟩
theorem smi_tup (ha : Sm C true ta da) : SmI C (iTup C.K ta) (iT da) := fun σ δ H0 H Φ R s w q =>
  ha σ δ H0 H _ _ s w fun H01 H1 v x g1 r1 ⟨xs, e, p⟩ => by
    subst e
    cases r1 with
    | @tup a us _ h r => exact ⟨a, rfl, ⟨us, same_t g1.wf.sub h⟩, q _ _ _ _ g1 (wk_tup h r) p⟩
def rng (lo : Int) (n : Nat) : List PyData := (List.range n).map fun (k : Nat) => PyData.int (lo + (k : Int))
theorem rng_len (lo : Int) (n : Nat) : (rng lo n).length = n := by simp [rng]
theorem rng_get {lo : Int} {n i : Nat} {y : PyData} (h : (rng lo n)[i]? = some y) : i < n ∧ y = .int (lo + (i : Int)) := by
  unfold rng at h
  rw [List.getElem?_map] at h
  cases q : (List.range n)[i]? with
  | none => rw [q] at h; simp at h
  | some k =>
    rw [q] at h
    obtain ⟨a, b⟩ := List.getElem?_eq_some_iff.mp q
    simp at a b h
    subst b
    exact ⟨a, h.symm⟩
theorem rng_at {lo : Int} {n i : Nat} (h : i < n) : (rng lo n)[i]? = some (.int (lo + (i : Int))) := by
  unfold rng
  rw [List.getElem?_map, List.getElem?_range h]
  rfl
theorem wk_rng (lo : Int) (n : Nat) : Wk C (Itr lo n) H0 (rng lo n) := by
  refine ⟨fun H0' H' i e w hi0 => have hi := Nat.le_of_eq hi0; by rw [rng_len] at hi; exact hi, fun H0' H' i e w hi => by rw [rng_len] at hi; exact hi, fun H0' H' i v H'' e w hi y => ?_⟩
  rw [rng_len] at hi
  obtain ⟨rfl, rfl⟩ := y
  exact ⟨H0', _, .refl w, rng_at hi, .int _⟩
@[simp] def iR1 (da : DE) : DI := fun δ Φ => da δ fun x => ∃ j, x = .int j ∧ -(2 ^ 62) ≤ j ∧ j < 2 ^ 62 ∧ Φ (rng 0 j.toNat)
theorem smi_rng1 (ha : Sm C f1 ta da) : SmI C (iRng1 (tCons ta tNil)) (iR1 da) := fun σ δ H0 H Φ R s w q =>
  ha σ δ H0 H _ _ s w fun H01 H1 v x g1 r1 ⟨j, e, h1, h2, p⟩ => by
    subst e
    cases r1
    exact ⟨j, rfl, h1, h2, q _ _ _ _ g1 (wk_rng _ _) p⟩
@[simp] def iR2 (da db : DE) : DI := fun δ Φ => da δ fun x => db δ fun y => ∃ i j, x = .int i ∧ y = .int j ∧ (-(2 ^ 62) ≤ i ∧ i < 2 ^ 62 ∧ -(2 ^ 62) ≤ j ∧ j < 2 ^ 62) ∧ Φ (rng i (j - i).toNat)
theorem smi_rng2 (ha : Sm C f1 ta da) (hb : Sm C f2 tb db) : SmI C (iRng2 (tCons ta (tCons tb tNil))) (iR2 da db) := fun σ δ H0 H Φ R s w q =>
  ha σ δ H0 H _ _ s w fun H01 H1 v x g1 r1 w1 => hb σ δ H01 H1 _ _ (s.go g1) w1 fun H02 H2 u y g2 r2 ⟨i, j, e1, e2, h, p⟩ => by
    subst e1 e2
    cases r1
    cases r2
    exact ⟨i, j, rfl, h, q _ _ _ _ (g1.trans g2) (wk_rng _ _) p⟩
@[simp] def iRv (da : DE) : DI := fun δ Φ => da δ fun x => ∃ xs, x = .list xs ∧ Φ xs.reverse
theorem smi_rev (ha : Sm C true ta da) : SmI C (iRev C.K (tCons ta tNil)) (iRv da) := fun σ δ H0 H Φ R s w q =>
  ha σ δ H0 H _ _ s w fun H01 H1 v x g1 r1 ⟨xs, e, p⟩ => by
    subst e
    cases r1 with
    | @lst a us _ h r =>
      refine ⟨a, us, rfl, SqL.of (g1.wf.sub _ _ h), q _ _ _ _ g1 ⟨fun H0' H' i e w hi0 => have hi := Nat.le_of_eq hi0; ?_, fun H0' H' i e w hi => ?_, fun H0' H' i v H'' e w hi y => ?_⟩ p⟩
      · rw [List.length_reverse] at hi
        show us.length ≤ i
        rw [r.length]; exact hi
      · rw [List.length_reverse] at hi
        obtain ⟨y, hy⟩ := get_lt (show us.length - 1 - i < us.length by rw [r.length]; omega)
        exact ⟨by rw [r.length]; exact hi, us, y, SqL.of (w.sub _ _ (e _ _ h)), hy⟩
      · rw [List.length_reverse] at hi
        obtain ⟨rfl, y⟩ := y
        have y := y us (SqL.of (w.sub _ _ (e _ _ h)))
        obtain ⟨z, hz, rz⟩ := r.get' y
        refine ⟨H0', z, .refl w, ?_, rz.mono e⟩
        rw [List.getElem?_reverse hi, ← r.length]
        exact hz
/-- pairs (number, item) -/
def enumD (xs : List PyData) : List PyData := (List.range xs.length).zipWith (fun (i : Nat) (x : PyData) => PyData.tuple [.int (i : Int), x]) xs
theorem enumD_len (xs : List PyData) : (enumD xs).length = xs.length := by simp [enumD]
theorem enumD_get {xs : List PyData} {i : Nat} {x : PyData} (h : xs[i]? = some x) : (enumD xs)[i]? = some (.tuple [.int (i : Int), x]) := by
  have hi := (List.getElem?_eq_some_iff.mp h).1
  unfold enumD
  rw [List.getElem?_zipWith, List.getElem?_range hi, h]
@[simp] def iEn (da : DE) : DI := fun δ Φ => da δ fun x => ∃ xs, x = .list xs ∧ Φ (enumD xs)
theorem tup_new {p : Addr} {us : List V} {ys : List PyData} (w : Wf C H0 H) (hp : H p = none) (r : RpA C.K H0 us ys) : ∃ H0', Go C H0 H H0' (upd H p (.tup us)) ∧ Rp C.K H0' (.ref p) (.tuple ys) :=
  ⟨_, Go.new w hp, .tup (SqT.of upd_same) (r.mono (Go.same_new (w.none hp)))⟩
theorem smi_enum (ha : Sm C true ta da) : SmI C (iEnum C.K (tCons ta tNil)) (iEn da) := fun σ δ H0 H Φ R s w q =>
  ha σ δ H0 H _ _ s w fun H01 H1 v x g1 r1 ⟨xs, e, p⟩ => by
    subst e
    cases r1 with
    | @lst a us _ h r =>
      refine ⟨a, us, rfl, SqL.of (g1.wf.sub _ _ h), q _ _ _ _ g1 ⟨fun H0' H' i e w hi0 => have hi := Nat.le_of_eq hi0; ?_, fun H0' H' i e w hi => ?_, fun H0' H' i v H'' e w hi y => ?_⟩ p⟩
      · rw [enumD_len] at hi
        exact ⟨us, SqL.of (w.sub _ _ (e _ _ h)), by rw [r.length]; exact hi⟩
      · rw [enumD_len] at hi
        obtain ⟨y, hy⟩ := get_lt hi
        obtain ⟨v, h1, h2⟩ := r.get hy
        exact ⟨us, v, SqL.of (w.sub _ _ (e _ _ h)), h1⟩
      · rw [enumD_len] at hi
        obtain ⟨T, z, rfl, hT, rfl, y⟩ := y
        have y := y us (SqL.of (w.sub _ _ (e _ _ h)))
        obtain ⟨d, hd, rd⟩ := r.get' y
        obtain ⟨H0'', g, r2⟩ := tup_new w hT (.cons (.int (i : Int)) (.cons (rd.mono e) .nil))
        exact ⟨H0'', _, g, enumD_get hd, r2⟩
def zipD (xs ys : List PyData) : List PyData := xs.zipWith (fun x y => .tuple [x, y]) ys
@[simp] def iZp (da db : DE) : DI := fun δ Φ => da δ fun x => db δ fun y => ∃ xs ys, x = .list xs ∧ y = .list ys ∧ Φ (zipD xs ys)
theorem smi_zip (ha : Sm C true ta da) (hb : Sm C true tb db) : SmI C (iZip C.K (tCons ta (tCons tb tNil))) (iZp da db) := fun σ δ H0 H Φ R s w q =>
  ha σ δ H0 H _ _ s w fun H01 H1 v x g1 r1 w1 => hb σ δ H01 H1 _ _ (s.go g1) w1 fun H02 H2 u y g2 r2 ⟨xs, ys, e1, e2, p⟩ => by
    subst e1 e2
    have r3 := r1.mono g2.fz
    cases r3 with
    | @lst a us _ h r =>
      cases r2 with
      | @lst b ws _ h' r' =>
        refine ⟨a, b, us, ws, rfl, SqL.of (g2.wf.sub _ _ h), SqL.of (g2.wf.sub _ _ h'), q _ _ _ _ (g1.trans g2) ⟨fun H0' H' i e w hi0 => have hi := Nat.le_of_eq hi0; ?_, fun H0' H' i e w hi => ?_, fun H0' H' i v H'' e w hi y => ?_⟩ p⟩
        · unfold zipD at hi
          rw [List.length_zipWith] at hi
          refine ⟨us, ws, SqL.of (w.sub _ _ (e _ _ h)), SqL.of (w.sub _ _ (e _ _ h')), ?_⟩
          rw [r.length, r'.length]
          omega
        · unfold zipD at hi
          rw [List.length_zipWith] at hi
          obtain ⟨y1, hy1⟩ := get_lt (show i < xs.length by omega)
          obtain ⟨v1, h1, _⟩ := r.get hy1
          obtain ⟨y2, hy2⟩ := get_lt (show i < ys.length by omega)
          obtain ⟨v2, h2, _⟩ := r'.get hy2
          exact ⟨us, ws, v1, v2, SqL.of (w.sub _ _ (e _ _ h)), SqL.of (w.sub _ _ (e _ _ h')), h1, h2⟩
        · obtain ⟨T, x1, x2, rfl, hT, rfl, y1, y2⟩ := y
          have y1 := y1 us (SqL.of (w.sub _ _ (e _ _ h)))
          have y2 := y2 ws (SqL.of (w.sub _ _ (e _ _ h')))
          obtain ⟨d1, hd1, rd1⟩ := r.get' y1
          obtain ⟨d2, hd2, rd2⟩ := r'.get' y2
          obtain ⟨H0'', g, r2⟩ := tup_new w hT (.cons (rd1.mono e) (.cons (Rp.mono e rd2) .nil))
          refine ⟨H0'', _, g, ?_, r2⟩
          unfold zipD
          rw [List.getElem?_zipWith, hd1, hd2]
/-- the signs of a text -/
def signsD (s : Str) : List PyData := s.cps.toList.map fun c => .str ⟨#[c]⟩
@[simp] def iS (da : DE) : DI := fun δ Φ => da δ fun x => ∃ s, x = .str s ∧ Φ (signsD s)
theorem smi_str (ha : Sm C f1 ta da) : SmI C (iStr ta) (iS da) := fun σ δ H0 H Φ R s w q =>
  ha σ δ H0 H _ _ s w fun H01 H1 v x g1 r1 ⟨z, e, p⟩ => by
    subst e
    cases r1
    refine ⟨z, rfl, q _ _ _ _ g1 ⟨fun H0' H' i e w hi0 => have hi := Nat.le_of_eq hi0; ?_, fun H0' H' i e w hi => ?_, fun H0' H' i v H'' e w hi y => ?_⟩ p⟩
    · show z.cps.size ≤ i
      simpa [signsD] using hi
    · show i < z.cps.size
      simpa [signsD] using hi
    · obtain ⟨rfl, c, hc, rfl⟩ := y
      refine ⟨H0', _, .refl w, ?_, .str _⟩
      unfold signsD
      rw [List.getElem?_map, Array.getElem?_toList, hc]
      rfl
end

/-! ### statements -/
structure DEnds where
  nx : Dl → Prop
  rt : RX → Prop
  bk : Dl → Prop := fun _ => False
  ct : Dl → Prop := fun _ => False
abbrev DS := DEnds → Dl → Prop
structure EndS (C : Ctx) (H0 : Hp) (E : DEnds) (D : Ends) : Prop where
  nx : ∀ (H0' H' : Hp) (σ : L2.St) (δ : Dl), Same H0 H0' → St C H0' H' σ δ → E.nx δ → D.nx σ H'
  rt : ∀ (H0' H' : Hp) (v : V) (r : RX), Same H0 H0' → Wf C H0' H' → RXR C H0' H' v r → E.rt r → D.rt v H'
  bk : ∀ (H0' H' : Hp) (σ : L2.St) (δ : Dl), Same H0 H0' → St C H0' H' σ δ → E.bk δ → D.bk σ H'
  ct : ∀ (H0' H' : Hp) (σ : L2.St) (δ : Dl), Same H0 H0' → St C H0' H' σ δ → E.ct δ → D.ct σ H'
def SmS (C : Ctx) (ts : TS) (ds : DS) : Prop := ∀ (σ : L2.St) (δ : Dl) (H0 H : Hp) (E : DEnds) (D : Ends), St C H0 H σ δ → ds E δ → EndS C H0 E D → ts D σ H
abbrev DG := PyData → Dl → (Dl → Prop) → Prop
abbrev DGs := List PyData → Dl → (Dl → Prop) → Prop
def SmG (C : Ctx) (tg : TG) (dg : DG) : Prop := ∀ (v : V) (x : PyData) (σ : L2.St) (δ : Dl) (H0 H : Hp) (Ψ : Dl → Prop) (Q : L2.St → Hp → Prop), St C H0 H σ δ → Rp C.K H0 v x → dg x δ Ψ →
  (∀ σ' δ', St C H0 H σ' δ' → Ψ δ' → Q σ' H) → tg v σ H Q
def SmGs (C : Ctx) (tg : TGs) (dg : DGs) : Prop := ∀ (vs : List V) (xs : List PyData) (σ : L2.St) (δ : Dl) (H0 H : Hp) (Ψ : Dl → Prop) (Q : L2.St → Hp → Prop), St C H0 H σ δ → RpA C.K H0 vs xs → dg xs δ Ψ →
  (∀ σ' δ', St C H0 H σ' δ' → Ψ δ' → Q σ' H) → tg vs σ H Q
section
variable {C : Ctx} {H0 H H0' H' H0'' H'' : Hp} {σ : L2.St} {δ : Dl} {v : V} {x : PyData} {f : Bool}
variable {te ta tb tc : TE} {de da db dc : DE} {tt tu : TT} {dt du : DT} {tas : TA} {das : DA} {f1 f2 : Bool} {ts tv : TS} {ds dv : DS} {E : DEnds} {D : Ends} {o : DO} {g : TG} {dg : DG} {gs : TGs} {dgs : DGs} {ti : TI} {di : DI}
theorem EndS.mono (h : EndS C H0 E D) (e : Same H0 H0') : EndS C H0' E D :=
  ⟨fun a b c d q => h.nx a b c d (e.trans q), fun a b c d q => h.rt a b c d (e.trans q), fun a b c d q => h.bk a b c d (e.trans q), fun a b c d q => h.ct a b c d (e.trans q)⟩
@[simp] def dgName (i : Nat) : DG := fun x δ Ψ => Ψ (δ.set i (some (.d x)))
theorem smg_name (i : Nat) : SmG C (gName i) (dgName i) := fun v x σ δ H0 H Ψ Q s r w q => q _ _ (s.set_d i r) w
@[simp] def dgNil : DGs := fun xs δ Ψ => xs = [] ∧ Ψ δ
@[simp] def dgCons (dg : DG) (dgs : DGs) : DGs := fun xs δ Ψ => ∃ y ys, xs = y :: ys ∧ dg y δ fun δ' => dgs ys δ' Ψ
theorem smg_nil : SmGs C gNil dgNil := fun vs xs σ δ H0 H Ψ Q s r ⟨e, w⟩ q => by
  subst e
  cases r
  exact ⟨rfl, q _ _ s w⟩
theorem smg_cons (h1 : SmG C g dg) (h2 : SmGs C gs dgs) : SmGs C (gCons g gs) (dgCons dg dgs) := fun vs xs σ δ H0 H Ψ Q s r ⟨y, ys, e, w⟩ q => by
  subst e
  cases r with
  | cons ra rb => exact ⟨_, _, rfl, h1 _ _ σ δ H0 H _ _ s ra w fun σ' δ' s' w' => h2 _ _ σ' δ' H0 H _ _ s' rb w' q⟩
@[simp] def dgTup (n : Nat) (dgs : DGs) : DG := fun x δ Ψ => ∃ xs, x = .tuple xs ∧ xs.length = n ∧ dgs xs δ Ψ
theorem smg_tup {n : Nat} (h : SmGs C gs dgs) : SmG C (gTup C.K n gs) (dgTup n dgs) := fun v x σ δ H0 H Ψ Q s r ⟨xs, e, hn, w⟩ q => by
  subst e
  cases r with
  | @tup a us _ hs r => exact ⟨a, us, rfl, same_t s.toWf.sub hs, by rw [r.length]; exact hn, h _ _ σ δ H0 H _ _ s r w q⟩
@[simp] def dSeq (d1 d2 : DS) : DS := fun E δ => d1 { E with nx := d2 E } δ
theorem sms_seq (h1 : SmS C ts ds) (h2 : SmS C tv dv) : SmS C (tSeq ts tv) (dSeq ds dv) := fun σ δ H0 H E D s w e =>
  h1 σ δ H0 H _ _ s w ⟨fun H0' H' σ' δ' q s' w' => h2 σ' δ' H0' H' E D s' w' (e.mono q), e.rt, e.bk, e.ct⟩
@[simp] def dNext : DS := fun E δ => E.nx δ
theorem sms_next : SmS C tNext dNext := fun σ δ H0 H E D s w e => e.nx H0 H σ δ (Same.refl _) s w
@[simp] def dRet (de : DE) : DS := fun E δ => de δ fun x => E.rt (.d x)
theorem sms_ret (h : Sm C true te de) : SmS C (tRet te) (dRet de) := fun σ δ H0 H E D s w e =>
  h σ δ H0 H _ _ s w fun H0' H' v x g r p => e.rt H0' H' v (.d x) g.fz g.wf r p
@[simp] def dRetO (i : Nat) : DS := fun E δ => ∃ a xs, δ[i]? = some (some (.own a xs)) ∧ E.rt (.own xs)
theorem sms_retO (i : Nat) : SmS C (tRet (tVar i)) (dRetO i) := fun σ δ H0 H E D s ⟨a, xs, h, w⟩ e => by
  obtain ⟨v, e1, rfl, h1, h2, h3, vs, h4, h5⟩ := s.sl i _ h
  exact ⟨_, e1, e.rt H0 H _ (.own xs) (Same.refl _) s.toWf ⟨a, vs, rfl, h1, h2, h3, h4, h5⟩ w⟩
@[simp] def dRetNew (o : DO) : DS := fun E δ => o δ fun xs => E.rt (.own xs)
theorem sms_retNew (h : SmO C te o) : SmS C (tRet te) (dRetNew o) := fun σ δ H0 H E D s w e =>
  h σ δ H0 H _ _ s w fun H0' H' a vs xs g h1 h2 h3 r p => e.rt H0' H' _ (.own xs) g.fz g.wf ⟨a, vs, rfl, h2, (Go.he s.toWf h1).1, (Go.he s.toWf h1).2, h3, r⟩ p
@[simp] def dRetN : DS := fun E δ => E.rt (.d .none)
theorem sms_retN : SmS C tRetN dRetN := fun σ δ H0 H E D s w e => e.rt H0 H _ (.d .none) (Same.refl _) s.toWf .non w
@[simp] def dAsg (de : DE) (dg : DG) : DS := fun E δ => de δ fun x => dg x δ E.nx
theorem sms_asg (h : Sm C true te de) (hg : SmG C g dg) : SmS C (tAsg te g) (dAsg de dg) := fun σ δ H0 H E D s w e =>
  h σ δ H0 H _ _ s w fun H0' H' v x g1 r p => hg v x σ δ H0' H' _ _ (s.go g1) r p fun σ' δ' s' w' => e.nx H0' H' σ' δ' g1.fz s' w'
@[simp] def dSetO (i : Nat) (o : DO) : DS := fun E δ => o δ fun xs => ∀ a, E.nx (δ.set i (some (.own a xs)))
theorem sms_setO (i : Nat) (h : SmO C te o) : SmS C (tAsg te (gName i)) (dSetO i o) := fun σ δ H0 H E D s w e =>
  h σ δ H0 H _ _ s w fun H0' H' a vs xs g1 h1 h2 h3 r p => by
    refine e.nx H0' H' _ _ g1.fz ((s.go g1).set_own i (fun j b ys hj hb z => ?_) h2 (Go.he s.toWf h1).1 (Go.he s.toWf h1).2 h3 r) (p a)
    subst z
    obtain ⟨v, _, hv⟩ := s.sl j _ hj
    obtain ⟨o, k⟩ := hv.live hb
    rw [h1] at k; cases k
@[simp] def dIfS (dt : DT) (d1 d2 : DS) : DS := fun E δ => dt δ fun b => if b = true then d1 E δ else d2 E δ
theorem sms_if (ht : SmT C tt dt) (h1 : SmS C ts ds) (h2 : SmS C tv dv) : SmS C (tIfS tt ts tv) (dIfS dt ds dv) := fun σ δ H0 H E D s w e =>
  ht σ δ H0 H _ _ s w fun H01 H1 b g1 w1 => by
    cases b with
    | true => exact iteT (h1 σ δ H01 H1 E D (s.go g1) (by simpa using w1) (e.mono g1.fz))
    | false => exact iteF (h2 σ δ H01 H1 E D (s.go g1) (by simpa using w1) (e.mono g1.fz))
@[simp] def dDrop (de : DE) : DS := fun E δ => de δ fun _ => E.nx δ
theorem sms_drop (h : Sm C f1 te de) : SmS C (tDrop te) (dDrop de) := fun σ δ H0 H E D s w e =>
  h σ δ H0 H _ _ s w fun H0' H' v x g1 r p => e.nx H0' H' σ δ g1.fz (s.go g1) p
/-- xs.append(e), xs an owned list -/
@[simp] def dApp (i : Nat) (de : DE) : DS := fun E δ => ∃ a xs, δ[i]? = some (some (.own a xs)) ∧ de δ fun x => xs.length < sizeLine ∧ E.nx (δ.set i (some (.own a (xs ++ [x]))))
theorem sms_app (i : Nat) (h : Sm C true te de) : SmS C (tDrop (tBM C.K "list" rAppend (tVar i) (tCons te tNil))) (dApp i de) := fun σ δ H0 H E D s ⟨a0, xs0, e0, w⟩ e => by
  obtain ⟨v, e1, rfl, h1, h2, h3, vs, h4, h5⟩ := s.sl i _ e0
  refine ⟨_, e1, .inl ⟨rfl, vs, SqL.of h4⟩, h σ δ H0 H _ _ s w fun H0' H' y x g1 r ⟨hl, p⟩ => ?_⟩
  have s1 := s.go g1
  obtain ⟨v', f1, f2, f3, f4, f5, us, f6, f7⟩ := s1.sl i _ e0
  refine ⟨a0, us, y, rfl, rfl, f6, by rw [f7.length]; exact hl, e.nx H0' _ σ _ g1.fz (s1.write i e0 (f7.snoc r)) p⟩
@[simp] def dAug (i : Nat) (de : DE) (f : Int → Int → Int) : DS := fun E δ => ∃ a, δ[i]? = some (some (.d (.int a))) ∧ de δ fun y => ∃ b, y = .int b ∧ E.nx (δ.set i (some (.d (.int (f a b)))))
theorem sms_aug (i : Nat) {fn : Int → Int → Int} (h : Sm C f1 te de) : SmS C (tAug i te (ipI fn)) (dAug i de fn) := fun σ δ H0 H E D s ⟨a0, e0, w⟩ e => by
  obtain ⟨v, e1, r0⟩ := s.sl i _ e0
  cases r0
  refine ⟨_, e1, h σ δ H0 H _ _ s w fun H0' H' y x g1 r ⟨b, e3, p⟩ => ?_⟩
  subst e3
  cases r
  exact ⟨a0, b, rfl, rfl, e.nx _ _ _ _ g1.fz ((s.go g1).set_d i (.int _)) p⟩
/-- xs[k] = e, xs an owned list -/
@[simp] def dSetI (i : Nat) (de dk : DE) : DS := fun E δ => de δ fun x => ∃ a xs, δ[i]? = some (some (.own a xs)) ∧ dk δ fun y => ∃ k j, y = .int k ∧ ixN xs.length k = some j ∧ E.nx (δ.set i (some (.own a (xs.set j x))))
theorem sms_setI (i : Nat) (h : Sm C true te de) (hk : Sm C f2 tb db) : SmS C (tAsg te (gSub (tVar i) tb rSetL)) (dSetI i de db) := fun σ δ H0 H E D s w e =>
  h σ δ H0 H _ _ s w fun H01 H1 v x g1 r ⟨a, xs, e0, w1⟩ => by
    have s1 := s.go g1
    obtain ⟨v', e1, f2, f3, f4, f5, us, f6, f7⟩ := s1.sl i _ e0
    refine ⟨v', e1, hk σ δ H01 H1 _ _ s1 w1 fun H02 H2 u y g2 r2 ⟨k, j, e3, e4, p⟩ => ?_⟩
    subst e3 f2
    cases r2
    have s2 := s1.go g2
    obtain ⟨v', e1, f2, f3, f4, f5, us, f6, f7⟩ := s2.sl i _ e0
    exact ⟨a, us, k, j, rfl, rfl, f6, by rw [f7.length]; exact e4, e.nx H02 _ σ _ (g1.fz.trans g2.fz) (s2.write i e0 (f7.set (Rp.mono g2.fz r) j)) p⟩
/-- the slot's list stands still from here on -/
@[simp] def dFrz (i : Nat) (d : DS) : DS := fun E δ => ∃ a xs, δ[i]? = some (some (.own a xs)) ∧ d E (δ.set i (some (.d (.list xs))))
theorem sms_frz (i : Nat) (h : SmS C ts ds) : SmS C ts (dFrz i ds) := fun σ δ H0 H E D s ⟨a, xs, h1, w⟩ e => by
  obtain ⟨H0', g, s'⟩ := s.freeze i h1
  exact h σ _ H0' H E D s' w (e.mono g)
@[simp] def dBreak : DS := fun E δ => E.bk δ
theorem sms_break : SmS C tBreak dBreak := fun σ δ H0 H E D s w e => e.bk H0 H σ δ (Same.refl _) s w
@[simp] def dCont : DS := fun E δ => E.ct δ
theorem sms_cont : SmS C tCont dCont := fun σ δ H0 H E D s w e => e.ct H0 H σ δ (Same.refl _) s w
/-- for .. in ..: -/
def dFor (di : DI) (dg : DG) (db : DS) : DS := fun E δ => di δ fun xs => ∃ I : Nat → Dl → Prop, I 0 δ ∧
  (∀ i y δ', xs[i]? = some y → I i δ' → dg y δ' fun δ'' => db { E with nx := I (i + 1), ct := I (i + 1), bk := E.nx } δ'') ∧ ∀ δ', I xs.length δ' → E.nx δ'
theorem sms_for (hi : SmI C ti di) (hg : SmG C g dg) (hb : SmS C ts ds) : SmS C (tFor ti g ts) (dFor di dg ds) := fun σ δ H0 H E D s w e =>
  hi σ δ H0 H _ _ s w fun H01 H1 J xs g1 wk ⟨I, i0, it, ie⟩ => by
    refine ⟨fun i m σ H => m = xs.length - i ∧ i ≤ xs.length ∧ ∃ H0' δ', Same H01 H0' ∧ St C H0' H σ δ' ∧ I i δ', ⟨_, rfl, Nat.zero_le _, H01, δ, Same.refl _, s.go g1, i0⟩, ?_⟩
    rintro i m σ' H' ⟨rfl, hi, H0', δ', gr, s', p⟩
    by_cases hl : i < xs.length
    · refine .inr ⟨wk.go H0' H' i gr s'.toWf hl, fun σ2 H2 => ∃ H0'' δ'', Same H01 H0'' ∧ St C H0'' H2 σ2 δ'' ∧ I (i + 1) δ'', fun σ2 H2 ⟨H02, δ2, h1, h2, h3⟩ => ⟨_, by omega, rfl, hl, H02, δ2, h1, h2, h3⟩, fun v H'' y => ?_⟩
      obtain ⟨H02, z, g2, hz, rz⟩ := wk.yld H0' H' i v H'' gr s'.toWf hl y
      refine hg v z σ' δ' H02 H'' _ _ (s'.go g2) rz (it i z δ' hz p) fun σ2 δ2 s2 w2 => ?_
      refine hb σ2 δ2 H02 H'' _ _ s2 w2 ⟨fun H03 H3 σ3 δ3 e3 s3 p3 => ⟨H03, δ3, (gr.trans g2.fz).trans e3, s3, p3⟩, fun H03 H3 v3 r3 e3 w3 x3 p3 => e.rt H03 H3 v3 r3 (((g1.fz.trans gr).trans g2.fz).trans e3) w3 x3 p3,
        fun H03 H3 σ3 δ3 e3 s3 p3 => e.nx H03 H3 σ3 δ3 (((g1.fz.trans gr).trans g2.fz).trans e3) s3 p3, fun H03 H3 σ3 δ3 e3 s3 p3 => ⟨H03, δ3, (gr.trans g2.fz).trans e3, s3, p3⟩⟩
    · have hl' : i = xs.length := by omega
      exact .inl ⟨wk.stop H0' H' i gr s'.toWf (by omega), e.nx H0' H' σ' δ' (g1.fz.trans gr) s' (ie δ' (hl' ▸ p))⟩
/-- for .. in an owned list, which the turns leave -/
def dForO (j : Nat) (dg : DG) (db : DS) : DS := fun E δ => ∃ a xs, δ[j]? = some (some (.own a xs)) ∧ ∃ I : Nat → Dl → Prop, I 0 δ ∧
  (∀ i y δ', xs[i]? = some y → I i δ' → δ'[j]? = some (some (.own a xs)) ∧ dg y δ' fun δ'' => db { E with nx := I (i + 1), ct := I (i + 1), bk := E.nx } δ'') ∧ ∀ δ', I xs.length δ' → δ'[j]? = some (some (.own a xs)) ∧ E.nx δ'
theorem sms_forO (j : Nat) (hg : SmG C g dg) (hb : SmS C ts ds) : SmS C (tFor (iList C.K (tVar j)) g ts) (dForO j dg ds) := fun σ δ H0 H E D s ⟨a, xs, e0, I, i0, it, ie⟩ e => by
  obtain ⟨v, e1, rfl, h1, h2, h3, us, h4, h5⟩ := s.sl j _ e0
  refine ⟨_, e1, a, rfl, ⟨us, SqL.of h4⟩, fun i m σ H => m = xs.length - i ∧ i ≤ xs.length ∧ ∃ H0' δ', Same H0 H0' ∧ St C H0' H σ δ' ∧ I i δ', ⟨_, rfl, Nat.zero_le _, H0, δ, Same.refl _, s, i0⟩, ?_⟩
  rintro i m σ' H' ⟨rfl, hi, H0', δ', gr, s', p⟩
  by_cases hl : i < xs.length
  · obtain ⟨y, hy⟩ := get_lt hl
    obtain ⟨k1, k2⟩ := it i y δ' hy p
    obtain ⟨v', e1', e2', f1, f2, f3, ws, f4, f5⟩ := s'.sl j _ k1
    obtain ⟨u, hu, ru⟩ := f5.get hy
    refine .inr ⟨⟨ws, u, SqL.of f4, hu⟩, fun σ2 H2 => ∃ H0'' δ'', Same H0 H0'' ∧ St C H0'' H2 σ2 δ'' ∧ I (i + 1) δ'', fun σ2 H2 ⟨H02, δ2, h1, h2, h3⟩ => ⟨_, by omega, rfl, hl, H02, δ2, h1, h2, h3⟩, fun v H'' y' => ?_⟩
    obtain ⟨rfl, y'⟩ := y'
    have y' := y' ws (SqL.of f4)
    rw [hu] at y'
    cases y'
    refine hg u y σ' δ' H0' H'' _ _ s' ru k2 fun σ2 δ2 s2 w2 => ?_
    refine hb σ2 δ2 H0' H'' _ _ s2 w2 ⟨fun H03 H3 σ3 δ3 e3 s3 p3 => ⟨H03, δ3, gr.trans e3, s3, p3⟩, fun H03 H3 v3 r3 e3 w3 x3 p3 => e.rt H03 H3 v3 r3 (gr.trans e3) w3 x3 p3,
      fun H03 H3 σ3 δ3 e3 s3 p3 => e.nx H03 H3 σ3 δ3 (gr.trans e3) s3 p3, fun H03 H3 σ3 δ3 e3 s3 p3 => ⟨H03, δ3, gr.trans e3, s3, p3⟩⟩
  · have hl' : i = xs.length := by omega
    obtain ⟨k1, k2⟩ := ie δ' (hl' ▸ p)
    obtain ⟨v', e1', e2', f1, f2, f3, ws, f4, f5⟩ := s'.sl j _ k1
    exact .inl ⟨⟨ws, SqL.of f4, by rw [f5.length]; omega⟩, e.nx H0' H' σ' δ' gr s' k2⟩
def dWhile (dt : DT) (db : DS) : DS := fun E δ => ∃ I : Nat → Dl → Prop, (∃ m, I m δ) ∧ ∀ m δ', I m δ' → dt δ' fun b => if b = true then db { E with nx := fun δ'' => ∃ m', m' < m ∧ I m' δ'', ct := fun δ'' => ∃ m', m' < m ∧ I m' δ'', bk := E.nx } δ' else E.nx δ'
theorem sms_while (ht : SmT C tt dt) (hb : SmS C ts ds) : SmS C (tWhile tt ts) (dWhile dt ds) := fun σ δ H0 H E D s ⟨I, ⟨m0, i0⟩, it⟩ e => by
  refine ⟨fun m σ' H' => ∃ H0' δ', Same H0 H0' ∧ St C H0' H' σ' δ' ∧ I m δ', ⟨m0, H0, δ, Same.refl _, s, i0⟩, ?_⟩
  rintro m σ' H' ⟨H0', δ', gr, s', p⟩
  refine ht σ' δ' H0' H' _ _ s' (it m δ' p) fun H01 H1 b g1 w1 => ?_
  cases b with
  | true =>
    refine iteT ⟨fun σ2 H2 => ∃ m', m' < m ∧ ∃ H0'' δ'', Same H0 H0'' ∧ St C H0'' H2 σ2 δ'' ∧ I m' δ'', fun σ2 H2 h => h, ?_⟩
    refine hb σ' δ' H01 H1 { E with nx := fun δ'' => ∃ m', m' < m ∧ I m' δ'', ct := fun δ'' => ∃ m', m' < m ∧ I m' δ'', bk := E.nx } _ (s'.go g1) (by simpa using w1) ⟨fun H03 H3 σ3 δ3 e3 s3 ⟨m', hm, p3⟩ => ⟨m', hm, H03, δ3, (gr.trans g1.fz).trans e3, s3, p3⟩, fun H03 H3 v3 r3 e3 w3 x3 p3 => e.rt H03 H3 v3 r3 ((gr.trans g1.fz).trans e3) w3 x3 p3,
      fun H03 H3 σ3 δ3 e3 s3 p3 => e.nx H03 H3 σ3 δ3 ((gr.trans g1.fz).trans e3) s3 p3, fun H03 H3 σ3 δ3 e3 s3 ⟨m', hm, p3⟩ => ⟨m', hm, H03, δ3, (gr.trans g1.fz).trans e3, s3, p3⟩⟩
  | false => exact iteF (e.nx H01 H1 σ' δ' (gr.trans g1.fz) (s'.go g1) (by simpa using w1))

/-! ### comprehensions -/
@[simp] def dYes : DT := fun _ Φ => Φ true
theorem smt_yes : SmT C tYes dYes := fun σ δ H0 H Φ Q s w q => q H0 H true (.refl s.toWf) w
def oLc (di : DI) (i : Nat) (dt : DT) (de : DE) : DO := fun δ Φ => di δ fun xs => ∃ I : Nat → List PyData → Prop, I 0 [] ∧
  (∀ k y acc, xs[k]? = some y → I k acc → dt (δ.set i (some (.d y))) fun b => if b = true then de (δ.set i (some (.d y))) fun z => acc.length < sizeLine ∧ I (k + 1) (acc ++ [z]) else I (k + 1) acc) ∧ ∀ acc, I xs.length acc → Φ acc
theorem smo_lc {i : Nat} (hi : SmI C ti di) (ht : SmT C tt dt) (he : Sm C true te de) : SmO C (tLc ti (gName i) tt te [i]) (oLc di i dt de) := fun σ δ H0 H Φ Q s w q =>
  hi σ δ H0 H _ _ s w fun H01 H1 J xs g1 wk ⟨I, i0, it, ie⟩ D hD => by
    have hD0 : H D = none := g1.fresh hD
    refine ⟨fun k m H' => m = xs.length - k ∧ k ≤ xs.length ∧ ∃ H0' us acc, Go C H01 H1 H0' H' ∧ H0' D = none ∧ H' D = some (.lst us) ∧ RpA C.K H0' us acc ∧ I k acc, ⟨_, rfl, Nat.zero_le _, H01, [], [], Go.free g1.wf hD, g1.wf.none hD, upd_same, .nil, i0⟩, ?_⟩
    rintro k m H' ⟨rfl, hk, H0', us, acc, g2, hn, hl, r, p⟩
    have nex : C.ex ≠ some D := (Go.he g1.wf hD).2
    by_cases hlt : k < xs.length
    · refine .inr ⟨wk.go H0' H' k g2.fz g2.wf hlt, fun H3 => ∃ H0' us acc, Go C H01 H1 H0' H3 ∧ H0' D = none ∧ H3 D = some (.lst us) ∧ RpA C.K H0' us acc ∧ I (k + 1) acc, fun H3 h => ⟨_, by omega, rfl, hlt, h⟩, fun v H'' y => ?_⟩
      obtain ⟨H02, z, g3, hz, rz⟩ := wk.yld H0' H' k v H'' g2.fz g2.wf hlt y
      have g23 := g2.trans g3
      have keep : ∀ {A B : Hp}, Go C H02 H'' A B → A D = none ∧ B D = some (.lst us) := fun {A B} gg => by
        have h1 : B D = some (.lst us) := gg.kp D _ nex (g3.kp D _ nex hl)
        refine ⟨?_, h1⟩
        cases e : A D with
        | none => rfl
        | some u =>
          rcases (g3.trans gg).nw D u e with h2 | h2
          · rw [hn] at h2; cases h2
          · rw [hl] at h2; cases h2
      show wipe ((wipe σ [i]).set i (some v)) [i] = wipe σ [i] ∧ _
      refine ⟨by simp [wipe], ?_⟩
      have s2 : St C H02 H'' ((wipe σ [i]).set i (some v)) (δ.set i (some (.d z))) := by
        have := ((s.go ((g1.trans g2).trans g3)).none i).set_d i rz
        rw [List.set_set] at this
        rw [List.set_set] at this
        show St C H02 H'' ((σ.set i none).set i (some v)) (δ.set i (some (.d z)))
        rw [List.set_set]
        exact this
      refine ht _ _ H02 H'' _ _ s2 (it k z acc hz p) fun H04 H4 b g4 w4 => ?_
      cases b with
      | false => exact iteF ⟨H04, us, acc, g23.trans g4, (keep g4).1, (keep g4).2, r.mono (g3.fz.trans g4.fz), by simpa using w4⟩
      | true =>
        refine iteT (he _ _ H04 H4 (fun z => acc.length < sizeLine ∧ I (k + 1) (acc ++ [z])) _ (s2.go g4) (by simpa using w4) fun H05 H5 y' z' g5 r5 ⟨w5, p5⟩ => ?_)
        have k5 := keep (g4.trans g5)
        refine ⟨us, k5.2, by rw [r.length]; exact w5, H05, us ++ [y'], acc ++ [z'], ?_, k5.1, upd_same, (r.mono (g3.fz.trans (g4.fz.trans g5.fz))).snoc r5, p5⟩
        -- the list D is written: it is not frozen, and new since H1
        have gg := (g23.trans g4).trans g5
        refine ⟨⟨fun b u e => ?_, fun b u n e => ?_, gg.wf.fz, gg.wf.nw, fun c e => ?_⟩, gg.fz, fun b u n e => ?_, gg.nw⟩
        · rw [upd_ne (fun z => by rw [z, k5.1] at e; cases e)]; exact gg.wf.sub b u e
        · rw [upd_ne (fun z => by rw [z, (Go.he g1.wf hD).1] at e; cases e)]; exact gg.wf.kp b u n e
        · exact (gg.wf.dr c e).keep (Same.refl _) (gg.wf.dr c e).no (upd_ne (fun z => nex (by rw [← z]; exact e)))
        · rw [upd_ne (fun z => by rw [z, hD] at e; cases e)]; exact gg.kp b u n e
    · have hk' : k = xs.length := by omega
      refine .inl ⟨wk.stop H0' H' k g2.fz g2.wf (by omega), q H0' H' D us acc (g1.trans g2) hD0 hn hl r (ie acc (hk' ▸ p))⟩

/-! ### a def -/
@[simp] def startD (n : Nat) (rs : List R) : Dl := rs.map some ++ List.replicate (n - rs.length) none
theorem fn_ok {P : Program} {w : World} {K : PySem.W.Frag} {mg : Str → Option Value} {base : Heap} {x qual : Str} {st : Stmt} {fa : Addr} {fd : FuncData} {N ps : List Str} {k : Nat} {p : VSp}
    (F : Fun K x qual st fa fd) (S : FnScope N ps (defScope st))
    (hbody : ∀ (cdv : Value) (A : Around) (outer : List Env) (s : Shared) (H : Hp) (E : XK), Room k (A.deeper (PyProof.Rows.envOfC qual (defScope st) s.heap.objs.size fa cdv)) →
      ∃ t, PSs (cxOf CX0 P w K mg base N qual (defScope st) fa cdv A outer s H E).nox (defBody st) t ∧ ∃ d : DS, (∀ (ex : Option Addr) (He Hf : Hp), SmS ⟨K, ex, He, Hf⟩ t d) ∧ ∀ rs Φ, p rs Φ → d { nx := fun _ => Φ (.d .none), rt := Φ } (startD N.length rs)) : FnOk P w K mg base CX0 (k + 1) fa fd ps (toSp K ps.length p) := by
  refine F.ok S (fun vs H Q E h => h.1) (fun cdv A outer s H vs Q E hr h => ?_)
  obtain ⟨t, ht, d, hd, hp⟩ := hbody cdv A outer s H E hr
  obtain ⟨hl, ex, H0, rs, Φ, wf, ra, hsp, q⟩ := h
  refine ⟨t, ht, ?_⟩
  have hlen := ra.length
  refine hd ex H H0 _ (startD N.length rs) H0 H _ _ ⟨wf, ?_, fun i r e => ?_, fun i j a b xs ys n e1 e2 a1 a2 => ?_⟩ (hp rs Φ hsp) ⟨fun H0' H' σ δ g s' w' => ?_, fun H0' H' v r g w' xr p' => q H0' H' v r w' xr p', fun _ _ _ _ _ _ h => h.elim, fun _ _ _ _ _ _ h => h.elim⟩
  · simp [L2.start, startD, hlen]
  · unfold startD at e
    by_cases hi : i < rs.length
    · rw [List.getElem?_append_left (by simpa using hi), List.getElem?_map] at e
      cases e1 : rs[i]? with
      | none => rw [e1] at e; simp at e
      | some r' =>
        rw [e1] at e
        simp at e
        subst e
        obtain ⟨v, h1, h2⟩ := ra.get e1
        refine ⟨v, ?_, ?_⟩
        · unfold L2.start
          rw [List.getElem?_append_left (by rw [List.length_map, hlen]; exact hi), List.getElem?_map, h1]
          rfl
        · cases r' with
          | d x => exact h2
          | own a xs => exact h2.elim
          | drw => exact h2
          | raw u => exact h2
          | scr ns => exact h2
          | fn F => exact h2
          | dct a es => exact h2.elim
          | reg u m => exact h2.elim
    · rw [List.getElem?_append_right (by simpa using hi)] at e
      rw [List.getElem?_replicate] at e
      split at e <;> simp at e
  · exfalso
    have f : ∀ {i : Nat} {a : Addr} {r : R}, (startD N.length rs)[i]? = some (some r) → a ∈ r.adr → False := fun {i a r} e ea => by
      unfold startD at e
      by_cases hi : i < rs.length
      · rw [List.getElem?_append_left (by simpa using hi), List.getElem?_map] at e
        cases e1 : rs[i]? with
        | none => rw [e1] at e; simp at e
        | some r' =>
          rw [e1] at e
          simp at e
          subst e
          obtain ⟨v, h1, h2⟩ := ra.get e1
          cases r' with
          | own a xs => exact h2
          | dct a xs => exact h2
          | reg u m => exact h2
          | d x => cases ea
          | drw => cases ea
          | raw u => cases ea
          | scr ns => cases ea
          | fn F => cases ea
      · rw [List.getElem?_append_right (by simpa using hi)] at e
        rw [List.getElem?_replicate] at e
        split at e <;> simp at e
    exact f e1 a1
  · exact q H0' H' .non (.d .none) s'.toWf .non w'

/-! ### the row of numbers that a law draws from -/
/-- how many a draw may be of -/
def Tk (m : Int) : Prop := 0 < m ∧ m.natAbs < 2 ^ 8000
theorem tk_of {m : Int} (h : 0 < m) (h2 : m ≤ 1180591620717411303424) : Tk m := ⟨h, Nat.lt_of_lt_of_le (show m.natAbs < 2 ^ 71 by omega) (Nat.pow_le_pow_right (by decide) (by decide))⟩
@[simp] theorem tk_simp {m : Int} (h : 0 < m) (h2 : m ≤ 1180591620717411303424) : Tk m ↔ True := ⟨fun _ => trivial, fun _ => tk_of h h2⟩
/-- a number below many -/
@[simp] def spTake : VSp := fun rs Φ => ∃ many : Int, rs = [.drw, .d (.int many)] ∧ Tk many ∧ ∀ r : Int, 0 ≤ r → r < many → Φ (.d (.int r))
theorem spTake_len : ∀ rs Φ, spTake rs Φ → rs.length = 2 := fun rs Φ ⟨_, e, _⟩ => by rw [e]; rfl
/-- the row is made -/
def spDraw (K : PySem.W.Frag) : Sp := fun vs H Q _ => ∃ (a : Addr) (ns : List Int), vs = [.ref a] ∧ SqL K H a (ns.map V.int) ∧ ns.length ≤ 63 ∧
  ∀ H' p c (s : Int) (cells : List Int), Same H H' → H' p = some (.lst [.ref c, .int (-1), .int 0, .int s]) → H' c = some (.lst (cells.map V.int)) → c ≠ p → (∀ x ∈ cells, 0 ≤ x) → 0 ≤ s → s < 2147483647 → Q (.ref p) H'
def spLaw (K : PySem.W.Frag) : Sp := fun vs H Q _ => ∃ (a : Addr) (ns : List Int), vs = [.ref a] ∧ SqL K H a (ns.map V.int) ∧ ns.length ≤ 63 ∧ ∀ H', Q (.bl true) H'
/-- the draw's row is written -/
theorem Wf.draw {p c : Addr} {i v s : Int} (w : Wf C H0 H) (e : C.ex = some p) (h : H p = some (.lst [.ref c, .int i, .int v, .int s])) {i' v' s' : Int} (h1 : -1 ≤ i') (h2 : 0 ≤ v') (h3 : 0 ≤ s') (h4 : s' < 2147483647) :
    Wf C H0 (upd H p (.lst [.ref c, .int i', .int v', .int s'])) := by
  have g3 := (w.dr p e).no
  have gd : Draw1 H0 H p := (w.dr p e).2.1.elim id fun ⟨_, z, _⟩ => by rw [h] at z; cases z
  obtain ⟨c0, i0, v0, s0, cells, g1, g2, g4, g5⟩ := gd
  rw [h] at g1
  cases g1
  refine ⟨fun b u q => ?_, fun b u n q => ?_, w.fz, w.nw, fun p' e' => ?_⟩
  · rw [upd_ne (fun z => by rw [z, g3] at q; cases q)]; exact w.sub b u q
  · rw [upd_ne (fun z => by rw [z] at n; exact n e)]; exact w.kp b u n q
  · rw [e] at e'; cases e'
    exact ⟨g3, .inl ⟨c, i', v', s', cells, upd_same, g2, g4, h1, h2, h3, h4⟩, Iff.intro (fun z => by
      obtain ⟨ps, z⟩ := (w.dr p e).2.2.mp z
      rw [h] at z; cases z) (fun z => by
      obtain ⟨ps, z⟩ := z
      rw [upd_same] at z; cases z)⟩
/-- the law's own body behind «draw = _law_draw(script)» -/
theorem law_start {K : PySem.W.Frag} {p c : Addr} {s : Int} {cells : List Int} {H' : Hp} (h1 : H' p = some (.lst [.ref c, .int (-1), .int 0, .int s])) (h2 : H' c = some (.lst (cells.map V.int))) (h3 : c ≠ p) (h4 : ∀ x ∈ cells, 0 ≤ x) (h5 : 0 ≤ s) (h6 : s < 2147483647)
    {a : Addr} {n : Nat} {t : TS} {d : DS} (hd : ∀ (ex : Option Addr) (He Hf : Hp), SmS ⟨K, ex, He, Hf⟩ t d) {Q : VK} (hQ : ∀ H', Q (.bl true) H')
    (hp : ∀ raw : V, d { nx := fun _ => False, rt := fun r => r = .d (.bool true) } (some (.raw raw) :: some .drw :: List.replicate n none)) :
    t { nx := fun _ H' => Q .non H', rt := Q } (some (.ref a) :: some (.ref p) :: List.replicate n none) H' := by
  have w : Wf ⟨K, some p, H', fun b => if b = p then none else H' b⟩ (fun b => if b = p then none else H' b) H' := by
    refine ⟨fun b o e => ?_, fun _ _ _ e => e, Same.refl _, fun _ _ e => .inl e, fun q e => ?_⟩
    · split at e
      · cases e
      · exact e
    · cases e
      exact ⟨if_pos rfl, .inl ⟨c, -1, 0, s, cells, h1, by show (if c = p then none else H' c) = _; rw [if_neg h3]; exact h2, h4, by omega, by omega, h5, h6⟩, Iff.rfl⟩
  refine hd (some p) H' (fun b => if b = p then none else H' b) _ _ _ H' _ _ ⟨w, by simp, fun i r e => ?_, fun i j a b xs ys n e1 e2 a1 a2 => ?_⟩ (hp (.ref a)) ⟨fun _ _ _ _ _ _ h => h.elim, fun H0' H'' v r g w' x e => ?_, fun _ _ _ _ _ _ h => h.elim, fun _ _ _ _ _ _ h => h.elim⟩
  · match i with
    | 0 => simp at e; subst e; exact ⟨_, rfl, rfl⟩
    | 1 => simp at e; subst e; exact ⟨_, rfl, p, rfl, rfl, fun ⟨_, z⟩ => by rw [show H' p = some (HO.tbl _) from z] at h1; cases h1⟩
    | i + 2 =>
      rw [List.getElem?_cons_succ, List.getElem?_cons_succ, List.getElem?_replicate] at e
      split at e <;> simp at e
  · match i with
    | 0 => simp at e1; subst e1; cases a1
    | 1 => simp at e1; subst e1; cases a1
    | i + 2 =>
      rw [List.getElem?_cons_succ, List.getElem?_cons_succ, List.getElem?_replicate] at e1
      split at e1 <;> simp at e1
  · subst e
    cases x
    exact hQ _
end
section
/-- a law that reads its script itself -/
theorem law_plain {K : PySem.W.Frag} {a : Addr} {ns : List Int} {H : Hp} {Q : VK} {n : Nat} {t : TS} {d : DS} (hS : SqL K H a (ns.map V.int)) (k : ∀ H', Q (.bl true) H') (hd : ∀ (ex : Option Addr) (He Hf : Hp), SmS ⟨K, ex, He, Hf⟩ t d)
    (hp : d { nx := fun _ => False, rt := fun r => r = .d (.bool true) } (some (.scr ns) :: List.replicate n none)) : t { nx := fun _ H' => Q .non H', rt := Q } (some (.ref a) :: List.replicate n none) H := by
  refine hd none H H _ _ H H _ _ ⟨⟨Same.refl _, fun _ _ _ e => e, Same.refl _, fun _ _ e => .inl e, fun p e => by cases e⟩, by simp, fun i r e => ?_, fun i j a b xs ys n e1 e2 a1 a2 => ?_⟩ hp ⟨fun _ _ _ _ _ _ h => h.elim, fun H0' H'' v r g w' x e => ?_, fun _ _ _ _ _ _ h => h.elim, fun _ _ _ _ _ _ h => h.elim⟩
  · match i with
    | 0 => simp at e; subst e; exact ⟨_, rfl, a, rfl, hS⟩
    | i + 1 =>
      rw [List.getElem?_cons_succ, List.getElem?_replicate] at e
      split at e <;> simp at e
  · match i with
    | 0 => simp at e1; subst e1; cases a1
    | i + 1 =>
      rw [List.getElem?_cons_succ, List.getElem?_replicate] at e1
      split at e1 <;> simp at e1
  · subst e
    cases x
    exact k _
/-- what is never reached -/
@[simp] def dNever : DS := fun _ _ => False
theorem sms_never {C : Ctx} {t : TS} : SmS C t dNever := fun _ _ _ _ _ _ _ h => h.elim
end
/-! ### rules of the hand layer whose words name the written part: said with it -/
section
variable {X : Cx} {K : PySem.W.Frag}
theorem kx_seq (h : X.K = K) : IxR X (rIx K) := by subst h; exact ix_seq
theorem kx_in (h : X.K = K) : OpR X (compareOp .In) (rIn K false) := by subst h; exact op_in_seq
theorem kx_notIn (h : X.K = K) : OpR X (compareOp .NotIn) (rIn K true) := by subst h; exact op_notIn_seq
theorem kx_eqD (h : X.K = K) (hu : X.A.units + 64 < cLine) : OpR X (compareOp .Eq) (rEqD K) := by subst h; exact op_eqD hu
theorem kx_neD (h : X.K = K) (hu : X.A.units + 64 < cLine) : OpR X (compareOp .NotEq) (rNeD K) := by subst h; exact op_neD hu
theorem kx_len (h : X.K = K) : CallR X (.builtin "len") (fun xs H Q => ∃ x n, xs = [x] ∧ LenV K x H n ∧ Q (.int n) H) := by subst h; exact call_len
theorem kx_list (h : X.K = K) : CallR X (.type "list") (fun xs H Q => ∃ p ys, xs = [.ref p] ∧ (SqL K H p ys ∨ SqT K H p ys) ∧ ∀ l, H l = none → Q (.ref l) (upd H l (.lst ys))) := by subst h; exact call_list_of
theorem kx_tuple (h : X.K = K) : CallR X (.type "tuple") (fun xs H Q => ∃ p ys, xs = [.ref p] ∧ ((SqL K H p ys ∧ ∀ l, H l = none → Q (.ref l) (upd H l (.tup ys))) ∨ (SqT K H p ys ∧ Q (.ref p) H))) := by subst h; exact call_tuple_of
theorem kx_isi (h : X.K = K) : CallR X (.builtin "isinstance") (rIsi K) := by subst h; exact call_isi
theorem kpi_list (h : X.K = K) {tg e : Expr} {tl : TE} (he : PE X e tl) : PI X tg e (iList K tl) := by subst h; exact pi_list he
theorem kpi_tup (h : X.K = K) {tg e : Expr} {tl : TE} (he : PE X e tl) : PI X tg e (iTup K tl) := by subst h; exact pi_tup he
end
end VL

/-! Facts about the layer's words. -/
namespace VL
open PySem L2
@[simp] theorem scal_ii (i j : Int) : scal (.int i) (.int j) = true := rfl
@[simp] theorem scal_ss (i j : Str) : scal (.str i) (.str j) = true := rfl
@[simp] theorem scal_bb (i j : Bool) : scal (.bl i) (.bl j) = true := rfl
@[simp] theorem scal_nn : scal .non .non = true := rfl
@[simp] theorem scal_ni (i : Int) : scal .non (.int i) = true := rfl
@[simp] theorem scal_in (i : Int) : scal (.int i) .non = true := rfl
@[simp] theorem scal_si (s : Str) (i : Int) : scal (.str s) (.int i) = true := rfl
@[simp] theorem scal_is (s : Str) (i : Int) : scal (.int i) (.str s) = true := rfl
@[simp] theorem scal_ns (s : Str) : scal .non (.str s) = true := rfl
@[simp] theorem scal_sn (s : Str) : scal (.str s) .non = true := rfl
@[simp] theorem eqv_ii (i j : Int) : PyData.eqv (.int i) (.int j) = (i == j) := by simp [PyData.eqv]
@[simp] theorem eqv_ss (i j : Str) : PyData.eqv (.str i) (.str j) = decide (i = j) := by rw [Bool.eq_iff_iff]; simp [PyData.eqv]
@[simp] theorem own_ex {α β : Type} {a0 : α} {xs0 : β} {P : α → β → Prop} : (∃ a xs, (a0 = a ∧ xs0 = xs) ∧ P a xs) ↔ P a0 xs0 := ⟨fun ⟨_, _, ⟨e1, e2⟩, h⟩ => by subst e1 e2; exact h, fun h => ⟨_, _, ⟨rfl, rfl⟩, h⟩⟩
@[simp] theorem kit_NoneType_tuple : kitB "NoneType" "tuple" = some false := by decide +kernel
@[simp] theorem kit_NoneType_list : kitB "NoneType" "list" = some false := by decide +kernel
@[simp] theorem kit_NoneType_bool : kitB "NoneType" "bool" = some false := by decide +kernel
@[simp] theorem kit_NoneType_int : kitB "NoneType" "int" = some false := by decide +kernel
@[simp] theorem kit_NoneType_str : kitB "NoneType" "str" = some false := by decide +kernel
@[simp] theorem kit_NoneType_dict : kitB "NoneType" "dict" = some false := by decide +kernel
@[simp] theorem kit_bool_tuple : kitB "bool" "tuple" = some false := by decide +kernel
@[simp] theorem kit_bool_list : kitB "bool" "list" = some false := by decide +kernel
@[simp] theorem kit_bool_bool : kitB "bool" "bool" = some true := by decide +kernel
@[simp] theorem kit_bool_int : kitB "bool" "int" = some true := by decide +kernel
@[simp] theorem kit_bool_str : kitB "bool" "str" = some false := by decide +kernel
@[simp] theorem kit_bool_dict : kitB "bool" "dict" = some false := by decide +kernel
@[simp] theorem kit_int_tuple : kitB "int" "tuple" = some false := by decide +kernel
@[simp] theorem kit_int_list : kitB "int" "list" = some false := by decide +kernel
@[simp] theorem kit_int_bool : kitB "int" "bool" = some false := by decide +kernel
@[simp] theorem kit_int_int : kitB "int" "int" = some true := by decide +kernel
@[simp] theorem kit_int_str : kitB "int" "str" = some false := by decide +kernel
@[simp] theorem kit_int_dict : kitB "int" "dict" = some false := by decide +kernel
@[simp] theorem kit_str_tuple : kitB "str" "tuple" = some false := by decide +kernel
@[simp] theorem kit_str_list : kitB "str" "list" = some false := by decide +kernel
@[simp] theorem kit_str_bool : kitB "str" "bool" = some false := by decide +kernel
@[simp] theorem kit_str_int : kitB "str" "int" = some false := by decide +kernel
@[simp] theorem kit_str_str : kitB "str" "str" = some true := by decide +kernel
@[simp] theorem kit_str_dict : kitB "str" "dict" = some false := by decide +kernel
@[simp] theorem kit_list_tuple : kitB "list" "tuple" = some false := by decide +kernel
@[simp] theorem kit_list_list : kitB "list" "list" = some true := by decide +kernel
@[simp] theorem kit_list_bool : kitB "list" "bool" = some false := by decide +kernel
@[simp] theorem kit_list_int : kitB "list" "int" = some false := by decide +kernel
@[simp] theorem kit_list_str : kitB "list" "str" = some false := by decide +kernel
@[simp] theorem kit_list_dict : kitB "list" "dict" = some false := by decide +kernel
@[simp] theorem kit_tuple_tuple : kitB "tuple" "tuple" = some true := by decide +kernel
@[simp] theorem kit_tuple_list : kitB "tuple" "list" = some false := by decide +kernel
@[simp] theorem kit_tuple_bool : kitB "tuple" "bool" = some false := by decide +kernel
@[simp] theorem kit_tuple_int : kitB "tuple" "int" = some false := by decide +kernel
@[simp] theorem kit_tuple_str : kitB "tuple" "str" = some false := by decide +kernel
@[simp] theorem kit_tuple_dict : kitB "tuple" "dict" = some false := by decide +kernel
@[simp] theorem kit_dict_tuple : kitB "dict" "tuple" = some false := by decide +kernel
@[simp] theorem kit_dict_list : kitB "dict" "list" = some false := by decide +kernel
@[simp] theorem kit_dict_bool : kitB "dict" "bool" = some false := by decide +kernel
@[simp] theorem kit_dict_int : kitB "dict" "int" = some false := by decide +kernel
@[simp] theorem kit_dict_str : kitB "dict" "str" = some false := by decide +kernel
@[simp] theorem kit_dict_dict : kitB "dict" "dict" = some true := by decide +kernel
@[simp] theorem at_0 {α : Type} (a : α) (xs : List α) : atI (a :: xs) 0 = some a := by simp [atI, ixN]
@[simp] theorem at_1 {α : Type} (a b : α) (xs : List α) : atI (a :: b :: xs) 1 = some b := by
  have : (1 : Int) < (xs.length : Int) + 1 + 1 := by omega
  simp [atI, ixN, this]
@[simp] theorem at_2 {α : Type} (a b c : α) (xs : List α) : atI (a :: b :: c :: xs) 2 = some c := by
  have : (2 : Int) < (xs.length : Int) + 1 + 1 + 1 := by omega
  simp [atI, ixN, this]
@[simp] theorem at_3 {α : Type} (a b c d : α) (xs : List α) : atI (a :: b :: c :: d :: xs) 3 = some d := by
  have : (3 : Int) < (xs.length : Int) + 1 + 1 + 1 + 1 := by omega
  simp [atI, ixN, this]
@[simp] theorem at_4 {α : Type} (a b c d e : α) (xs : List α) : atI (a :: b :: c :: d :: e :: xs) 4 = some e := by
  have : (4 : Int) < (xs.length : Int) + 1 + 1 + 1 + 1 + 1 := by omega
  simp [atI, ixN, this]
theorem int_at {ns : List Int} {i : Nat} {z : PyData} (h : (ns.map PyData.int)[i]? = some z) : ∃ u, ns[i]? = some u ∧ z = .int u := by
  rw [List.getElem?_map] at h
  cases e : ns[i]? with
  | none => rw [e] at h; cases h
  | some u => rw [e] at h; exact ⟨u, rfl, (Option.some.inj h).symm⟩
theorem seq_by {d1 d2 : DS} {E : DEnds} {δ : Dl} (J : Dl → Prop) (h2 : ∀ δ', J δ' → d2 E δ') (h1 : ∀ N : Dl → Prop, (∀ δ', J δ' → N δ') → d1 { E with nx := N } δ) : dSeq d1 d2 E δ := h1 _ h2
/-- a comprehension over range(n) -/
theorem oLc_n {da : DE} {i : Nat} {de : DE} {δ : Dl} {Φ : List PyData → Prop} {n : Nat} (hn : n < 1000000) (h : ∀ Ψ : PyData → Prop, Ψ (.int n) → da δ Ψ) (P : List PyData → Prop) (h0 : P [])
    (hs : ∀ (k : Nat) (acc : List PyData) (Ψ : PyData → Prop), k < n → acc.length = k → P acc → (∀ z, P (acc ++ [z]) → Ψ z) → de (δ.set i (some (.d (.int k)))) Ψ) (hΦ : ∀ acc, acc.length = n → P acc → Φ acc) : oLc (iR1 da) i dYes de δ Φ := by
  unfold oLc
  refine h _ ⟨n, rfl, by omega, by omega, fun k acc => acc.length = k ∧ P acc, ⟨rfl, h0⟩, fun k y acc hy ha => ?_, fun acc ha => ?_⟩
  · obtain ⟨hk, rfl⟩ := rng_get hy
    have hk : k < n := hk
    unfold dYes
    dsimp only
    rw [if_pos rfl]
    rw [show (0 : Int) + (k : Int) = (k : Int) from Int.zero_add _]
    refine hs k acc _ hk ha.1 ha.2 fun z hz => ⟨?_, ?_, hz⟩
    · rw [ha.1]
      exact Nat.lt_of_lt_of_le (show k < 1000000 by omega) (by decide)
    · rw [List.length_append, ha.1]; rfl
  · rw [rng_len] at ha
    exact hΦ acc ha.1 ha.2
/-- a comprehension over a walked list, its answer a function of the items -/
theorem oLc_map {di : DI} {i : Nat} {de : DE} {δ : Dl} {Φ : List PyData → Prop} {xs : List PyData} (F : PyData → PyData) (hn : xs.length < 1000000) (h : ∀ Ψ : List PyData → Prop, Ψ xs → di δ Ψ)
    (hs : ∀ (k : Nat) (y : PyData) (Ψ : PyData → Prop), xs[k]? = some y → Ψ (F y) → de (δ.set i (some (.d y))) Ψ) (hΦ : Φ (xs.map F)) : oLc di i dYes de δ Φ := by
  unfold oLc
  refine h _ ⟨fun k acc => acc = (xs.take k).map F, by simp, fun k y acc hy ha => ?_, fun acc ha => ?_⟩
  · subst ha
    unfold dYes
    dsimp only
    rw [if_pos rfl]
    have hk := (List.getElem?_eq_some_iff.mp hy).1
    refine hs k y _ hy ⟨?_, ?_⟩
    · rw [List.length_map, List.length_take]
      exact Nat.lt_of_lt_of_le (show min k xs.length < 1000000 by omega) (by decide)
    · rw [List.take_add_one, hy, List.map_append]
      rfl
  · subst ha
    rw [List.take_length]
    exact hΦ
theorem depth_ints : ∀ ns : List Int, PyData.depthAll (ns.map PyData.int) = 0
  | [] => rfl
  | _ :: r => by simp only [List.map_cons, PyData.depthAll, PyData.depth, depth_ints r, Nat.max_self]
/-! ### data without texts: they compare by themselves -/
theorem canLay_ints : ∀ ns : List Int, PyData.canLayAll0 (ns.map PyData.int) = true
  | [] => rfl
  | _ :: r => by simp only [List.map_cons, PyData.canLayAll0, PyData.canLay0, canLay_ints r, Bool.and_self]
theorem eqvAll_ints : ∀ a b : List Int, PyData.eqvAll (a.map PyData.int) (b.map PyData.int) = decide (a = b)
  | [], [] => by simp [PyData.eqvAll]
  | [], _ :: _ => by simp [PyData.eqvAll]
  | _ :: _, [] => by simp [PyData.eqvAll]
  | x :: a, y :: b => by
    simp only [List.map_cons, PyData.eqvAll, eqv_ii, eqvAll_ints a b, List.cons.injEq]
    by_cases h : x = y <;> by_cases k : a = b <;> simp [h, k]
@[simp] theorem eqv_ints (a b : List Int) : PyData.eqv (.list (a.map PyData.int)) (.list (b.map PyData.int)) = decide (a = b) := by
  rw [PyData.eqv, eqvAll_ints]
@[simp] theorem shaped_ints (ns : List Int) : SeqAt.shaped (.list (ns.map PyData.int)) = true := by
  unfold SeqAt.shaped
  rw [PyData.canLay0, canLay_ints, PyData.depth, depth_ints]
  rfl
@[simp] theorem shaped_intsT (ns : List Int) : SeqAt.shaped (.tuple (ns.map PyData.int)) = true := by
  unfold SeqAt.shaped
  rw [PyData.canLay0, canLay_ints, PyData.depth, depth_ints]
  rfl
@[simp] theorem shaped_i (i : Int) : SeqAt.shaped (.int i) = true := rfl
/-! ### more statements and expressions -/
section
variable {C : Ctx} {f f1 f2 f3 : Bool} {ta tb tc td : TE} {da db dc dd : DE}
@[simp] def dPar (i j : Nat) (da db : DE) : DS := fun E δ => da δ fun x => db δ fun y => E.nx ((δ.set i (some (.d x))).set j (some (.d y)))
theorem sms_par (i j : Nat) (ha : Sm C true ta da) (hb : Sm C true tb db) : SmS C (tPar i j (tCons ta (tCons tb tNil))) (dPar i j da db) := fun σ δ H0 H E D s w e =>
  ha σ δ H0 H _ _ s w fun H01 H1 v x g1 r1 w1 => hb σ δ H01 H1 _ _ (s.go g1) w1 fun H02 H2 u y g2 r2 w2 =>
    ⟨v, u, rfl, e.nx _ _ _ _ (g1.fz.trans g2.fz) ((((s.go g1).go g2).set_d i (Rp.mono g2.fz r1)).set_d j r2) w2⟩
@[simp] def dChain (g g' : PyData → PyData → (PyData → Prop) → Prop) (da db dc : DE) : DE := fun δ Φ => da δ fun x => db δ fun y => g x y fun z => ∃ k, z = .bool k ∧ if k = true then dc δ fun w => g' y w Φ else Φ (.bool false)
theorem sm_chain {r r' : R2} {g g' : PyData → PyData → (PyData → Prop) → Prop} (hr : OpD C r g) (hr' : OpD C r' g') (ha : Sm C f1 ta da) (hb : Sm C f2 tb db) (hc : Sm C f3 tc dc) : Sm C f (tChain r r' ta tb tc) (dChain g g' da db dc) := fun σ δ H0 H Φ Q s w q =>
  ha σ δ H0 H _ _ s w fun H01 H1 v x g1 r1 w1 => hb σ δ H01 H1 _ _ (s.go g1) w1 fun H02 H2 u y g2 r2 w2 =>
    hr H2 v u x y _ _ ((r1.mono g2.loc).mono g2.wf.loc) (r2.mono g2.wf.loc) w2 fun w' z hz ⟨k, e, p⟩ => by
      subst e
      have hz := hz H2
      cases hz
      refine ⟨k, rfl, ?_⟩
      cases k with
      | false => exact iteF (q _ _ _ _ (g1.trans g2) (.bl false) (by simpa using p))
      | true =>
        exact iteT (hc σ δ H02 H2 _ _ ((s.go g1).go g2) (by simpa using p) fun H03 H3 t w3 g3 r3 p3 =>
          hr' H3 u t y w3 Φ Q ((r2.mono g3.loc).mono g3.wf.loc) (r3.mono g3.wf.loc) p3 fun w' z hz p => q _ _ w' z ((g1.trans g2).trans g3) (hz _) p)
/-- an object that is not frozen, new since the start, is written -/
theorem Go.wr {H0 H H0' H' : Hp} {p : Addr} {o : HO} (w : Wf C H0 H) (hp : H p = none) (g : Go C H0 H H0' H') (hn : H0' p = none) : Go C H0 H H0' (upd H' p o) := by
  obtain ⟨he, nex⟩ := Go.he w hp
  refine ⟨⟨fun b u e => ?_, fun b u n e => ?_, g.wf.fz, g.wf.nw, fun c e => ?_⟩, g.fz, fun b u n e => ?_, g.nw⟩
  · rw [upd_ne (fun z => by rw [z, hn] at e; cases e)]; exact g.wf.sub b u e
  · rw [upd_ne (fun z => by rw [z, he] at e; cases e)]; exact g.wf.kp b u n e
  · exact (g.wf.dr c e).keep (Same.refl _) (g.wf.dr c e).no (upd_ne (fun z => nex (by rw [← z]; exact e)))
  · rw [upd_ne (fun z => by rw [z, hp] at e; cases e)]; exact g.kp b u n e
/-- {k1: a, k2: b, k3: c}[d], the keys written texts -/
@[simp] def dMenu3 (k1 k2 k3 : Str) (da db dc dd : DE) : DE := fun δ Φ => da δ fun x => db δ fun y => dc δ fun z => ∃ i j k, x = .int i ∧ y = .int j ∧ z = .int k ∧ ¬ k2 = k1 ∧ ¬ k3 = k1 ∧ ¬ k3 = k2 ∧ dd δ fun t => ∃ s, t = .str s ∧
  ((s = k1 ∧ Φ (.int i)) ∨ (s = k2 ∧ Φ (.int j)) ∨ (s = k3 ∧ Φ (.int k)))
theorem sm_menu3 {k1 k2 k3 : Str} (ha : Sm C f1 ta da) (hb : Sm C f2 tb db) (hc : Sm C f3 tc dc) (hd : Sm C false td dd) : Sm C f (tDGet (tDisp [(tC (.str k1), ta), (tC (.str k2), tb), (tC (.str k3), tc)]) td) (dMenu3 k1 k2 k3 da db dc dd) := fun σ δ H0 H Φ Q s w q => by
  intro p hp
  have gp : Go C H0 H H0 (upd H p (.dK [])) := Go.free s.toWf hp
  have nex := (Go.he s.toWf hp).2
  refine ha σ δ H0 _ _ _ (s.go gp) w fun H01 H1 v x g1 r1 w1 => hb σ δ H01 H1 _ _ ((s.go gp).go g1) w1 fun H02 H2 u y g2 r2 w2 => hc σ δ H02 H2 _ _ (((s.go gp).go g1).go g2) w2 fun H03 H3 t z g3 r3 w3 => ?_
  have g123 := (g1.trans g2).trans g3
  have hk : H3 p = some (.dK []) := g123.kp p _ nex upd_same
  have g0 := gp.trans g123
  have hn : H03 p = none := by
    cases e : H03 p with
    | none => rfl
    | some o =>
      rcases g123.nw p o e with h | h
      · rw [s.toWf.none hp] at h; cases h
      · rw [upd_same] at h; cases h
  obtain ⟨i, j, k, rfl, rfl, rfl, n1, n2, n3, w4⟩ := w3
  cases r1
  cases r2
  cases r3
  have m1 : mergeK [] [((.inr k1 : Key), V.int i), (.inr k2, .int j), (.inr k3, .int k)] = [((.inr k1 : Key), V.int i), (.inr k2, .int j), (.inr k3, .int k)] := by
    simp [mergeK, putK, Ne.symm n1, Ne.symm n2, Ne.symm n3, n1, n2, n3]
  refine ⟨hk, [((.inr k1 : Key), V.int i), (.inr k2, .int j), (.inr k3, .int k)], rfl, by simp, ?_⟩
  rw [m1]
  have g4 := Go.wr (o := .dK [((.inr k1 : Key), V.int i), (.inr k2, .int j), (.inr k3, .int k)]) s.toWf hp g0 hn
  refine hd σ δ H03 _ _ _ (s.go g4) w4 fun H05 H5 v5 x5 g5 r5 ⟨st, e5, p5⟩ => ?_
  subst e5
  cases r5
  have h5 : H5 p = some (.dK [((.inr k1 : Key), V.int i), (.inr k2, .int j), (.inr k3, .int k)]) := g5.kp p _ nex upd_same
  rcases p5 with ⟨rfl, p5⟩ | ⟨rfl, p5⟩ | ⟨rfl, p5⟩
  · refine ⟨p, .int i, rfl, .inl ⟨_, .inr st, .inl h5, rfl, ?_⟩, q _ _ _ _ (g4.trans g5) (.int i) p5⟩
    simp [valV]
  · refine ⟨p, .int j, rfl, .inl ⟨_, .inr st, .inl h5, rfl, ?_⟩, q _ _ _ _ (g4.trans g5) (.int j) p5⟩
    simp [valV, Ne.symm n1]
  · refine ⟨p, .int k, rfl, .inl ⟨_, .inr st, .inl h5, rfl, ?_⟩, q _ _ _ _ (g4.trans g5) (.int k) p5⟩
    simp [valV, Ne.symm n2, Ne.symm n3]
/-- an item of a written dict with text keys -/
def KdL (K : PySem.W.Frag) (w : World) (a : Addr) (L : List (Str × PyData)) : Prop := ∀ k v, (k, v) ∈ L → ∃ u, KDct K w a k u ∧ isScalV u = some v
theorem KdL.nil {K : PySem.W.Frag} {w : World} {a : Addr} : KdL K w a [] := fun _ _ h => nomatch h
theorem KdL.cons {K : PySem.W.Frag} {w : World} {a : Addr} {L : List (Str × PyData)} {k : Str} {v : PyData} {u : V} (h : KDct K w a k u) (e : isScalV u = some v) (t : KdL K w a L) : KdL K w a ((k, v) :: L) := fun k' v' h' => by
  rcases List.mem_cons.mp h' with h' | h'
  · cases h'; exact ⟨u, h, e⟩
  · exact t k' v' h'
theorem kd_i {K : PySem.W.Frag} {w : World} {a : Addr} {es : Array DictEntry} {n : Nat} {k : Str} {i : Int} {t : Tok} (h : K.lookup a = some ⟨.type "dict", none, .dict es n, #[]⟩) (hk : PySem.W.KeysLit w.params es.toList) (e : PySem.W.nsIn K a k = some (some (.int i t))) : KDct K w a k (.int i) := ⟨es, n, _, h, hk, e, ⟨t, rfl⟩⟩
theorem kd_s {K : PySem.W.Frag} {w : World} {a : Addr} {es : Array DictEntry} {n : Nat} {k : Str} {i : Str} {t : Tok} (h : K.lookup a = some ⟨.type "dict", none, .dict es n, #[]⟩) (hk : PySem.W.KeysLit w.params es.toList) (e : PySem.W.nsIn K a k = some (some (.str i t))) : KDct K w a k (.str i) := ⟨es, n, _, h, hk, e, ⟨t, rfl⟩⟩
theorem kx_kdict {X : Cx} {K : PySem.W.Frag} {w : World} (h : X.K = K) (h2 : X.w = w) : IxR X (rIxD K w) := by subst h h2; exact ix_kdict
@[simp] def dKd (L : List (Str × PyData)) (db : DE) : DE := fun δ Φ => db δ fun y => ∃ s v, y = .str s ∧ (s, v) ∈ L ∧ Φ v
theorem sm_kd {w : World} {a : Addr} {L : List (Str × PyData)} {v : V} (hv : v = .ref a) (hL : KdL C.K w a L) (hb : Sm C f1 tb db) : Sm C f (tOp (rIxD C.K w) (tC v) tb) (dKd L db) := fun σ δ H0 H Φ Q s w q =>
  hb σ δ H0 H _ _ s w fun H01 H1 u y g1 r1 ⟨st, z, e, m, p⟩ => by
    subst e
    cases r1
    obtain ⟨z', h1, h2⟩ := hL _ _ m
    exact ⟨a, st, z', hv, rfl, h1, q _ _ _ _ g1 (isScal_rp h2 _) p⟩
/-- a part of a text -/
abbrev DP := Dl → (Option Int → Prop) → Prop
def SmP (C : Ctx) (tp : TO) (dp : DP) : Prop := ∀ (σ : L2.St) (δ : Dl) (H0 H : Hp) (Φ : Option Int → Prop) (Q : Option Int → Hp → Prop), St C H0 H σ δ → dp δ Φ → (∀ H0' H' o, Go C H0 H H0' H' → Φ o → Q o H') → tp σ H Q
@[simp] def pNone : DP := fun _ Φ => Φ none
@[simp] def pSome (da : DE) : DP := fun δ Φ => da δ fun x => ∃ i, x = .int i ∧ Φ (some i)
theorem smp_none : SmP C tNoPart pNone := fun σ δ H0 H Φ Q s w q => q H0 H _ (.refl s.toWf) w
theorem smp_some (ha : Sm C f1 ta da) : SmP C (tPart ta) (pSome da) := fun σ δ H0 H Φ Q s w q =>
  ha σ δ H0 H _ _ s w fun H01 H1 v x g1 r1 ⟨i, e, p⟩ => by
    subst e
    cases r1
    exact ⟨i, rfl, q _ _ _ g1 p⟩
@[simp] def dSlS (da : DE) (dl dh : DP) : DE := fun δ Φ => da δ fun x => dl δ fun l => dh δ fun u => ∃ z, x = .str z ∧ z.length ≤ sizeLine ∧ Φ (.str (cutS z l u))
variable {tl th : TO} {dl dh : DP}
theorem sm_sl_str (ha : Sm C f1 ta da) (hl : SmP C tl dl) (hh : SmP C th dh) : Sm C f (tSl rSlS ta tl th) (dSlS da dl dh) := fun σ δ H0 H Φ Q s w q =>
  ha σ δ H0 H _ _ s w fun H01 H1 v x g1 r1 w1 => hl σ δ H01 H1 _ _ (s.go g1) w1 fun H02 H2 l g2 w2 => hh σ δ H02 H2 _ _ ((s.go g1).go g2) w2 fun H03 H3 u g3 ⟨z, e, hz, p⟩ => by
    subst e
    cases r1
    exact ⟨z, rfl, hz, q _ _ _ _ ((g1.trans g2).trans g3) (.str _) p⟩
end
/-! ### data without dicts, of a bounded depth and length -/
inductive Okd : Nat → PyData → Prop
  | none {n : Nat} : Okd n .none
  | bool {n : Nat} (b : Bool) : Okd n (.bool b)
  | int {n : Nat} (i : Int) : Okd n (.int i)
  | str {n : Nat} {s : Str} (h : PyData.canLay0 (.str s) = true) : Okd n (.str s)
  | list {n : Nat} {xs : List PyData} (h : ∀ y ∈ xs, Okd n y) (hl : xs.length ≤ 1000000) : Okd (n + 1) (.list xs)
  | tuple {n : Nat} {xs : List PyData} (h : ∀ y ∈ xs, Okd n y) (hl : xs.length ≤ 1000000) : Okd (n + 1) (.tuple xs)
theorem Okd.mono {n m : Nat} {x : PyData} (h : Okd n x) (hm : n ≤ m) : Okd m x := by
  induction h generalizing m with
  | none => exact .none
  | bool b => exact .bool b
  | int i => exact .int i
  | str h => exact .str h
  | list h hl ih =>
    obtain ⟨k, rfl⟩ : ∃ k, m = k + 1 := ⟨m - 1, by omega⟩
    exact .list (fun y hy => ih y hy (by omega)) hl
  | tuple h hl ih =>
    obtain ⟨k, rfl⟩ : ∃ k, m = k + 1 := ⟨m - 1, by omega⟩
    exact .tuple (fun y hy => ih y hy (by omega)) hl
theorem depthAll_le {n : Nat} : ∀ {xs : List PyData}, (∀ y ∈ xs, y.depth ≤ n) → PyData.depthAll xs ≤ n
  | [], _ => by rw [PyData.depthAll]; exact Nat.zero_le _
  | x :: xs, h => by
    rw [PyData.depthAll]
    exact Nat.max_le.mpr ⟨h x List.mem_cons_self, depthAll_le fun y hy => h y (List.mem_cons_of_mem _ hy)⟩
theorem layAll_of : ∀ {xs : List PyData}, (∀ y ∈ xs, y.canLay0 = true) → PyData.canLayAll0 xs = true
  | [], _ => by rw [PyData.canLayAll0]
  | x :: xs, h => by
    rw [PyData.canLayAll0, h x List.mem_cons_self, layAll_of fun y hy => h y (List.mem_cons_of_mem _ hy)]
    rfl
theorem Okd.depth {n : Nat} {x : PyData} (h : Okd n x) : x.depth ≤ n := by
  induction h with
  | none => rw [PyData.depth]; exact Nat.zero_le _
  | bool b => rw [PyData.depth]; exact Nat.zero_le _
  | int i => rw [PyData.depth]; exact Nat.zero_le _
  | str h => rw [PyData.depth]; exact Nat.zero_le _
  | list h hl ih => rw [PyData.depth]; exact Nat.succ_le_succ (depthAll_le ih)
  | tuple h hl ih => rw [PyData.depth]; exact Nat.succ_le_succ (depthAll_le ih)
theorem Okd.lay {n : Nat} {x : PyData} (h : Okd n x) : x.canLay0 = true := by
  induction h with
  | none => rw [PyData.canLay0]
  | bool b => rw [PyData.canLay0]
  | int i => rw [PyData.canLay0]
  | str h => exact h
  | list h hl ih => rw [PyData.canLay0]; exact layAll_of ih
  | tuple h hl ih => rw [PyData.canLay0]; exact layAll_of ih
theorem Okd.shaped {n : Nat} {x : PyData} (h : Okd n x) (hn : n ≤ 64) : SeqAt.shaped x = true := by
  unfold SeqAt.shaped
  rw [h.lay, decide_eq_true (Nat.le_trans h.depth hn)]
  rfl
/-! ### texts: a sign in a text, texts joined -/
section
variable {C : Ctx} {f f1 f2 : Bool} {ta tb : TE} {da db : DE}
@[simp] def gInS (neg : Bool) : PyData → PyData → (PyData → Prop) → Prop := fun x y Φ => ∃ (c : Nat) (z : Str), x = .str ⟨#[c]⟩ ∧ y = .str z ∧ Φ (.bool (if neg then !decide (c ∈ z.cps.toList) else decide (c ∈ z.cps.toList)))
theorem opd_inS : OpD C (fun x y H Q => ∃ (c : Nat) (z : Str), x = .str ⟨#[c]⟩ ∧ y = .str z ∧ Q (.bl (decide (c ∈ z.cps.toList))) H) (gInS false) := fun H v u x y Φ Q rv ru ⟨c, z, e1, e2, p⟩ q => by
  subst e1 e2
  cases rv
  cases ru
  exact ⟨c, z, rfl, rfl, q _ _ (fun _ => .bl _) p⟩
theorem opd_niS : OpD C (fun x y H Q => ∃ (c : Nat) (z : Str), x = .str ⟨#[c]⟩ ∧ y = .str z ∧ Q (.bl (!decide (c ∈ z.cps.toList))) H) (gInS true) := fun H v u x y Φ Q rv ru ⟨c, z, e1, e2, p⟩ q => by
  subst e1 e2
  cases rv
  cases ru
  exact ⟨c, z, rfl, rfl, q _ _ (fun _ => .bl _) p⟩
theorem rpa_strs {K : PySem.W.Frag} {H : Hp} : ∀ {vs : List V} {ys : List Str}, RpA K H vs (ys.map .str) → vs = ys.map V.str
  | _, [], .nil => rfl
  | _, y :: ys, .cons h r => by
    cases h
    rw [rpa_strs r]
    rfl
@[simp] def gCatT : PyData → PyData → (PyData → Prop) → Prop := fun x y Φ => ∃ a b, x = .str a ∧ y = .str b ∧ a.length + b.length ≤ sizeLine ∧ Φ (.str (a ++ b))
theorem opd_catS : OpD C (fun x y H Q => ∃ i j, x = V.str i ∧ y = V.str j ∧ i.length + j.length ≤ sizeLine ∧ Q (V.str (i ++ j)) H) gCatT := fun H v u x y Φ Q rv ru ⟨a, b, e1, e2, e3, p⟩ q => by
  subst e1 e2
  cases rv
  cases ru
  exact ⟨a, b, rfl, rfl, e3, q _ _ (fun _ => .str _) p⟩
@[simp] def dJoin (da db : DE) : DE := fun δ Φ => da δ fun x => ∃ a, x = .str a ∧ db δ fun y => ∃ ys : List Str, y = .list (ys.map .str) ∧ (ys.map (·.length)).sum + ys.length * a.length ≤ 16777216 ∧ Φ (.str (Txt.join a ys))
theorem sm_join (ha : Sm C f1 ta da) (hb : Sm C f2 tb db) : Sm C f (tM1 (fun x xs H Q => ∃ a p, ∃ ys : List Str, x = V.str a ∧ xs = [V.ref p] ∧ (SqL C.K H p (ys.map V.str) ∨ SqT C.K H p (ys.map V.str)) ∧ (ys.map (fun x => x.length)).sum + ys.length * a.length ≤ 16777216 ∧ Q (V.str (Txt.join a ys)) H) ta tb) (dJoin da db) := fun σ δ H0 H Φ Q s w q =>
  ha σ δ H0 H _ _ s w fun H01 H1 v x g1 r1 ⟨a, e, w1⟩ => by
    subst e
    cases r1
    refine ⟨⟨a, rfl⟩, hb σ δ H01 H1 _ _ (s.go g1) w1 fun H02 H2 u y g2 r2 ⟨ys, e, hl, p⟩ => ?_⟩
    subst e
    cases r2 with
    | lst h r =>
      have e := rpa_strs r
      subst e
      exact ⟨a, _, ys, rfl, rfl, .inl (SqL.of (g2.wf.loc _ _ h)), hl, q _ _ _ _ (g1.trans g2) (.str _) p⟩
end
/-! ### a part of a list, as a new list -/
section
variable {C : Ctx} {f f1 f2 : Bool} {ta tb : TE} {da db : DE} {tl th : TO} {dl dh : DP}
def cutDt (xs : List PyData) (lo hi : Option Int) : List PyData := List.take (HT.sIx xs.length xs.length hi - HT.sIx xs.length 0 lo) (List.drop (HT.sIx xs.length 0 lo) xs)
theorem rpa_drop {K : PySem.W.Frag} {H : Hp} : ∀ (n : Nat) {vs : List V} {xs : List PyData}, RpA K H vs xs → RpA K H (vs.drop n) (xs.drop n)
  | 0, _, _, h => h
  | n + 1, _, _, .nil => by rw [List.drop_nil, List.drop_nil]; exact .nil
  | n + 1, _, _, .cons _ r => rpa_drop n r
theorem rpa_take {K : PySem.W.Frag} {H : Hp} : ∀ (n : Nat) {vs : List V} {xs : List PyData}, RpA K H vs xs → RpA K H (vs.take n) (xs.take n)
  | 0, _, _, _ => .nil
  | n + 1, _, _, .nil => .nil
  | n + 1, _, _, .cons h r => .cons h (rpa_take n r)
theorem rpa_cut {K : PySem.W.Frag} {H : Hp} {vs : List V} {xs : List PyData} (r : RpA K H vs xs) (lo hi : Option Int) : RpA K H (cutV vs lo hi) (cutDt xs lo hi) := by
  unfold cutV cutDt
  rw [r.length]
  exact rpa_take _ (rpa_drop _ r)
@[simp] def oSlice (da : DE) (dl dh : DP) : DO := fun δ Φ => da δ fun x => dl δ fun l => dh δ fun u => ∃ xs, x = .list xs ∧ Φ (cutDt xs l u)
theorem smo_slice (ha : Sm C true ta da) (hl : SmP C tl dl) (hh : SmP C th dh) : SmO C (tSl (rSlL C.K) ta tl th) (oSlice da dl dh) := fun σ δ H0 H Φ Q s w q =>
  ha σ δ H0 H _ _ s w fun H01 H1 v x g1 r1 w1 => hl σ δ H01 H1 _ _ (s.go g1) w1 fun H02 H2 l g2 w2 => hh σ δ H02 H2 _ _ ((s.go g1).go g2) w2 fun H03 H3 u g3 ⟨xs, e, p⟩ => by
    subst e
    have r3 := (r1.mono g2.fz).mono g3.fz
    cases r3 with
    | @lst a1 us1 _ h r =>
      refine ⟨_, us1, rfl, SqL.of (g3.wf.sub _ _ h), fun l' hl' => ?_⟩
      exact q _ _ l' _ _ (((g1.trans g2).trans g3).trans (Go.free (o := .lst _) g3.wf hl')) (((g1.trans g2).trans g3).fresh hl') (g3.wf.none hl') upd_same (rpa_cut r _ _) p
end
/-! ### the least and the greatest of a list of numbers; a number as a test -/
section
variable {C : Ctx} {f f1 f2 : Bool} {ta tb : TE} {da db : DE}
theorem rpa_ints {K : PySem.W.Frag} {H : Hp} : ∀ {vs : List V} {ns : List Int}, RpA K H vs (ns.map .int) → vs = ns.map V.int
  | _, [], .nil => rfl
  | _, n :: ns, .cons h r => by
    cases h
    rw [rpa_ints r]
    rfl
@[simp] def gMinL : List PyData → (PyData → Prop) → Prop := fun xs Φ => ∃ ns : List Int, xs = [.list (ns.map .int)] ∧ 0 < ns.length ∧ ∀ m ∈ ns, (∀ y ∈ ns, m ≤ y) → Φ (.int m)
@[simp] def gMaxL : List PyData → (PyData → Prop) → Prop := fun xs Φ => ∃ ns : List Int, xs = [.list (ns.map .int)] ∧ 0 < ns.length ∧ ∀ m ∈ ns, (∀ y ∈ ns, y ≤ m) → Φ (.int m)
theorem cbd_minL : CbD C (rMin C.K) gMinL := fun H vs xs Φ Q r ⟨ns, e, hl, p⟩ q => by
  subst e
  cases r with
  | cons h n =>
    cases n
    cases h with
    | lst h r =>
      have e := rpa_ints r
      subst e
      exact ⟨_, ns, rfl, SqL.of h, hl, fun m hm hle => q _ _ (fun _ => .int _) (p m hm hle)⟩
theorem cbd_maxL : CbD C (rMax C.K) gMaxL := fun H vs xs Φ Q r ⟨ns, e, hl, p⟩ q => by
  subst e
  cases r with
  | cons h n =>
    cases n
    cases h with
    | lst h r =>
      have e := rpa_ints r
      subst e
      exact ⟨_, ns, rfl, SqL.of h, hl, fun m hm hle => q _ _ (fun _ => .int _) (p m hm hle)⟩
@[simp] def dTru (da : DE) : DT := fun δ Φ => da δ fun x => ∃ i : Int, x = .int i ∧ Φ (i != 0)
theorem smt_tru (ha : Sm C f1 ta da) : SmT C (fun σ H Q => ta σ H fun x H' => ∃ k, TruV C.K x H' k ∧ Q k H') (dTru da) := fun σ δ H0 H Φ Q s w q =>
  ha σ δ H0 H _ _ s w fun H01 H1 v x g1 r1 ⟨i, e, w1⟩ => by
    subst e
    cases r1
    exact ⟨_, rfl, q _ _ _ g1 w1⟩
end
/-! ### any and all of a list of booleans; the bits of a number -/
section
variable {C : Ctx} {f f1 f2 : Bool} {ta tb : TE} {da db : DE}
theorem rpa_bools {K : PySem.W.Frag} {H : Hp} : ∀ {vs : List V} {bs : List Bool}, RpA K H vs (bs.map .bool) → vs = bs.map V.bl
  | _, [], .nil => rfl
  | _, n :: ns, .cons h r => by
    cases h
    rw [rpa_bools r]
    rfl
@[simp] def gAnyL : List PyData → (PyData → Prop) → Prop := fun xs Φ => ∃ bs : List Bool, xs = [.list (bs.map .bool)] ∧ Φ (.bool (bs.any id))
@[simp] def gAllL : List PyData → (PyData → Prop) → Prop := fun xs Φ => ∃ bs : List Bool, xs = [.list (bs.map .bool)] ∧ Φ (.bool (bs.all id))
theorem cbd_any : CbD C (rAny C.K) gAnyL := fun H vs xs Φ Q r ⟨bs, e, p⟩ q => by
  subst e
  cases r with
  | cons h n =>
    cases n
    cases h with
    | lst h r =>
      have e := rpa_bools r
      subst e
      exact ⟨_, bs, rfl, SqL.of h, q _ _ (fun _ => .bl _) p⟩
theorem cbd_all : CbD C (rAll C.K) gAllL := fun H vs xs Φ Q r ⟨bs, e, p⟩ q => by
  subst e
  cases r with
  | cons h n =>
    cases n
    cases h with
    | lst h r =>
      have e := rpa_bools r
      subst e
      exact ⟨_, bs, rfl, SqL.of h, q _ _ (fun _ => .bl _) p⟩
theorem sm_bits (ha : Sm C f1 ta da) : Sm C f (fun σ H Q => ta σ H fun x H1 => ∃ i, x = V.int i ∧ Q (V.int (Builtin.Int.intBits i : Nat)) H1) (dUn (fun i => .int (Builtin.Int.intBits i : Nat)) da) := fun σ δ H0 H Φ Q s w q =>
  ha σ δ H0 H _ _ s w fun H01 H1 v x g1 r1 ⟨i, e, p⟩ => by
    subst e
    cases r1
    exact ⟨i, rfl, q H01 H1 _ _ g1 (.int _) p⟩
end
/-! ### a number or-ed, and-ed in place -/
theorem ip_orI {X : Cx} : PIp X .BitOr (ipI fun i j => Builtin.bitOr i j) := fun pins s σ H x y v u Q inv rx ry ⟨i, j, e1, e2, q⟩ => by
  subst e1 e2
  obtain ⟨t, rfl⟩ := rx
  obtain ⟨t', rfl⟩ := ry
  exact PyProof.Rows.ior_int ⟨.int _, H, inv.tok _, ⟨_, rfl⟩, q⟩
theorem ip_andI {X : Cx} : PIp X .BitAnd (ipI fun i j => Builtin.bitAnd i j) := fun pins s σ H x y v u Q inv rx ry ⟨i, j, e1, e2, q⟩ => by
  subst e1 e2
  obtain ⟨t, rfl⟩ := rx
  obtain ⟨t', rfl⟩ := ry
  exact PyProof.Rows.iand_int ⟨.int _, H, inv.tok _, ⟨_, rfl⟩, q⟩
/-! ### enumerate over a tuple -/
def IteT (K : PySem.W.Frag) (a : Addr) : It := { go := fun i H => ∃ xs x, SqT K H a xs ∧ xs[i]? = some x, yld := fun i H v H' => ∃ T x, v = .ref T ∧ H T = none ∧ H' = upd H T (.tup [.int (i : Int), x]) ∧ ∀ xs, SqT K H a xs → xs[i]? = some x, stop := fun i H => ∃ xs, SqT K H a xs ∧ xs.length = i }
theorem paired_len {α β : Type} {F : α → β → Prop} : ∀ {xs : List α} {ys : List β}, Paired F xs ys → xs.length = ys.length
  | _, _, .nil => rfl
  | _, _, .cons _ r => congrArg Nat.succ (paired_len r)
theorem turn_enumT {P : Program} {w : World} {K : PySem.W.Frag} {elts : List Expr} {kk : Nat} {tpos : Pos} (a e it : Addr) : Turn P w K (Expr.Tuple elts kk tpos) (IteT K a) [e, it] e fun i h => (∃ old, IsEnum h e it (i : Int) old) ∧ h.IsTupleIter it a i ∧ e ≠ it ∧ a ≠ it ∧ e ≠ a := by
  refine ⟨by simp, ?_, ?_, ?_, ?_, ?_⟩
  · rintro i h ⟨⟨old, h1⟩, ⟨o, h2, h3, h4⟩, _⟩ b hb
    simp at hb
    rcases hb with rfl | rfl
    · exact ⟨_, h1, fun v q => by cases q⟩
    · exact ⟨o, h2, fun v q => by rw [h4] at q; cases q⟩
  · rintro i h h' ⟨⟨old, h1⟩, ⟨o, h2, h3, h4⟩, h5⟩ hk
    exact ⟨⟨old, hk e (by simp) _ h1⟩, ⟨o, hk it (by simp) _ h2, h3, h4⟩, h5⟩
  · rintro X rfl rfl rfl hcalm i pins s σ H E inv fp ⟨⟨old, h1⟩, h2, n1, n2, n3⟩ ⟨xs, x, hx, hi⟩
    obtain ⟨its, hv, ht, hl⟩ := inv.tuple hx
    obtain ⟨u, hu, ru⟩ := hv.get hi
    have hlt : i < its.length := (List.getElem?_eq_some_iff.mp hu).1
    have h2b := h2
    obtain ⟨oi, hoi, _⟩ := h2b
    have le : e < s.heap.objs.size := Heap.lt_size h1
    have li : it < s.heap.objs.size := Heap.lt_size hoi
    refine wpAny_pyNext_enum_itemD (Draws.tuple (A := X.A.in1) (inv.ok.hd hcalm) it a n2 its.toArray) h1 ⟨h2, ht⟩ hlt n1 (by simp [n1, n3]) fun x' h' tk hp ho hst htup hsz hpres => ?_
    refine ⟨_, rfl, ?_⟩
    refine wpAny_letOwnedTupleGo_enum ho fun h'' hen hsame => ?_
    have hT : H s.heap.objs.size = none := inv.hok.fresh (Nat.le_refl _)
    have e1 : x' = u := by
      have : its[i]? = some x' := by simpa using hp
      rw [hu] at this
      exact (Option.some.inj this).symm
    subst e1
    have neT : s.heap.objs.size ≠ e := fun q => absurd le (by rw [← q]; exact Nat.lt_irrefl _)
    have niT : s.heap.objs.size ≠ it := fun q => absurd li (by rw [← q]; exact Nat.lt_irrefl _)
    refine ⟨.ref s.heap.objs.size, upd H s.heap.objs.size (.tup [.int (i : Int), x]), ?_, rfl, ⟨_, x, rfl, hT, rfl, fun ys hy => by rw [inv.tuple_inj hy hx]; exact hi⟩, ⟨⟨x', hen⟩, ?_, n1, n2, n3⟩, fun b hb => ?_⟩
    · refine Inv.turnedNew (s := s) (t' := tk + 1) (ch := [e, it]) inv (fun b o hb hg => ?_) fp (Nat.le_refl _) ?_
      · simp at hb
        rw [hsame.2 b hb.1]
        exact hpres b o hb.1 hb.2 hg
      · exact ⟨show 2 ≤ sizeLine by decide, [Value.int (i : Int) tk, x'], .cons ⟨tk, rfl⟩ (.cons ru .nil), _, (by rw [hsame.2 _ neT]; exact htup), rfl, _, rfl⟩
    · obtain ⟨o, o1, o2⟩ := hst.1
      exact ⟨o, by rw [hsame.2 it n1.symm]; exact o1, o2⟩
    · simp at hb
      rcases hb with rfl | rfl
      · rw [upd_ne neT.symm]; exact (fp b (by simp)).1
      · rw [upd_ne niT.symm]; exact (fp b (by simp)).1
  · rintro X rfl rfl rfl hcalm i pins s σ H E inv fp ⟨⟨old, h1⟩, h2, n1, n2, n3⟩ ⟨xs, hx, hi⟩
    obtain ⟨its, hv, ht, hl⟩ := inv.tuple hx
    have hn : its.toArray.size = i := by
      rw [List.size_toArray, ← paired_len hv]
      exact hi
    subst hn
    refine wpAny_pyNext_enum_endD (Draws.tuple (A := X.A.in1) (inv.ok.hd hcalm) it a n2 its.toArray) h1 ⟨h2, ht⟩ fun h' hext => ⟨rfl, ?_⟩
    obtain ⟨f1, f2, f3, f4, f5, f6⟩ := fp it (by simp)
    exact Inv.turned inv hext f1 f2 f4 f5 f6
  · rintro A i s Q E ⟨⟨old, h1⟩, h2⟩ hq
    exact wpAny_pyIter_enum h1 hq
theorem newc (v : Value) : Builtin.SmallTypes.newClass "enumerate" { pos := [Value.type "enumerate", v] } = pure (Value.type "enumerate", [v]) := by
  unfold Builtin.SmallTypes.newClass
  show (do let a ← isSubtype (Value.type "enumerate") (Value.type "enumerate"); _) = _
  rw [sub_enumerate]
  rfl
theorem wp_ite {M : Model} {A : Around} {α : Type} {E : Value → Shared → Prop} {s : Shared} {Q : α → Shared → Prop} {c : Prop} {d : Decidable c} {t u : Sem α} (h1 : wpAny M A t Q E s) (h2 : wpAny M A u Q E s) : wpAny M A (@ite _ c d t u) Q E s := by
  split
  · exact h1
  · exact h2
theorem wp_else {M : Model} {A : Around} {α : Type} {E : Value → Shared → Prop} {s : Shared} {Q : α → Shared → Prop} {c : Prop} {d : Decidable c} {t u : Sem α} (h : ¬ c) (h2 : wpAny M A u Q E s) : wpAny M A (@ite _ c d t u) Q E s := by
  rw [if_neg h]
  exact h2
theorem meets_enum1 {v : Value} {o : Obj} {H : Heap → Prop} (hb : Begins v o H) : Meets (Builtin.«enumerate.__new__» { pos := [Value.type "enumerate", v] }) (fun A R s => H s.heap ∧ R (.ok (.ret (Value.ref (s.heap.push o).objs.size))) { heap := (s.heap.push o).push { cls := Value.type "enumerate", data := Data.fields #[Value.none, Value.bool false, Value.ref s.heap.objs.size, rawInt 0, Value.none, Value.none] }, gens := s.gens, drawn := s.drawn, toks := s.toks, os := s.os }) := by
  refine Meets.of_wp fun prog w A R s h => ?_
  obtain ⟨hh, hr⟩ := h
  unfold Builtin.«enumerate.__new__»
  refine wpAny_bind ?_
  refine wpAny_of_eq (newc v) ?_
  dsimp only
  rw [if_pos (by decide)]
  refine wpAny_bind ?_
  unfold Builtin.SmallTypes.calledThroughType
  refine wpAny_bind ?_
  refine wpAny_stack_any fun st => ?_
  refine wpAny_pure ?_
  have fin : wpAny (model prog w) A.in1 (do
      let i ← pyIter v
      let r ← Builtin.SmallTypes.newRecord (Value.type "enumerate") (Builtin.SmallTypes.ownedTupleFields ++ [i, rawInt 0, Value.none, Value.none])
      ret r) (fun fin s' => ∃ v, fin = Fin.done (Flow.ret v) ∧ R (Except.ok (Flow.ret v)) s') (fun e s' => R (Except.error e) s') s := by
    refine wpAny_bind ?_
    refine hb.iter prog w A.in1 _ s _ hh ?_
    refine wpAny_bind ?_
    unfold Builtin.SmallTypes.newRecord
    dsimp only
    unfold newObj
    dsimp only
    refine wp_else (show ¬ 6 > sizeLine + 2 by decide) ?_
    unfold newObjAsIs
    refine wpAny_bind ?_
    refine wpAny_alloc' ?_
    refine wpAny_pure ?_
    exact wpAny_pure ⟨_, rfl, hr⟩
  refine wp_ite ?_ ?_
  · refine wpAny_bind ?_
    refine wpAny_of_eq (a := (v, none)) rfl ?_
    exact fin
  · refine wpAny_bind ?_
    refine wpAny_of_eq (a := (v, none)) rfl ?_
    exact fin

theorem call_enum1 {prog : Program} {w : World} {A : Around} {E : Value → Shared → Prop} {s : Shared} {v : Value} {o : Obj} {H : Heap → Prop} {Q : Value → Shared → Prop} (hb : Begins v o H) (hh : H s.heap)
    (hq : ∀ (h' : Heap), IsEnum h' (s.heap.objs.size + 1) s.heap.objs.size 0 Value.none → h'.get? s.heap.objs.size = some o → h'.objs.size = s.heap.objs.size + 2 → (∀ (b : Addr) (o : Obj), s.heap.get? b = some o → h'.get? b = some o) → Q (Value.ref (s.heap.objs.size + 1)) { heap := h', gens := s.gens, drawn := s.drawn, toks := s.toks, os := s.os }) :
    wpAny (model prog w) A (call (Value.type "enumerate") [v]) Q E s := by
  refine callType_new F.called_enumerate (by decide) (F.typeCall_enumerate_1 _) (F.newCall_enumerate_1 _) (fun obj => F.args_object_init_2 _ _) F.entry_enumerate_new (meets_enum1 hb) ⟨hh, ?_⟩
  have e1 : (s.heap.push o).objs.size = s.heap.objs.size + 1 := Heap.size_push _ _
  have g1 : (s.heap.push o).get? s.heap.objs.size = some o := Heap.get?_push_size _ hb.free
  have g2 := Heap.get?_push_size (s.heap.push o) (o := { cls := Value.type "enumerate", data := Data.fields #[Value.none, Value.bool false, Value.ref s.heap.objs.size, rawInt 0, Value.none, Value.none] }) rfl
  refine ⟨⟨_, g2, rfl⟩, ?_⟩
  rw [e1] at g2 ⊢
  refine hq _ g2 (Heap.get?_push_of_some _ g1) ?_ (fun b o' h => Heap.get?_push_of_some _ (Heap.get?_push_of_some _ h))
  rw [Heap.size_push, e1]

def iEnumT : PySem.W.Frag → TA → TI := fun K ta σ H R => ta σ H fun vs H1 => ∃ a xs, vs = [V.ref a] ∧ SqT K H1 a xs ∧ R (IteT K a) H1
theorem pi_enumT {X : Cx} {e : Expr} {ta : TA} {p pos tpos : Pos} {elts : List Expr} {kk : Nat} (hg : Gl X "enumerate") (hm : X.mg "enumerate" = none) (ha : PA X [e] ta) (hs : starEach [e] X.env = [(false, eval e X.env)] := by rfl) : PI X (Expr.Tuple elts kk tpos) ((Expr.Name "enumerate" p).Call [e] [] pos) (iEnumT X.K ta) := ⟨fun pins s σ H R inv h => by
  refine PyProof.Rows.Call_ (ld_blt inv hg hm PyProof.Rows.boot_enumerate ?_)
  refine PyProof.Rows.callWith_type1 (thn (ha.run pos pins s σ H _ inv h) fun us s1 ap => ?_) (by rw [hs]; rfl)
  obtain ⟨vs, H1, inv1, hv, a, xs, rfl, hx, hr⟩ := ap
  cases hv with
  | cons r n =>
    cases n
    obtain rfl := r
    obtain ⟨its, hv2, ht, hl⟩ := inv1.tuple hx
    have ht2 := ht
    obtain ⟨oa, hoa, _⟩ := ht2
    have la := Heap.lt_size hoa
    refine call_enum1 (begins_tuple a its.toArray) ht fun h' h1 h2 h3 h4 => ?_
    refine wpAny_pyIter_enum h1 ?_
    have na : a ≠ s1.heap.objs.size := fun q => absurd la (by rw [q]; exact Nat.lt_irrefl _)
    have ne : s1.heap.objs.size + 1 ≠ a := fun q => absurd la (by rw [← q]; exact Nat.not_lt.mpr (Nat.le_succ _))
    refine ⟨_, [s1.heap.objs.size + 1, s1.heap.objs.size], _, IteT X.K a, H1, rfl, inv1.kept (t' := s1.toks) h4, turn_enumT a (s1.heap.objs.size + 1) s1.heap.objs.size, ⟨⟨_, h1⟩, ⟨_, h2, rfl, rfl⟩, Nat.succ_ne_self _, na, ne⟩, fun b hb => ?_, hr⟩
    simp at hb
    have hle : s1.heap.objs.size ≤ b := by
      rcases hb with rfl | rfl
      · exact Nat.le_succ _
      · exact Nat.le_refl _
    exact inv1.fpOk hle (inv1.hok.fresh hle)⟩

section
variable {C : Ctx} {ta : TE} {da : DE}
@[simp] def iEnT (da : DE) : DI := fun δ Φ => da δ fun x => ∃ xs, x = .tuple xs ∧ Φ (enumD xs)
theorem smi_enumT (ha : Sm C true ta da) : SmI C (iEnumT C.K (tCons ta tNil)) (iEnT da) := fun σ δ H0 H Φ R s w q =>
  ha σ δ H0 H _ _ s w fun H01 H1 v x g1 r1 ⟨xs, e, p⟩ => by
    subst e
    cases r1 with
    | @tup a us _ h r =>
      refine ⟨a, us, rfl, same_t g1.wf.sub h, q _ _ _ _ g1 ⟨fun H0' H' i e w hi => ?_, fun H0' H' i e w hi => ?_, fun H0' H' i v H'' e w hi y => ?_⟩ p⟩
      · rw [enumD_len] at hi
        exact ⟨us, same_t w.sub (same_t e h), r.length.trans hi⟩
      · rw [enumD_len] at hi
        obtain ⟨y, hy⟩ := get_lt hi
        obtain ⟨v, h1, h2⟩ := r.get hy
        exact ⟨us, v, same_t w.sub (same_t e h), h1⟩
      · rw [enumD_len] at hi
        obtain ⟨T, z, rfl, hT, rfl, y⟩ := y
        have y := y us (same_t w.sub (same_t e h))
        obtain ⟨d, hd, rd⟩ := r.get' y
        obtain ⟨H0'', g, r2⟩ := tup_new w hT (.cons (.int (i : Int)) (.cons (rd.mono e) .nil))
        exact ⟨H0'', _, g, enumD_get hd, r2⟩
end
end VL

/-! More rules of the layer: texts by their letters, tuples added and cut, comprehensions with any target. -/
namespace VL
open PySem L2
theorem ofStr_inj_h {a b : String} (h : Str.ofString a = Str.ofString b) : a = b := by
  rw [Str.ofString_eq_toList, Str.ofString_eq_toList] at h
  have h1 := congrArg Str.cps h
  have h2 : a.toList.map Char.toNat = b.toList.map Char.toNat := by
    have := congrArg Array.toList h1
    simpa using this
  have h3 : a.toList = b.toList := by
    exact (List.map_inj_right (fun x y e => Char.ext (UInt32.toNat_inj.mp e))).mp h2
  exact String.toList_inj.mp h3
@[simp] theorem ofStr_inj (a b : String) : (Str.ofString a = Str.ofString b) = (a = b) := propext ⟨ofStr_inj_h, fun h => by rw [h]⟩
section
variable {C : Ctx} {f f1 f2 : Bool} {ta tb : TE} {da db : DE} {tl th : TO} {dl dh : DP}
/-! ### tuples added, a part of a tuple -/
theorem kx_catA {X : Cx} {K : PySem.W.Frag} (h : X.K = K) : OpR X (binaryOp .Add) (rCatA K) := by subst h; exact op_catA
theorem kx_slTA {X : Cx} {K : PySem.W.Frag} (h : X.K = K) : SlR X (rSlA K) := by subst h; exact sl_tupA
@[simp] def dCatA (da db : DE) : DE := fun δ Φ => da δ fun x => db δ fun y => ∃ xs ys, x = .tuple xs ∧ y = .tuple ys ∧ xs.length + ys.length ≤ sizeLine ∧ Φ (.tuple (xs ++ ys))
theorem sm_catA (ha : Sm C true ta da) (hb : Sm C true tb db) : Sm C f (tOp (rCatA C.K) ta tb) (dCatA da db) := fun σ δ H0 H Φ Q s w q =>
  ha σ δ H0 H _ _ s w fun H01 H1 v x g1 r1 w1 => hb σ δ H01 H1 _ _ (s.go g1) w1 fun H02 H2 u y g2 r2 ⟨xs, ys, e1, e2, e3, pp⟩ => by
    subst e1 e2
    have r3 := r1.mono g2.fz
    cases r3 with
    | @tup a1 us1 _ h r =>
      cases r2 with
      | @tup a2 us2 _ h' r' =>
        refine ⟨a1, a2, us1, us2, rfl, rfl, same_t g2.wf.sub h, same_t g2.wf.sub h', by rw [r.length, r'.length]; exact e3, fun z => ?_, fun z1 z2 => ?_, fun z1 z2 p hp => ?_⟩
        · subst z
          cases r
          exact q _ _ _ _ (g1.trans g2) (Rp.mono g2.wf.to (.tup h' r')) pp
        · subst z2
          cases r'
          rw [List.append_nil] at pp
          exact q _ _ _ _ (g1.trans g2) (Rp.mono g2.wf.to (.tup h r)) pp
        · have g3 := Go.new (o := .tup (us1 ++ us2)) g2.wf hp
          exact q _ _ _ _ ((g1.trans g2).trans g3) (Rp.mono g3.wf.to (.tup (SqT.of upd_same) ((r.append r').mono (Go.same_new (g2.wf.none hp))))) pp
theorem cutDt_whole {xs : List PyData} {lo hi : Option Int} (h : HT.sIx xs.length 0 lo = 0 ∧ HT.sIx xs.length xs.length hi = xs.length) : cutDt xs lo hi = xs := by
  unfold cutDt
  rw [h.1, h.2, List.drop_zero, Nat.sub_zero, List.take_length]
@[simp] def dSlT (da : DE) (dl dh : DP) : DE := fun δ Φ => da δ fun x => dl δ fun l => dh δ fun u => ∃ xs, x = .tuple xs ∧ Φ (.tuple (cutDt xs l u))
theorem sm_sl_tupA (ha : Sm C true ta da) (hl : SmP C tl dl) (hh : SmP C th dh) : Sm C f (tSl (rSlA C.K) ta tl th) (dSlT da dl dh) := fun σ δ H0 H Φ Q s w q =>
  ha σ δ H0 H _ _ s w fun H01 H1 v x g1 r1 w1 => hl σ δ H01 H1 _ _ (s.go g1) w1 fun H02 H2 l g2 w2 => hh σ δ H02 H2 _ _ ((s.go g1).go g2) w2 fun H03 H3 u g3 ⟨xs, e, p⟩ => by
    subst e
    have r3 := (r1.mono g2.fz).mono g3.fz
    cases r3 with
    | @tup a1 us1 _ h r =>
      have g123 := (g1.trans g2).trans g3
      refine ⟨a1, us1, rfl, same_t g3.wf.sub h, fun z => ?_, fun z p' hp => ?_⟩
      · rw [r.length] at z
        rw [cutDt_whole z] at p
        exact q _ _ _ _ g123 (Rp.mono g3.wf.to (.tup h r)) p
      · have g4 := Go.new (o := .tup (cutV us1 l u)) g3.wf hp
        exact q _ _ _ _ (g123.trans g4) (Rp.mono g4.wf.to (.tup (SqT.of upd_same) ((rpa_cut r l u).mono (Go.same_new (g3.wf.none hp))))) p
end
/-! ### comprehensions with any target of names -/
theorem wipe_set_out {σ : L2.St} {i : Nat} {x : Option V} : ∀ {vs : List Nat}, i ∉ vs → wipe (σ.set i x) vs = (wipe σ vs).set i x
  | [], _ => rfl
  | v :: vs, h => by
    rw [List.mem_cons, not_or] at h
    show (wipe (σ.set i x) vs).set v none = ((wipe σ vs).set v none).set i x
    rw [wipe_set_out h.2, List.set_comm _ _ h.1]
theorem wipe_set_in {σ : L2.St} {i : Nat} {x : Option V} : ∀ {vs : List Nat}, i ∈ vs → wipe (σ.set i x) vs = wipe σ vs
  | v :: vs, h => by
    show (wipe (σ.set i x) vs).set v none = (wipe σ vs).set v none
    by_cases k : i ∈ vs
    · rw [wipe_set_in k]
    · have e : i = v := by
        rcases List.mem_cons.mp h with h | h
        · exact h
        · exact absurd h k
      subst e
      rw [wipe_set_out k, List.set_set]
theorem wipe_wipe {σ : L2.St} : ∀ {vs : List Nat}, wipe (wipe σ vs) vs = wipe σ vs
  | [] => rfl
  | v :: vs => by
    show (wipe ((wipe σ vs).set v none) vs).set v none = (wipe σ vs).set v none
    by_cases k : v ∈ vs
    · rw [wipe_set_in k, wipe_wipe]
    · rw [wipe_set_out k, wipe_wipe, List.set_set]
def dwipe (δ : Dl) : List Nat → Dl
  | [] => δ
  | v :: vs => (dwipe δ vs).set v none
@[simp] theorem dwipe_nil (δ : Dl) : dwipe δ [] = δ := rfl
@[simp] theorem dwipe_cons (δ : Dl) (v : Nat) (vs : List Nat) : dwipe δ (v :: vs) = (dwipe δ vs).set v none := rfl
theorem St.wipe {C : Ctx} {H0 H : Hp} {σ : L2.St} {δ : Dl} (s : St C H0 H σ δ) : ∀ vs : List Nat, St C H0 H (L2.wipe σ vs) (dwipe δ vs)
  | [] => s
  | v :: vs => (St.wipe s vs).none v
def Kps (own : List Nat) (g : TG) : Prop := ∀ v σ H Q, g v σ H Q → g v σ H fun σ' H' => wipe σ' own = wipe σ own ∧ Q σ' H'
def KpsS (own : List Nat) (g : TGs) : Prop := ∀ v σ H Q, g v σ H Q → g v σ H fun σ' H' => wipe σ' own = wipe σ own ∧ Q σ' H'
theorem kps_name {own : List Nat} {i : Nat} (h : i ∈ own) : Kps own (gName i) := fun v σ H Q q => ⟨wipe_set_in h, q⟩
theorem kps_nil {own : List Nat} : KpsS own gNil := fun v σ H Q ⟨e, q⟩ => ⟨e, rfl, q⟩
theorem gcons_mono {t : TG} {u : TGs} {vs : List V} {σ : L2.St} {H : Hp} {Q : L2.St → Hp → Prop} : gCons t u vs σ H Q ↔ ∃ v r, vs = v :: r ∧ t v σ H fun σ' H' => u r σ' H' Q := Iff.rfl
theorem kps_cons {own : List Nat} {i : Nat} {gs : TGs} (h : i ∈ own) (k : KpsS own gs) : KpsS own (gCons (gName i) gs) := fun vs σ H Q ⟨v, r, e, q⟩ => by
  refine ⟨v, r, e, ?_⟩
  have := k r (σ.set i (some v)) H Q q
  rw [wipe_set_in h] at this
  exact this
theorem kps_tup {own : List Nat} {K : PySem.W.Frag} {n : Nat} {gs : TGs} (k : KpsS own gs) : Kps own (gTup K n gs) := fun v σ H Q ⟨a, xs, e, h, hl, q⟩ => ⟨a, xs, e, h, hl, k xs σ H Q q⟩
def oLcG (di : DI) (own : List Nat) (dg : DG) (dt : DT) (de : DE) : DO := fun δ Φ => di δ fun xs => ∃ I : Nat → List PyData → Prop, I 0 [] ∧
  (∀ k y acc, xs[k]? = some y → I k acc → dg y (dwipe δ own) fun δ' => dt δ' fun b => if b = true then de δ' fun z => acc.length < sizeLine ∧ I (k + 1) (acc ++ [z]) else I (k + 1) acc) ∧ ∀ acc, I xs.length acc → Φ acc
section
variable {C : Ctx} {te : TE} {de : DE} {tt : TT} {dt : DT} {g : TG} {dg : DG} {ti : TI} {di : DI}
theorem smo_lcG {own : List Nat} (hk : Kps own g) (hi : SmI C ti di) (hg : SmG C g dg) (ht : SmT C tt dt) (he : Sm C true te de) : SmO C (tLc ti g tt te own) (oLcG di own dg dt de) := fun σ δ H0 H Φ Q s w q =>
  hi σ δ H0 H _ _ s w fun H01 H1 J xs g1 wk ⟨I, i0, it, ie⟩ D hD => by
    have hD0 : H D = none := g1.fresh hD
    refine ⟨fun k m H' => m = xs.length - k ∧ k ≤ xs.length ∧ ∃ H0' us acc, Go C H01 H1 H0' H' ∧ H0' D = none ∧ H' D = some (.lst us) ∧ RpA C.K H0' us acc ∧ I k acc, ⟨_, rfl, Nat.zero_le _, H01, [], [], Go.free g1.wf hD, g1.wf.none hD, upd_same, .nil, i0⟩, ?_⟩
    rintro k m H' ⟨rfl, hk', H0', us, acc, g2, hn, hl, r, p⟩
    have nex : C.ex ≠ some D := (Go.he g1.wf hD).2
    by_cases hlt : k < xs.length
    · refine .inr ⟨wk.go H0' H' k g2.fz g2.wf hlt, fun H3 => ∃ H0' us acc, Go C H01 H1 H0' H3 ∧ H0' D = none ∧ H3 D = some (.lst us) ∧ RpA C.K H0' us acc ∧ I (k + 1) acc, fun H3 h => ⟨_, by omega, rfl, hlt, h⟩, fun v H'' y => ?_⟩
      obtain ⟨H02, z, g3, hz, rz⟩ := wk.yld H0' H' k v H'' g2.fz g2.wf hlt y
      have g23 := g2.trans g3
      have keep : ∀ {A B : Hp}, Go C H02 H'' A B → A D = none ∧ B D = some (.lst us) := fun {A B} gg => by
        have h1 : B D = some (.lst us) := gg.kp D _ nex (g3.kp D _ nex hl)
        refine ⟨?_, h1⟩
        cases e : A D with
        | none => rfl
        | some u =>
          rcases (g3.trans gg).nw D u e with h2 | h2
          · rw [hn] at h2; cases h2
          · rw [hl] at h2; cases h2
      have sw : St C H02 H'' (wipe σ own) (dwipe δ own) := (s.go ((g1.trans g2).trans g3)).wipe own
      have fin := hk v (wipe σ own) H'' _ (hg v z (wipe σ own) (dwipe δ own) H02 H'' _ (fun σ2 H2 => tt σ2 H2 fun b H3 => if b = true then te σ2 H3 fun y H4 => ∃ acc, H4 D = some (.lst acc) ∧ acc.length < sizeLine ∧ ∃ H0' us acc', Go C H01 H1 H0' (upd H4 D (.lst (acc ++ [y]))) ∧ H0' D = none ∧ (upd H4 D (.lst (acc ++ [y]))) D = some (.lst us) ∧ RpA C.K H0' us acc' ∧ I (k + 1) acc' else ∃ H0' us acc, Go C H01 H1 H0' H3 ∧ H0' D = none ∧ H3 D = some (.lst us) ∧ RpA C.K H0' us acc ∧ I (k + 1) acc) sw rz (it k z acc hz p) fun σ2 δ2 s2 w2 => ?_)
      · rw [wipe_wipe] at fin
        exact fin
      · refine ht _ _ H02 H'' _ _ s2 w2 fun H04 H4 b g4 w4 => ?_
        cases b with
        | false => exact iteF ⟨H04, us, acc, g23.trans g4, (keep g4).1, (keep g4).2, r.mono (g3.fz.trans g4.fz), by simpa using w4⟩
        | true =>
          refine iteT (he _ _ H04 H4 (fun z => acc.length < sizeLine ∧ I (k + 1) (acc ++ [z])) _ (s2.go g4) (by simpa using w4) fun H05 H5 y' z' g5 r5 ⟨w5, p5⟩ => ?_)
          have k5 := keep (g4.trans g5)
          refine ⟨us, k5.2, by rw [r.length]; exact w5, H05, us ++ [y'], acc ++ [z'], ?_, k5.1, upd_same, (r.mono (g3.fz.trans (g4.fz.trans g5.fz))).snoc r5, p5⟩
          have gg := (g23.trans g4).trans g5
          refine ⟨⟨fun b u e => ?_, fun b u n e => ?_, gg.wf.fz, gg.wf.nw, fun c e => ?_⟩, gg.fz, fun b u n e => ?_, gg.nw⟩
          · rw [upd_ne (fun z => by rw [z, k5.1] at e; cases e)]; exact gg.wf.sub b u e
          · rw [upd_ne (fun z => by rw [z, (Go.he g1.wf hD).1] at e; cases e)]; exact gg.wf.kp b u n e
          · exact (gg.wf.dr c e).keep (Same.refl _) (gg.wf.dr c e).no (upd_ne (fun z => nex (by rw [← z]; exact e)))
          · rw [upd_ne (fun z => by rw [z, hD] at e; cases e)]; exact gg.kp b u n e
    · have hk' : k = xs.length := by omega
      refine .inl ⟨wk.stop H0' H' k g2.fz g2.wf (by omega), q H0' H' D us acc (g1.trans g2) hD0 hn hl r (ie acc (hk' ▸ p))⟩
end
/-! ### loops by an invariant, their bodies untouched -/
theorem dFor_n {da : DE} {i : Nat} {db : DS} {E : DEnds} {δ : Dl} {n : Nat} (hn : n < 4611686018427387904) (h : ∀ Ψ : PyData → Prop, Ψ (.int n) → da δ Ψ) (I : Nat → Dl → Prop) (h0 : I 0 δ)
    (hs : ∀ (k : Nat) (δ' : Dl), k < n → I k δ' → db { E with nx := I (k + 1), ct := I (k + 1), bk := E.nx } (δ'.set i (some (.d (.int k))))) (he : ∀ δ', I n δ' → E.nx δ') : dFor (iR1 da) (dgName i) db E δ := by
  unfold dFor
  refine h _ ⟨n, rfl, by omega, by omega, I, h0, fun k y δ' hy hI => ?_, fun δ' hI => ?_⟩
  · obtain ⟨hk, rfl⟩ := rng_get hy
    have := hs k δ' hk hI
    rw [show (k : Int) = 0 + (k : Int) from (Int.zero_add _).symm] at this
    exact this
  · rw [rng_len] at hI
    exact he δ' hI
theorem dFor_w {di : DI} {dg : DG} {db : DS} {E : DEnds} {δ : Dl} {xs : List PyData} (h : ∀ Ψ : List PyData → Prop, Ψ xs → di δ Ψ) (I : Nat → Dl → Prop) (h0 : I 0 δ)
    (hs : ∀ (k : Nat) (y : PyData) (δ' : Dl), xs[k]? = some y → I k δ' → dg y δ' fun δ'' => db { E with nx := I (k + 1), ct := I (k + 1), bk := E.nx } δ'') (he : ∀ δ', I xs.length δ' → E.nx δ') : dFor di dg db E δ := by
  unfold dFor
  exact h _ ⟨I, h0, hs, he⟩
/-! ### side conditions that numbers settle -/
theorem le_size {n : Nat} (h : n ≤ 1000000) : (n ≤ sizeLine) = True := eq_true (Nat.le_trans h (by decide))
theorem lt_size {n : Nat} (h : n ≤ 1000000) : (n < sizeLine) = True := eq_true (Nat.lt_of_le_of_lt h (by decide))
theorem cmul_l {i j : Int} (h0 : -1000000000000000000 < i) (h1 : i < 1000000000000000000) : CMul i j = True := eq_true (.inl ⟨by omega, by omega⟩)
theorem cpow_l {i j : Int} (h0 : 0 ≤ j) (h1 : j ≤ 1000) (h2 : -1000000 ≤ i) (h3 : i ≤ 1000000) : CPow i j = True := eq_true ⟨h0, by omega, by omega⟩
theorem cdiv_l {i j : Int} (h0 : 0 < j) (h1 : j ≤ 18446744073709551616) : CDivW i j = True := eq_true ⟨h0, Nat.lt_of_lt_of_le (PySem.Flt.log2_lt_of (k := 65) (by decide) (by omega)) (by decide)⟩
@[simp] theorem own_ex2 {α β : Type} {a0 : α} {xs0 : β} {P : α → β → Prop} : (∃ a xs, (a0 = a ∧ xs = xs0) ∧ P a xs) ↔ P a0 xs0 := ⟨fun ⟨_, _, ⟨e1, e2⟩, h⟩ => by subst e1 e2; exact h, fun h => ⟨_, _, ⟨rfl, rfl⟩, h⟩⟩
/-- a statement at a time: what follows is a letter -/
theorem seq_op {d1 d2 : DS} {E : DEnds} {δ : Dl} (h : ∀ N : Dl → Prop, (∀ δ', d2 E δ' → N δ') → d1 { E with nx := N } δ) : dSeq d1 d2 E δ := h _ fun _ h => h
end VL

/-! max of a list of numbers, with a default. -/
namespace VL
open PySem L2
def rMaxD (K : PySem.W.Frag) : List V → List V → Hp → VK → Prop := fun xs zs H Q => ∃ (a : Addr) (ns : List Int) (d : Int), xs = [V.ref a] ∧ zs = [V.int d] ∧ SqL K H a (ns.map V.int) ∧ (ns = [] → Q (V.int d) H) ∧ ∀ m ∈ ns, (∀ y ∈ ns, y ≤ m) → Q (V.int m) H
theorem reads_ints {h : Heap} : ∀ {us : List Value} {ns : List Int}, PyProof.Rows.IntsAre us ns → ReadsAll h us (ns.map .int) []
  | _, _, .nil => .nil
  | _, _, .cons n t r => .cons (.int n t) (reads_ints r)
theorem foldl_max (n : Int) : ∀ ns : List Int, ns.foldl max n ∈ n :: ns ∧ ∀ y ∈ n :: ns, y ≤ ns.foldl max n := by
  intro ns
  induction ns generalizing n with
  | nil => exact ⟨List.mem_cons_self, fun y hy => by rw [List.mem_singleton.mp hy]; exact Int.le_refl _⟩
  | cons k r ih =>
    obtain ⟨h1, h2⟩ := ih (max n k)
    rw [List.foldl_cons]
    refine ⟨?_, fun y hy => ?_⟩
    · rcases List.mem_cons.mp h1 with h1 | h1
      · rw [h1]
        by_cases c : n ≤ k
        · rw [Int.max_eq_right c]; simp
        · rw [Int.max_eq_left (by omega)]; simp
      · simp [h1]
    · have hm := h2 (max n k) List.mem_cons_self
      rcases List.mem_cons.mp hy with rfl | hy
      · omega
      · rcases List.mem_cons.mp hy with rfl | hy
        · omega
        · exact h2 y (List.mem_cons_of_mem _ hy)
theorem crk_maxD {X : Cx} (hc : X.calm = true) (hu : X.A.units + 1 < cLine) : CallRK X (.builtin "max") ["default"] (rMaxD X.K) := by
  intro pins s σ H xs zs us ws Q I r1 r2 h
  obtain ⟨a, ns, d, rfl, rfl, hs, q0, q1⟩ := h
  obtain ⟨its, rv, hl, _⟩ := I.list hs
  rw [Vals.ref1 r1]
  cases r2 with
  | cons rd rn =>
    cases rn
    obtain ⟨t, rfl⟩ := rd
    have hi := rv.ints
    refine PySem.W.max_list_default (I.ok.hd hc) hl.isList (reads_ints hi) ⟨?_, ?_⟩ ?_ ?_ ?_
    · intro x hx y hy
      obtain ⟨i, _, rfl⟩ := List.mem_map.mp hx
      obtain ⟨j, _, rfl⟩ := List.mem_map.mp hy
      rfl
    · intro x hx
      obtain ⟨i, _, rfl⟩ := List.mem_map.mp hx
      intro z
      cases z
    · rw [depth_ints]
      exact hu
    · intro e h' tk hk
      exact ⟨.int _, H, I.kept hk, ⟨_, rfl⟩, q0 (List.map_eq_nil_iff.mp e)⟩
    · intro y ys i v h' tk bs e hv hr hk
      cases ns with
      | nil => cases e
      | cons n ns =>
        cases e
        rw [PySem.W.maxD_ints] at hr
        cases hr
        obtain ⟨m1, m2⟩ := foldl_max n ns
        exact ⟨.int _, H, I.kept hk, ⟨_, rfl⟩, q1 _ m1 m2⟩
theorem kx_maxD {X : Cx} {K : PySem.W.Frag} (h : X.K = K) (hc : X.calm = true) (hu : X.A.units + 1 < cLine) : CallRK X (.builtin "max") ["default"] (rMaxD K) := by subst h; exact crk_maxD hc hu
section
variable {C : Ctx} {f f1 f2 : Bool} {ta tb : TE} {da db : DE}
@[simp] def dMaxD (da db : DE) : DE := fun δ Φ => da δ fun x => db δ fun y => ∃ (ns : List Int) (d : Int), x = .list (ns.map .int) ∧ y = .int d ∧ (ns = [] → Φ (.int d)) ∧ ∀ m ∈ ns, (∀ y ∈ ns, y ≤ m) → Φ (.int m)
theorem sm_maxD (ha : Sm C f1 ta da) (hb : Sm C f2 tb db) : Sm C f (tCKw (rMaxD C.K) (tCons ta tNil) (tCons tb tNil)) (dMaxD da db) := fun σ δ H0 H Φ Q s w q =>
  ha σ δ H0 H _ _ s w fun H01 H1 v x g1 r1 w1 => hb σ δ H01 H1 _ _ (s.go g1) w1 fun H02 H2 u y g2 r2 ⟨ns, d, e1, e2, q0, q1⟩ => by
    subst e1 e2
    have r3 := r1.mono g2.loc
    cases r3 with
    | lst h r =>
      have e := rpa_ints r
      subst e
      cases r2
      exact ⟨_, ns, d, rfl, rfl, SqL.of (g2.wf.loc _ _ h), fun e => q _ _ _ _ (g1.trans g2) (.int _) (q0 e), fun m m1 m2 => q _ _ _ _ (g1.trans g2) (.int _) (q1 m m1 m2)⟩
end
end VL
namespace VL
open PySem L2
/-! ### a written tuple of the program's top -/
def KTu (K : PySem.W.Frag) (a : Addr) (ds : List PyData) : Prop := ∃ xs : List V, (∃ (o : Obj) (its : Array Value) (n : Nat), K.lookup a = some o ∧ o.cls = .type "tuple" ∧ o.data = .seq its n ∧ its.size ≤ sizeLine ∧ Vals xs its.toList) ∧ ∀ H, RpA K H xs ds
/-- scalar items as values -/
inductive PaiV : List Value → List PyData → Prop
  | nil : PaiV [] []
  | cons {v : Value} {d : PyData} {vs : List Value} {ds : List PyData} (h : (∃ x : V, RelV x v ∧ isScalV x = some d)) (r : PaiV vs ds) : PaiV (v :: vs) (d :: ds)
theorem PaiV.n : ∃ x : V, RelV x Value.none ∧ isScalV x = some .none := ⟨.non, rfl, rfl⟩
theorem PaiV.b {k : Bool} : ∃ x : V, RelV x (Value.bool k) ∧ isScalV x = some (.bool k) := ⟨.bl k, rfl, rfl⟩
theorem PaiV.i {k : Int} {t : Tok} : ∃ x : V, RelV x (Value.int k t) ∧ isScalV x = some (.int k) := ⟨.int k, ⟨t, rfl⟩, rfl⟩
theorem PaiV.s {k : Str} {t : Tok} : ∃ x : V, RelV x (Value.str k t) ∧ isScalV x = some (.str k) := ⟨.str k, ⟨t, rfl⟩, rfl⟩
theorem PaiV.vals {K : PySem.W.Frag} : ∀ {vs : List Value} {ds : List PyData}, PaiV vs ds → ∃ xs : List V, Vals xs vs ∧ ∀ H, RpA K H xs ds
  | _, _, .nil => ⟨[], .nil, fun _ => .nil⟩
  | _, _, .cons ⟨x, h1, h2⟩ r => by
    obtain ⟨xs, k1, k2⟩ := PaiV.vals (K := K) r
    exact ⟨x :: xs, .cons h1 k1, fun H => .cons (isScal_rp h2 H) (k2 H)⟩
theorem KTu.mk {K : PySem.W.Frag} {a : Addr} {ds : List PyData} {o : Obj} {its : Array Value} {n : Nat} {vs : List Value} (h : K.lookup a = some o) (hc : o.cls = .type "tuple") (hd : o.data = .seq its n) (hi : its.toList = vs) (hl : vs.length ≤ 100) (p : PaiV vs ds) : KTu K a ds := by
  obtain ⟨xs, k1, k2⟩ := p.vals (K := K)
  refine ⟨xs, ⟨o, its, n, h, hc, hd, ?_, by rw [hi]; exact k1⟩, k2⟩
  rw [← Array.length_toList, hi]
  exact Nat.le_trans hl (by decide)
theorem sm_globT {C : Ctx} {f : Bool} {a : Addr} {ds : List PyData} {v : V} (hv : v = .ref a) (h : KTu C.K a ds) : Sm C f (tC v) (dC (.tuple ds)) := fun σ δ H0 H Φ Q s p q => by
  obtain ⟨xs, h1, h2⟩ := h
  subst hv
  exact q H0 H _ _ (.refl s.toWf) (.tup (.inr h1) (h2 _)) p
end VL
namespace VL
open PySem L2
section
variable {C : Ctx} {te : TE} {de : DE}
/-- xs.extend(ys), xs an owned list -/
@[simp] def dExt (i : Nat) (de : DE) : DS := fun E δ => ∃ a xs, δ[i]? = some (some (.own a xs)) ∧ de δ fun x => ∃ ys, x = .list ys ∧ xs.length + ys.length ≤ sizeLine ∧ E.nx (δ.set i (some (.own a (xs ++ ys))))
theorem sms_ext (i : Nat) (h : Sm C true te de) : SmS C (tDrop (tBM C.K "list" rExtend (tVar i) (tCons te tNil))) (dExt i de) := fun σ δ H0 H E D s ⟨a0, xs0, e0, w⟩ e => by
  obtain ⟨v, e1, rfl, h1, h2, h3, vs, h4, h5⟩ := s.sl i _ e0
  refine ⟨_, e1, .inl ⟨rfl, vs, SqL.of h4⟩, h σ δ H0 H _ _ s w fun H0' H' y x g1 r ⟨ys, ex, hl, p⟩ => ?_⟩
  subst ex
  have s1 := s.go g1
  obtain ⟨v', f1, f2, f3, f4, f5, us, f6, f7⟩ := s1.sl i _ e0
  cases r with
  | @lst b zs _ hb rb =>
    exact ⟨a0, b, us, zs, rfl, rfl, f6, g1.wf.sub _ _ hb, by rw [f7.length, rb.length]; exact hl, e.nx H0' _ σ _ g1.fz (s1.write i e0 (f7.append rb)) p⟩
end
end VL
namespace VL
open PySem L2
theorem oLcG_map {di : DI} {own : List Nat} {dg : DG} {de : DE} {δ : Dl} {Φ : List PyData → Prop} {xs : List PyData} (F : PyData → PyData) (hn : xs.length < 1000000) (h : ∀ Ψ : List PyData → Prop, Ψ xs → di δ Ψ)
    (hs : ∀ (k : Nat) (y : PyData) (Ψ : PyData → Prop), xs[k]? = some y → Ψ (F y) → dg y (dwipe δ own) fun δ' => de δ' Ψ) (hΦ : Φ (xs.map F)) : oLcG di own dg dYes de δ Φ := by
  unfold oLcG
  refine h _ ⟨fun k acc => acc = (xs.take k).map F, by simp, fun k y acc hy ha => ?_, fun acc ha => ?_⟩
  · subst ha
    have hk := (List.getElem?_eq_some_iff.mp hy).1
    refine hs k y _ hy ⟨?_, ?_⟩
    · rw [List.length_map, List.length_take]
      exact Nat.lt_of_lt_of_le (show min k xs.length < 1000000 by omega) (by decide)
    · show (xs.take k).map F ++ [F y] = (xs.take (k + 1)).map F
      rw [List.take_add_one, hy, List.map_append]
      rfl
  · subst ha
    rw [List.take_length]
    exact hΦ
end VL

/-! Texts put together: f'..', zip of two tuples. -/
namespace VL
open PySem L2 RZ
section
variable {C : Ctx} {f f1 f2 : Bool} {te ta tb : TE} {de da db : DE}
@[simp] def dFmt (da : DE) : DE := fun δ Φ => da δ fun x => match x with
  | .str y => y.length ≤ sizeLine ∧ Φ (.str y)
  | .int i => i.natAbs.log2 < 1920 ∧ Φ (.str (toString i))
  | _ => False
theorem sm_fmt (ha : Sm C f1 ta da) : Sm C f (tFmt ta) (dFmt da) := fun σ δ H0 H Φ Q s w q =>
  ha σ δ H0 H _ _ s w fun H01 H1 v x g1 r1 w1 => by
    cases r1 with
    | str y => exact .inl ⟨y, rfl, w1.1, q _ _ _ _ g1 (.str _) w1.2⟩
    | int i => exact .inr ⟨i, rfl, w1.1, q _ _ _ _ g1 (.str _) w1.2⟩
    | _ => exact w1.elim
def dJs : List DE → Str → Dl → (Str → Prop) → Prop
  | [], acc, _, Φ => Φ acc
  | d :: ds, acc, δ, Φ => d δ fun x => ∃ y : Str, x = .str y ∧ (acc ++ y).length ≤ sizeLine ∧ dJs ds (acc ++ y) δ Φ
@[simp] theorem dJs_nil (acc : Str) (δ : Dl) (Φ : Str → Prop) : dJs [] acc δ Φ = Φ acc := rfl
@[simp] theorem dJs_cons (d : DE) (ds : List DE) (acc : Str) (δ : Dl) (Φ : Str → Prop) : dJs (d :: ds) acc δ Φ = d δ fun x => ∃ y : Str, x = .str y ∧ (acc ++ y).length ≤ sizeLine ∧ dJs ds (acc ++ y) δ Φ := rfl
@[simp] def dJoined (ds : List DE) : DE := fun δ Φ => dJs ds Str.empty δ fun out => Φ (.str out)
inductive SmJ (C : Ctx) : List TE → List DE → Prop
  | nil : SmJ C [] []
  | cons {te : TE} {de : DE} {ts : List TE} {ds : List DE} (h : Sm C false te de) (r : SmJ C ts ds) : SmJ C (te :: ts) (de :: ds)
theorem smj_run {ts : List TE} {ds : List DE} (h : SmJ C ts ds) : ∀ (acc : Str) (σ : L2.St) (δ : Dl) (H0 H : Hp) (Φ : Str → Prop) (Q : Str → Hp → Prop), St C H0 H σ δ → dJs ds acc δ Φ → (∀ H0' H' out, Go C H0 H H0' H' → Φ out → Q out H') → tJs ts acc σ H Q := by
  induction h with
  | nil => exact fun acc σ δ H0 H Φ Q s w q => q H0 H acc (.refl s.toWf) w
  | cons h r ih =>
    intro acc σ δ H0 H Φ Q s w q
    refine h σ δ H0 H _ _ s w fun H01 H1 v x g1 r1 ⟨y, e, hl, w1⟩ => ?_
    subst e
    cases r1
    exact ⟨y, rfl, hl, ih (acc ++ y) σ δ H01 H1 Φ Q (s.go g1) w1 fun H02 H2 out g2 p => q _ _ _ (g1.trans g2) p⟩
theorem sm_joined {ts : List TE} {ds : List DE} (h : SmJ C ts ds) : Sm C f (fun σ H Q => tJs ts Str.empty σ H fun out H1 => Q (.str out) H1) (dJoined ds) := fun σ δ H0 H Φ Q s w q =>
  smj_run h Str.empty σ δ H0 H _ _ s w fun H0' H' out g p => q _ _ _ _ g (.str _) p
/-- zip of two tuples -/
@[simp] def iZpT (da db : DE) : DI := fun δ Φ => da δ fun x => db δ fun y => ∃ xs ys, x = .tuple xs ∧ y = .tuple ys ∧ Φ (zipD xs ys)
theorem smi_zipT (ha : Sm C true ta da) (hb : Sm C true tb db) : SmI C (iZipA C.K (tCons ta (tCons tb tNil))) (iZpT da db) := fun σ δ H0 H Φ R s w q =>
  ha σ δ H0 H _ _ s w fun H01 H1 v x g1 r1 w1 => hb σ δ H01 H1 _ _ (s.go g1) w1 fun H02 H2 u y g2 r2 ⟨xs, ys, e1, e2, p⟩ => by
    subst e1 e2
    have r3 := r1.mono g2.fz
    cases r3 with
    | @tup a us _ h r =>
      cases r2 with
      | @tup b ws _ h' r' =>
        refine ⟨a, b, us, ws, rfl, .inr ⟨same_t g2.wf.sub h, same_t g2.wf.sub h', q _ _ _ _ (g1.trans g2) ⟨fun H0' H' i e w hi0 => have hi := Nat.le_of_eq hi0; ?_, fun H0' H' i e w hi => ?_, fun H0' H' i v H'' e w hi y => ?_⟩ p⟩⟩
        · unfold zipD at hi
          rw [List.length_zipWith] at hi
          refine ⟨us, ws, same_t w.sub (same_t e h), same_t w.sub (same_t e h'), ?_⟩
          rw [r.length, r'.length]
          omega
        · unfold zipD at hi
          rw [List.length_zipWith] at hi
          obtain ⟨y1, hy1⟩ := get_lt (show i < xs.length by omega)
          obtain ⟨v1, h1, _⟩ := r.get hy1
          obtain ⟨y2, hy2⟩ := get_lt (show i < ys.length by omega)
          obtain ⟨v2, h2, _⟩ := r'.get hy2
          exact ⟨us, ws, v1, v2, same_t w.sub (same_t e h), same_t w.sub (same_t e h'), h1, h2⟩
        · obtain ⟨T, x1, x2, rfl, hT, rfl, y1, y2⟩ := y
          have y1 := y1 us (same_t w.sub (same_t e h))
          have y2 := y2 ws (same_t w.sub (same_t e h'))
          obtain ⟨d1, hd1, rd1⟩ := r.get' y1
          obtain ⟨d2, hd2, rd2⟩ := r'.get' y2
          obtain ⟨H0'', g, r2⟩ := tup_new w hT (.cons (rd1.mono e) (.cons (Rp.mono e rd2) .nil))
          refine ⟨H0'', _, g, ?_, r2⟩
          unfold zipD
          rw [List.getElem?_zipWith, hd1, hd2]
end
/-! ### texts of numbers, their lengths -/
theorem len_app (a b : Str) : (a ++ b).length = a.length + b.length := by
  show (a.cps ++ b.cps).size = _
  rw [Array.size_append]
  rfl
theorem len_lit (s : String) : (Str.ofString s).length = s.length := PyProof.Rows.ofString_len s
theorem len_nat {v : Int} (h0 : 0 ≤ v) (h : v < 100000000000000000000) : (Str.ofString (toString v)).length ≤ 20 := PyProof.Rows.toString_length_le (k := 20) h0 (by decide) (by simpa using h)
theorem neg_str {n : Nat} : toString (-((n + 1 : Nat) : Int)) = "-" ++ toString ((n + 1 : Nat) : Int) := rfl
theorem len_int {v : Int} (h0 : -(100000000000000000000) < v) (h : v < 100000000000000000000) : (Str.ofString (toString v)).length ≤ 21 := by
  by_cases c : 0 ≤ v
  · have := len_nat c h
    omega
  · obtain ⟨n, rfl⟩ : ∃ n : Nat, v = -((n + 1 : Nat) : Int) := ⟨(-v - 1).toNat, by omega⟩
    rw [neg_str, len_lit, String.length_append]
    have h2 := len_nat (v := ((n + 1 : Nat) : Int)) (by omega) (by omega)
    rw [len_lit] at h2
    have : "-".length = 1 := rfl
    omega
theorem log_int {v : Int} (h0 : -(100000000000000000000) < v) (h : v < 100000000000000000000) : v.natAbs.log2 < 1920 := by
  have : v.natAbs < 2 ^ 70 := by omega
  exact Nat.lt_of_lt_of_le (PySem.Flt.log2_lt_of (k := 70) (by decide) this) (by decide)
end VL
namespace VL
open PySem L2
theorem oLc_of {α : Type} {di : DI} {i : Nat} {de : DE} {δ : Dl} {Φ : List PyData → Prop} (xs : List α) (D G : α → PyData) (hn : xs.length < 1000000) (h : ∀ Ψ : List PyData → Prop, Ψ (xs.map D) → di δ Ψ)
    (hs : ∀ (k : Nat) (a : α) (Ψ : PyData → Prop), xs[k]? = some a → Ψ (G a) → de (δ.set i (some (.d (D a)))) Ψ) (hΦ : Φ (xs.map G)) : oLc di i dYes de δ Φ := by
  unfold oLc
  refine h _ ⟨fun k acc => acc = (xs.take k).map G, by simp, fun k y acc hy ha => ?_, fun acc ha => ?_⟩
  · subst ha
    rw [List.getElem?_map] at hy
    obtain ⟨a, ha, rfl⟩ := Option.map_eq_some_iff.mp hy
    unfold dYes
    dsimp only
    rw [if_pos rfl]
    have hk := (List.getElem?_eq_some_iff.mp ha).1
    refine hs k a _ ha ⟨?_, ?_⟩
    · rw [List.length_map, List.length_take]
      exact Nat.lt_of_lt_of_le (show min k xs.length < 1000000 by omega) (by decide)
    · show (xs.take k).map G ++ [G a] = (xs.take (k + 1)).map G
      rw [List.take_add_one, ha, List.map_append]
      rfl
  · subst ha
    rw [List.length_map, List.take_length]
    exact hΦ
end VL

/-! A slot that holds a def; a list extended with a tuple. -/
namespace VL
open PySem L2
open PySem.AutoSeq1 in
theorem list_extend_tup (l : Addr) (items : Array Value) (n : Nat) (b : Addr) (items2 : Array Value) (n2 : Nat) (c2 : Value) (dd : Option Addr) (sl : Array (Option Value)) (hc : c2 = .type "tuple") (hs0 : ¬(!items.isEmpty && Builtin.List.listTooLong (items.size + items2.size)) = true) (hs1 : items.size ≤ sizeLine) (hs2 : items.size + items2.size ≤ sizeLine + 1) :
    Meets (Builtin.«list.extend» ⟨[.ref l, .ref b], []⟩) (fun _ R s => s.heap.get? l = some { cls := .type "list", dict := none, data := .seq items n, slots := #[] } ∧ s.heap.get? b = some { cls := c2, dict := dd, data := .seq items2 n2, slots := sl } ∧ R (.ok (.ret Value.none)) { s with heap := s.heap.update l (Obj.mapSeq fun x => x ++ items2), toks := s.toks }) := by
  subst hc
  exact .of_wp fun prog w A R s h => by
    obtain ⟨hp, g, d, tk, os⟩ := s; obtain ⟨hl, hb, h⟩ := h; have f1 := idx_int; have f2 := sub_tuple_tuple; have f3 := sub_list_list; have f4 := sub_tuple_list; have f5 := sub_list_tuple;
    have hz' : (items ++ items2).size ≤ sizeLine + 1 := by rw [Array.size_append]; exact hs2
    wp_walk using (wpAny_updateSeq hl rfl (hz := hs1) (_hz' := hz')), wpAny_loadPart' hl, wpAny_loadPart' hb; exact ⟨_, rfl, h⟩
def rExtT (K : PySem.W.Frag) : V → List V → Hp → VK → Prop := fun x vs H Q => ∃ l b xs zs, x = .ref l ∧ vs = [.ref b] ∧ H l = some (.lst xs) ∧ SqT K H b zs ∧ xs.length + zs.length ≤ sizeLine ∧ Q .non (upd H l (.lst (xs ++ zs)))
theorem mt_extT {X : Cx} : MtM X "list.extend" (rExtT X.K) := by
  intro pins s σ H x vs v us Q I rx rv h
  obtain ⟨l, b, xs, zs, rfl, rfl, hH, hB, hz, q⟩ := h
  cases rx
  obtain ⟨u, rfl, ru⟩ := rv.one
  cases ru
  obtain ⟨z, its, n, r, hl, e⟩ := I.lstM hH
  obtain ⟨its2, r2, ⟨o, e2, hc, n2, hd⟩, z2⟩ := I.tuple hB
  obtain ⟨c2, dd, da, sl⟩ := o
  simp only at hc hd
  subst hd
  have hl2 := r2.length
  have hsz : its.toArray.size + its2.toArray.size ≤ sizeLine := by rw [List.size_toArray, List.size_toArray]; omega
  have hlong : ¬ (!its.toArray.isEmpty && Builtin.List.listTooLong (its.toArray.size + its2.toArray.size)) = true := by
    rw [notLongL hsz, Bool.and_false]
    exact Bool.false_ne_true
  refine call_meets F.slot_list_extend ⟨_, e, rfl⟩ F.entry_list_extend (F.args_list_extend_2 _ _)
    (list_extend_tup l its.toArray n b its2.toArray n2 c2 dd sl hc hlong (by rw [List.size_toArray]; omega) (by omega)) ⟨e, e2, ?_⟩
  refine ⟨.non, _, I.lset (its' := its ++ its2) hH e (by simp) (r.append r2) ?_, rfl, q⟩
  rw [List.length_append]
  omega
theorem kx_extT {X : Cx} {K : PySem.W.Frag} (h : X.K = K) : MtM X "list.extend" (rExtT K) := by subst h; exact mt_extT
section
variable {C : Ctx} {te : TE} {de : DE} {tas : TA} {dqs : DR} {f : Bool}
/-- xs.extend(ys), xs an owned list, ys a tuple -/
@[simp] def dExtT (i : Nat) (de : DE) : DS := fun E δ => ∃ a xs, δ[i]? = some (some (.own a xs)) ∧ de δ fun x => ∃ ys, x = .tuple ys ∧ xs.length + ys.length ≤ sizeLine ∧ E.nx (δ.set i (some (.own a (xs ++ ys))))
theorem sms_extT (i : Nat) (h : Sm C true te de) : SmS C (tDrop (tBM C.K "list" (rExtT C.K) (tVar i) (tCons te tNil))) (dExtT i de) := fun σ δ H0 H E D s ⟨a0, xs0, e0, w⟩ e => by
  obtain ⟨v, e1, rfl, h1, h2, h3, vs, h4, h5⟩ := s.sl i _ e0
  refine ⟨_, e1, .inl ⟨rfl, vs, SqL.of h4⟩, h σ δ H0 H _ _ s w fun H0' H' y x g1 r ⟨ys, ex, hl, p⟩ => ?_⟩
  subst ex
  have s1 := s.go g1
  obtain ⟨v', f1, f2, f3, f4, f5, us, f6, f7⟩ := s1.sl i _ e0
  cases r with
  | @tup b zs _ hb rb =>
    exact ⟨a0, b, us, zs, rfl, rfl, f6, same_t g1.wf.sub hb, by rw [f7.length, rb.length]; exact hl, e.nx H0' _ σ _ g1.fz (s1.write i e0 (f7.append rb)) p⟩
/-- a call of a def that a slot holds -/
@[simp] def dCallL (i : Nat) (fa : Addr) (p : VSp) (ds : DR) : DE := fun δ Φ => δ[i]? = some (some (.raw (.ref fa))) ∧ dCall p ds δ Φ
theorem sm_callL {n : Nat} {p : VSp} {E : XK} {fa : Addr} (i : Nat) (hp : ∀ rs Φ, p rs Φ → rs.length = n) (ha : SmQ C tas dqs) : Sm C f (tCallL i fa (toSp C.K n p) [] E tas) (dCallL i fa p dqs) := fun σ δ H0 H Φ Q s ⟨e, w⟩ q => by
  obtain ⟨v, e1, e2⟩ := s.sl i _ e
  have e3 : v = .ref fa := e2
  subst e3
  exact ⟨e1, (sm_call (f := f) (E := E) hp ha) σ δ H0 H Φ Q s w q⟩
/-- a def of the program's top, handed to another -/
@[simp] def qGlob (v : V) (ds : DR) : DR := fun δ Φ => ds δ fun xs => Φ (.raw v :: xs)
theorem smq_glob {v : V} (hb : SmQ C tas dqs) : SmQ C (tCons (tC v) tas) (qGlob v dqs) := fun σ δ H0 H Φ Q s w q =>
  hb σ δ H0 H _ _ s w fun H02 H2 us ys g2 r2 w2 => q H02 H2 _ _ g2 (RRas.cons (r := R.raw v) rfl r2) w2
/-- a slot that holds a def, handed on -/
@[simp] def qRaw (i : Nat) (ds : DR) : DR := fun δ Φ => ∃ v, δ[i]? = some (some (.raw v)) ∧ ds δ fun xs => Φ (.raw v :: xs)
theorem smq_raw (i : Nat) (hb : SmQ C tas dqs) : SmQ C (tCons (tVar i) tas) (qRaw i dqs) := fun σ δ H0 H Φ Q s ⟨v, e, w⟩ q => by
  obtain ⟨u, e1, e2⟩ := s.sl i _ e
  have e3 : u = v := e2
  subst e3
  exact ⟨u, e1, hb σ δ H0 H _ _ s w fun H02 H2 us ys g2 r2 w2 => q H02 H2 _ _ g2 (RRas.cons (r := R.raw u) rfl r2) w2⟩
end
end VL

/-! zip of any two sources: each is known by its next item, its end, and what it keeps. -/
namespace VZ
open PySem PySem.Spec PyProof.Rows L2 RZ
/-- at turn k the iterator `it` over the object `l` of the items xs stands so -/
structure Src (it l : Addr) (xs : Array Value) (S : Heap → Nat → Prop) : Prop where
  keep : ∀ {h h' : Heap} {k : Nat}, S h k → (∀ o, h.get? it = some o → h'.get? it = some o) → (∀ o, h.get? l = some o → h'.get? l = some o) → S h' k
  obj : ∀ {h : Heap} {k : Nat}, S h k → ∃ o, h.get? it = some o ∧ ∀ v, o.data ≠ .cell v
  item : ∀ {prog : Program} {w : World} {A : Around} {E : Value → Shared → Prop} {s : Shared} {k : Nat} {x : Value} {Q : Value → Shared → Prop}, S s.heap k → xs[k]? = some x →
    (∀ h', S h' (k + 1) → Heap.SameBut it s.heap h' → Q x { s with heap := h' }) → wpAny (model prog w) A (Builtin.SmallTypes.nextOf (.ref it)) Q E s
  stop : ∀ {prog : Program} {w : World} {A : Around} {E : Value → Shared → Prop} {s : Shared} {k : Nat} {Q : Value → Shared → Prop}, A.handled = none → S s.heap k → xs[k]? = none →
    (∀ h' e, Heap.ExtBut it s.heap h' → (∃ o, h'.get? e = some o ∧ o.cls = .type "StopIteration") → E (.ref e) { s with heap := h' }) → wpAny (model prog w) A (Builtin.SmallTypes.nextOf (.ref it)) Q E s
def SL (it l : Addr) (xs : Array Value) (h : Heap) (k : Nat) : Prop := h.IsListIter it l k ∧ h.IsList l xs
def ST (it l : Addr) (xs : Array Value) (h : Heap) (k : Nat) : Prop := h.IsTupleIter it l k ∧ h.IsTuple l xs
theorem srcL {it l : Addr} {xs : Array Value} (ne : l ≠ it) : Src it l xs (SL it l xs) where
  keep := fun ⟨a, b⟩ f g => ⟨Heap.IsListIter.at a f, Heap.IsList.at b g⟩
  obj := fun ⟨⟨o, e, _, d⟩, _⟩ => ⟨o, e, fun v q => by rw [d] at q; cases q⟩
  item := fun ⟨a, b⟩ hx q => wpAny_nextOf_list_item a b hx fun h' c d => q h' ⟨c, b.extBut d.extBut ne⟩ d
  stop := fun hh ⟨a, b⟩ hx q => wpAny_nextOf_list_end hh a b hx q
theorem srcT {it l : Addr} {xs : Array Value} (ne : l ≠ it) : Src it l xs (ST it l xs) where
  keep := fun ⟨a, b⟩ f g => ⟨Heap.IsTupleIter.at a f, Heap.IsTuple.at b g⟩
  obj := fun ⟨⟨o, e, _, d⟩, _⟩ => ⟨o, e, fun v q => by rw [d] at q; cases q⟩
  item := fun ⟨a, b⟩ hx q => nextOf_tuple_item a b hx fun h' c d => q h' ⟨c, b.extBut d.extBut ne⟩ d
  stop := fun hh ⟨a, b⟩ hx q => nextOf_tuple_end hh a b hx q
section
variable {prog : Program} {w : World} {A : Around} {E : Value → Shared → Prop} {s : Shared} {z TI TO i1 i2 l1 l2 : Addr} {xs ys : Array Value} {S1 S2 : Heap → Nat → Prop} {k : Nat}
theorem Src.bump {it l c : Addr} {S : Heap → Nat → Prop} {h h' : Heap} (sr : Src it l xs S) (st : S h k) (e : Heap.ExtBut c h h') (n1 : it ≠ c) (n2 : l ≠ c) : S h' k := sr.keep st (fun o q => e _ o n1 q) fun o q => e _ o n2 q
/-- the two places of the pair that stands ready, one behind the other -/
theorem next_item (s1 : Src i1 l1 xs S1) (s2 : Src i2 l2 ys S2) {x y a b : Value} {Q : Value → Shared → Prop} (D : ZipApart z TI TO i1 i2 l1 l2)
    (hz : IsZip s.heap z TI TO .none) (hTI : IsPair s.heap TI (.ref i1) (.ref i2)) (hTO : IsPair s.heap TO a b) (h1 : S1 s.heap k) (h2 : S2 s.heap k) (hx : xs[k]? = some x) (hy : ys[k]? = some y)
    (hQ : ∀ h', IsZip h' z TI TO (rawInt s.heap.objs.size) → IsPair h' TO x y → S1 h' (k + 1) → S2 h' (k + 1) → IsPair h' s.heap.objs.size x y →
      (∀ c o, c ≠ z → c ≠ TO → c ≠ i1 → c ≠ i2 → s.heap.get? c = some o → h'.get? c = some o) → Q (.ref s.heap.objs.size) { s with heap := h' }) :
    wpAny (model prog w) A (Builtin.«zip.__next__» ⟨[.ref z], []⟩) (fun fin s' => ∃ v, fin = .done (.ret v) ∧ Q v s') E s := by
  show wpAny _ _ (field (.ref z) 2 >>= _) _ _ _
  refine wpAny_bind (wpAny_field hz rfl (x := .bool false) rfl ?_)
  show wpAny _ _ (field (.ref z) 3 >>= _) _ _ _
  refine wpAny_bind (wpAny_field hz rfl (x := .ref TI) rfl (wpAny_bind (wpAny_seqItems hTI rfl ?_)))
  show wpAny _ _ (Builtin.SmallTypes.ownedTupleIsFree (.ref z) >>= _) _ _ _
  refine wpAny_bind ?_
  unfold Builtin.SmallTypes.ownedTupleIsFree
  refine wpAny_bind (wpAny_field hz rfl (x := .none) rfl (wpAny_pure ?_))
  simp only [if_true]
  refine wpAny_bind (wpAny_rule (wpAny_bind (wpAny_field hz rfl (x := .ref TO) rfl (wpAny_bind (wpAny_setField_rec hz (by simp) fun ha za ea => ?_)))))
  replace za : IsZip ha z TI TO .ellipsis := za
  have pa : IsPair ha TO a b := ea.extBut _ _ D.TOz hTO
  have qa1 := s1.bump h1 ea.extBut D.i1z D.l1z
  have qa2 := s2.bump h2 ea.extBut D.i2z D.l2z
  refine wpAny_bind ?_
  simp only [List.zipIdx_cons, List.zipIdx_nil, List.forIn_cons, List.forIn_nil]
  refine wpAny_bind (wpAny_bind (wpAny_onRaise ?_))
  show wpAny _ _ (Builtin.SmallTypes.nextOf (.ref i1) >>= _) _ _ _
  refine wpAny_bind (s1.item qa1 hx fun hb qb1 eb => wpAny_pure ?_)
  have pb : IsPair hb TO a b := eb.extBut _ _ D.TOi1 pa
  have qb2 := s2.bump qa2 eb.extBut D.i12.symm D.l2i1
  refine wpAny_bind (wpAny_seqItems pb rfl (wpAny_bind (wpAny_updateSeq_pair pb fun hc pc ec => ?_)))
  replace pc : IsPair hc TO x b := pc
  have qc1 := s1.bump qb1 ec.extBut D.TOi1.symm D.l1TO
  have qc2 := s2.bump qb2 ec.extBut D.TOi2.symm D.l2TO
  refine wpAny_bind (wpAny_letGo (wpAny_pure ?_))
  refine wpAny_bind (wpAny_bind (wpAny_onRaise ?_))
  show wpAny _ _ (Builtin.SmallTypes.nextOf (.ref i2) >>= _) _ _ _
  refine wpAny_bind (s2.item qc2 hy fun hd qd2 ed => wpAny_pure ?_)
  have pd : IsPair hd TO x b := ed.extBut _ _ D.TOi2 pc
  have qd1 := s1.bump qc1 ed.extBut D.i12 D.l1i2
  refine wpAny_bind (wpAny_seqItems pd rfl (wpAny_bind (wpAny_updateSeq_pair pd fun he pe ee => ?_)))
  replace pe : IsPair he TO x y := pe
  have qe1 := s1.bump qd1 ee.extBut D.TOi1.symm D.l1TO
  have qe2 := s2.bump qd2 ee.extBut D.TOi2.symm D.l2TO
  refine wpAny_bind (wpAny_letGo (wpAny_pure (wpAny_pure ?_)))
  refine wpAny_bind (wpAny_seqItems pe rfl (wpAny_bind (wpAny_newTuple ?_)))
  have sz : he.objs.size = s.heap.objs.size := by rw [ee.1, ed.1, ec.1, eb.1, ea.1]
  have ze : IsZip he z TI TO .ellipsis := ee.extBut _ _ D.TOz.symm (ed.extBut _ _ D.i2z.symm (ec.extBut _ _ D.TOz.symm (eb.extBut _ _ D.i1z.symm za)))
  have ke : ∀ c o, c ≠ z → c ≠ TO → c ≠ i1 → c ≠ i2 → s.heap.get? c = some o → he.get? c = some o := fun c o c1 c2 c3 c4 e =>
    ee.extBut _ _ c2 (ed.extBut _ _ c4 (ec.extBut _ _ c2 (eb.extBut _ _ c3 (ea.extBut _ _ c1 e))))
  have lz : z < he.objs.size := Heap.lt_size ze
  show wpAny _ _ (Builtin.SmallTypes.ownedTupleHandOut (.ref z) (.ref he.objs.size) >>= _) _ _ _
  refine wpAny_bind ?_
  unfold Builtin.SmallTypes.ownedTupleHandOut
  have zf : IsZip (he.push { cls := .type "tuple", data := .seq #[x, y] }) z TI TO .ellipsis := Heap.get?_push_of_some _ ze
  refine wpAny_bind (wpAny_setField_rec zf (by simp) fun hg zg eg => ?_)
  replace zg : IsZip hg z TI TO (rawInt he.objs.size) := zg
  refine wpAny_setField_rec zg (by simp) fun hi zi ei => ?_
  replace zi : IsZip hi z TI TO (rawInt he.objs.size) := zi
  have up : ∀ c o, c ≠ z → he.get? c = some o → hi.get? c = some o := fun c o c1 e => ei.extBut _ _ c1 (eg.extBut _ _ c1 (Heap.get?_push_of_some _ e))
  have pi : IsPair hi he.objs.size x y := ei.extBut _ _ (Nat.ne_of_gt lz) (eg.extBut _ _ (Nat.ne_of_gt lz) (Heap.get?_push_size _ rfl))
  rw [sz] at zi pi
  refine wpAny_pure ⟨_, rfl, ?_⟩
  show Q (.ref he.objs.size) _
  rw [sz]
  exact hQ hi zi (up _ _ D.TOz pe) (s1.keep qe1 (fun o e => up _ o D.i1z e) fun o e => up _ o D.l1z e) (s2.keep qe2 (fun o e => up _ o D.i2z e) fun o e => up _ o D.l2z e) pi fun c o c1 c2 c3 c4 e => up c o c1 (ke c o c1 c2 c3 c4 e)
theorem next_end (s1 : Src i1 l1 xs S1) (s2 : Src i2 l2 ys S2) {a b : Value} {Q : Fin → Shared → Prop} (hh : A.handled = none) (D : ZipApart z TI TO i1 i2 l1 l2)
    (hz : IsZip s.heap z TI TO .none) (hTI : IsPair s.heap TI (.ref i1) (.ref i2)) (hTO : IsPair s.heap TO a b) (h1 : S1 s.heap k) (h2 : S2 s.heap k) (hend : xs[k]? = none ∨ ys[k]? = none)
    (hE : ∀ h' e, (∀ c o, c ≠ z → c ≠ TO → c ≠ i1 → c ≠ i2 → s.heap.get? c = some o → h'.get? c = some o) → (∃ o, h'.get? e = some o ∧ o.cls = .type "StopIteration") → E (.ref e) { s with heap := h' }) :
    wpAny (model prog w) A (Builtin.«zip.__next__» ⟨[.ref z], []⟩) Q E s := by
  show wpAny _ _ (field (.ref z) 2 >>= _) _ _ _
  refine wpAny_bind (wpAny_field hz rfl (x := .bool false) rfl ?_)
  show wpAny _ _ (field (.ref z) 3 >>= _) _ _ _
  refine wpAny_bind (wpAny_field hz rfl (x := .ref TI) rfl (wpAny_bind (wpAny_seqItems hTI rfl ?_)))
  show wpAny _ _ (Builtin.SmallTypes.ownedTupleIsFree (.ref z) >>= _) _ _ _
  refine wpAny_bind ?_
  unfold Builtin.SmallTypes.ownedTupleIsFree
  refine wpAny_bind (wpAny_field hz rfl (x := .none) rfl (wpAny_pure ?_))
  simp only [if_true]
  refine wpAny_bind (wpAny_rule (wpAny_bind (wpAny_field hz rfl (x := .ref TO) rfl (wpAny_bind (wpAny_setField_rec hz (by simp) fun ha za ea => ?_)))))
  replace za : IsZip ha z TI TO .ellipsis := za
  have pa : IsPair ha TO a b := ea.extBut _ _ D.TOz hTO
  have qa1 := s1.bump h1 ea.extBut D.i1z D.l1z
  have qa2 := s2.bump h2 ea.extBut D.i2z D.l2z
  -- what is raised leaves the pair's mark free again
  have free : ∀ (h' : Heap) (e : Addr), IsZip h' z TI TO .ellipsis → (∃ o, h'.get? e = some o ∧ o.cls = .type "StopIteration") → ∀ h'', Heap.SameBut z h' h'' → ∃ o, h''.get? e = some o ∧ o.cls = .type "StopIteration" := fun h' e zq ⟨o, ho, hc⟩ h'' eq =>
    ⟨o, eq.extBut _ _ (fun x => by subst x; rw [zq] at ho; cases ho; simp at hc) ho, hc⟩
  refine wpAny_bind ?_
  simp only [List.zipIdx_cons, List.zipIdx_nil, List.forIn_cons, List.forIn_nil]
  refine wpAny_bind (wpAny_bind (wpAny_onRaise ?_))
  show wpAny _ _ (Builtin.SmallTypes.nextOf (.ref i1) >>= _) _ _ _
  cases hx : xs[k]? with
  | none =>
    refine wpAny_bind (s1.stop hh qa1 hx fun hb e eb he => ?_)
    have zb : IsZip hb z TI TO .ellipsis := eb _ _ D.i1z.symm za
    exact wpAny_setField_rec zb (by simp) fun hc _ ec => hE hc e (fun c o c1 _ c3 _ x => ec.extBut _ _ c1 (eb _ _ c3 (ea.extBut _ _ c1 x))) (free hb e zb he hc ec)
  | some x =>
    have hy : ys[k]? = none := hend.elim (fun q => by rw [hx] at q; cases q) id
    refine wpAny_bind (s1.item qa1 hx fun hb qb1 eb => wpAny_pure ?_)
    have pb : IsPair hb TO a b := eb.extBut _ _ D.TOi1 pa
    have qb2 := s2.bump qa2 eb.extBut D.i12.symm D.l2i1
    refine wpAny_bind (wpAny_seqItems pb rfl (wpAny_bind (wpAny_updateSeq_pair pb fun hc pc ec => ?_)))
    have qc2 := s2.bump qb2 ec.extBut D.TOi2.symm D.l2TO
    refine wpAny_bind (wpAny_letGo (wpAny_pure ?_))
    refine wpAny_bind (wpAny_bind (wpAny_onRaise ?_))
    show wpAny _ _ (Builtin.SmallTypes.nextOf (.ref i2) >>= _) _ _ _
    refine wpAny_bind (s2.stop hh qc2 hy fun hd e ed he => ?_)
    have zd : IsZip hd z TI TO .ellipsis := ed _ _ D.i2z.symm (ec.extBut _ _ D.TOz.symm (eb.extBut _ _ D.i1z.symm za))
    exact wpAny_setField_rec zd (by simp) fun hf _ ef => hE hf e (fun c o c1 c2 c3 c4 x => ef.extBut _ _ c1 (ed _ _ c4 (ec.extBut _ _ c2 (eb.extBut _ _ c3 (ea.extBut _ _ c1 x))))) (free hd e zd he hf ef)
end
/-- a tuple at a beside a list at b -/
def ItzM (K : PySem.W.Frag) (a b : Addr) : It where
  go := fun i H => ∃ (xs ys : List V) (x y : V), SqT K H a xs ∧ SqL K H b ys ∧ xs[i]? = some x ∧ ys[i]? = some y
  yld := fun i H v H' => ∃ T x y, v = .ref T ∧ H T = none ∧ H' = upd H T (.tup [x, y]) ∧ (∀ xs, SqT K H a xs → xs[i]? = some x) ∧ ∀ ys, SqL K H b ys → ys[i]? = some y
  stop := fun i H => ∃ xs ys : List V, SqT K H a xs ∧ SqL K H b ys ∧ (xs.length ≤ i ∨ ys.length ≤ i)
theorem turnM {P : Program} {w : World} {K : PySem.W.Frag} {elts : List Expr} {kk : Nat} {tpos : Pos} {a b z TI TO i1 i2 : Addr} (D : ZipApart z TI TO i1 i2 a b) :
    Turn P w K (.Tuple elts kk tpos) (ItzM K a b) [z, TI, TO, i1, i2] z (fun i h => IsZip h z TI TO .none ∧ IsPair h TI (.ref i1) (.ref i2) ∧ (∃ x y, IsPair h TO x y) ∧ h.IsTupleIter i1 a i ∧ h.IsListIter i2 b i) where
  mem := by simp
  obj := fun i h ⟨hz, hTI, ⟨x, y, hTO⟩, ⟨o1, e1, _, d1⟩, ⟨o2, e2, _, d2⟩⟩ c hc => by
    simp only [List.mem_cons, List.not_mem_nil, or_false] at hc
    rcases hc with rfl | rfl | rfl | rfl | rfl
    · exact ⟨_, hz, fun v q => nomatch q⟩
    · exact ⟨_, hTI, fun v q => nomatch q⟩
    · exact ⟨_, hTO, fun v q => nomatch q⟩
    · exact ⟨o1, e1, fun v q => by rw [d1] at q; cases q⟩
    · exact ⟨o2, e2, fun v q => by rw [d2] at q; cases q⟩
  keep := fun i h h' ⟨hz, hTI, ⟨x, y, hTO⟩, h1, h2⟩ k => ⟨k z (by simp) _ hz, k TI (by simp) _ hTI, ⟨x, y, k TO (by simp) _ hTO⟩, h1.at (k i1 (by simp)), h2.at (k i2 (by simp))⟩
  item := by
    intro X hP hw hK hc i pins s σ H E I hf ⟨hz, hTI, ⟨x0, y0, hTO⟩, h1, h2⟩ ⟨xs, ys, x, y, hqx, hqy, hx, hy⟩
    subst hP hw hK
    obtain ⟨its, rv, p, _⟩ := I.tuple hqx
    obtain ⟨its2, rv2, p2, _⟩ := I.list hqy
    obtain ⟨u, hu, ru⟩ := rv.get hx
    obtain ⟨u2, hu2, ru2⟩ := rv2.get hy
    have hT : s.TypeIs (.ref z) "zip" := ⟨_, hz, rfl⟩
    have lz : z < s.heap.objs.size := Heap.lt_size hz
    unfold pyNext
    refine wpAny_bind (wpAny_attempt (wpAny_callSpecial?_slot (name := Str.ofString "__next__") hT F.slot_zip_next (wpAny_call_entry F.slot_zip_next hT F.entry_zip_next
      (next_item (k := i) (srcT (xs := its.toArray) D.l1i1) (srcL (xs := its2.toArray) D.l2i2) D hz hTI hTO ⟨h1, p⟩ ⟨h2, p2.isList⟩ (x := u) (y := u2) (by simpa using hu) (by simpa using hu2) fun h' z' TO' h1' h2' pT hk => wpAny_pure ?_) (F.args_zip_next_1 _))))
    refine ⟨_, rfl, wpAny_letOwnedTupleGo_zip (s := { s with heap := h' }) z' fun h'' z'' sb => ?_⟩
    have pT2 : h''.get? s.heap.objs.size = some { cls := .type "tuple", data := .seq #[u, u2] } := (sb.2 _ (Nat.ne_of_gt lz)).trans pT
    have new : ObjOk X.prog X.w (upd H s.heap.objs.size (.tup [x, y])) h'' s.heap.objs.size (.tup [x, y]) :=
      ⟨by show 2 ≤ sizeLine; decide, [u, u2], .cons ru (.cons ru2 .nil), ⟨_, pT2, rfl, _, rfl⟩⟩
    have I1 : Inv X pins σ (upd H s.heap.objs.size (.tup [x, y])) { s with heap := h'' } :=
      I.turnedNew (t' := s.toks) (ch := [z, TI, TO, i1, i2]) (fun c o hb q => (sb.2 c (fun q' => hb (by simp [q']))).trans (hk c o (fun q' => hb (by simp [q'])) (fun q' => hb (by simp [q'])) (fun q' => hb (by simp [q'])) (fun q' => hb (by simp [q'])) q)) hf (Nat.le_refl _) new
    refine ⟨.ref s.heap.objs.size, _, I1, rfl, ⟨_, x, y, rfl, I.hok.fresh (Nat.le_refl _), rfl, fun l hl => by rw [I.tuple_inj hl hqx]; exact hx, fun l hl => by rw [I.list_inj hl hqy]; exact hy⟩, ⟨z'', ?_, ⟨u, u2, (sb.2 _ D.TOz).trans TO'⟩, h1'.1.at fun o q => (sb.2 _ D.i1z).trans q, h2'.1.at fun o q => (sb.2 _ D.i2z).trans q⟩, fun c hcm => ?_⟩
    · exact (sb.2 _ D.TIz).trans (hk _ _ D.TIz D.TITO D.TIi1 D.TIi2 hTI)
    · have hlt : c < s.heap.objs.size := by
        obtain ⟨o1, e1, _⟩ := h1
        obtain ⟨o2, e2, _⟩ := h2
        have cm := hcm
        simp only [List.mem_cons, List.not_mem_nil, or_false] at cm
        rcases cm with rfl | rfl | rfl | rfl | rfl
        · exact lz
        · exact Heap.lt_size hTI
        · exact Heap.lt_size hTO
        · exact Heap.lt_size e1
        · exact Heap.lt_size e2
      rw [upd_ne (Nat.ne_of_lt hlt)]
      exact (hf c hcm).1
  done := by
    intro X hP hw hK hc i pins s σ H E I hf ⟨hz, hTI, ⟨x0, y0, hTO⟩, h1, h2⟩ ⟨xs, ys, hqx, hqy, hend⟩
    subst hP hw hK
    obtain ⟨its, rv, p, _⟩ := I.tuple hqx
    obtain ⟨its2, rv2, p2, _⟩ := I.list hqy
    have l1 := rv.length
    have l2 := rv2.length
    have he : its.toArray[i]? = none ∨ its2.toArray[i]? = none := hend.elim (fun q => .inl (by simp; omega)) fun q => .inr (by simp; omega)
    have hT : s.TypeIs (.ref z) "zip" := ⟨_, hz, rfl⟩
    unfold pyNext
    refine wpAny_bind (wpAny_attempt (wpAny_callSpecial?_slot (name := Str.ofString "__next__") hT F.slot_zip_next (wpAny_call_entry F.slot_zip_next hT F.entry_zip_next
      (next_end (k := i) (srcT (xs := its.toArray) D.l1i1) (srcL (xs := its2.toArray) D.l2i2) (I.ok.hd hc) D hz hTI hTO ⟨h1, p⟩ ⟨h2, p2.isList⟩ he fun h' e hk ⟨o, ho, hcl⟩ => ?_) (F.args_zip_next_1 _))))
    refine wpAny_bind (wpAny_isInstance (T := "StopIteration") (b := true) ⟨o, ho, hcl⟩ isSubtype_stop (wpAny_pure ?_))
    exact ⟨rfl, I.turnedL (t' := s.toks) (ch := [z, TI, TO, i1, i2]) (fun c o hb q => hk c o (fun q' => hb (by simp [q'])) (fun q' => hb (by simp [q'])) (fun q' => hb (by simp [q'])) (fun q' => hb (by simp [q'])) q) hf⟩
  self := fun A i s Q E st h => wpAny_pyIter_zip st.1 h
/-- the heap after each of the five new objects -/
abbrev g1 (h : Heap) (a : Addr) : Heap := h.push { cls := .type "tuple_iterator", data := .fields #[.ref a, .int 0 0] }
abbrev g2 (h : Heap) (a b : Addr) : Heap := (g1 h a).push { cls := .type "list_iterator", data := .fields #[.ref b, .int 0 0] }
abbrev g3 (h : Heap) (a b : Addr) : Heap := (g2 h a b).push { cls := .type "tuple", data := .seq #[.ref h.objs.size, .ref (g1 h a).objs.size] }
abbrev g4 (h : Heap) (a b : Addr) : Heap := (g3 h a b).push { cls := .type "tuple", data := .seq #[.none, .none] }
abbrev g5 (h : Heap) (a b : Addr) : Heap := (g4 h a b).push { cls := .type "zip", data := .fields #[.none, .bool false, .bool false, .ref (g2 h a b).objs.size, .ref (g3 h a b).objs.size] }
theorem meets_new (a b : Addr) (xs ys : Array Value) :
    Meets (Builtin.«zip.__new__» ⟨[.type "zip", .ref a, .ref b], []⟩) (fun _ R s => s.heap.IsTuple a xs ∧ s.heap.IsList b ys ∧ R (.ok (.ret (.ref (g4 s.heap a b).objs.size))) { s with heap := g5 s.heap a b }) :=
  .of_wp fun prog w A R s h => by
    obtain ⟨hp, g, d, tk, os⟩ := s
    obtain ⟨ha, hb, h⟩ := h
    have hsub := sub_zip
    have hL1 : Heap.IsTuple (Shared.heap ⟨hp, g, d, tk, os⟩) a xs := ha
    have hL2 : Heap.IsList (Shared.heap ⟨hp.push { cls := .type "tuple_iterator", data := .fields #[.ref a, .int 0 0] }, g, d, tk, os⟩) b ys := Heap.IsList.at hb fun o q => Heap.get?_push_of_some _ q
    wp_walk using wpAny_pyIter_tuple hL1, wpAny_pyIter_list hL2
    exact ⟨_, rfl, h⟩
theorem call_new {prog : Program} {w : World} {A : Around} {E : Value → Shared → Prop} {s : Shared} {a b : Addr} {xs ys : Array Value} {Q : Value → Shared → Prop} (ha : s.heap.IsTuple a xs) (hb : s.heap.IsList b ys)
    (h : ∀ h', IsZip h' (s.heap.objs.size + 4) (s.heap.objs.size + 2) (s.heap.objs.size + 3) .none → IsPair h' (s.heap.objs.size + 2) (.ref s.heap.objs.size) (.ref (s.heap.objs.size + 1)) → IsPair h' (s.heap.objs.size + 3) .none .none →
      h'.IsTupleIter s.heap.objs.size a 0 → h'.IsListIter (s.heap.objs.size + 1) b 0 → (∀ c o, s.heap.get? c = some o → h'.get? c = some o) → Q (.ref (s.heap.objs.size + 4)) { s with heap := h' }) :
    wpAny (model prog w) A (call (.type "zip") [.ref a, .ref b]) Q E s := by
  refine callType_new F.called_zip (by decide) (F.typeCall_zip_2 _ _) (F.newCall_zip_2 _ _) (fun obj => F.args_object_init_3 obj _ _) F.entry_zip_new (meets_new a b xs ys) ⟨ha, hb, ?_⟩
  have n1 : (g1 s.heap a).objs.size = s.heap.objs.size + 1 := Heap.size_push ..
  have n2 : (g2 s.heap a b).objs.size = s.heap.objs.size + 2 := by rw [Heap.size_push, n1]
  have n3 : (g3 s.heap a b).objs.size = s.heap.objs.size + 3 := by rw [Heap.size_push, n2]
  have n4 : (g4 s.heap a b).objs.size = s.heap.objs.size + 4 := by rw [Heap.size_push, n3]
  have up : ∀ {c : Addr} {o : Obj} {x : Heap} (p : Obj), x.get? c = some o → (x.push p).get? c = some o := fun p q => Heap.get?_push_of_some _ q
  have e5 : (g5 s.heap a b).get? (g4 s.heap a b).objs.size = some _ := Heap.get?_push_size _ rfl
  have e4 : (g5 s.heap a b).get? (g3 s.heap a b).objs.size = some _ := up _ (Heap.get?_push_size _ rfl)
  have e3 : (g5 s.heap a b).get? (g2 s.heap a b).objs.size = some _ := up _ (up _ (Heap.get?_push_size _ rfl))
  have e2 : (g5 s.heap a b).get? (g1 s.heap a).objs.size = some _ := up _ (up _ (up _ (Heap.get?_push_size _ rfl)))
  have e1 : (g5 s.heap a b).get? s.heap.objs.size = some _ := up _ (up _ (up _ (up _ (Heap.get?_push_size _ rfl))))
  show _ ∧ _
  rw [n2, n3, n4] at e5
  rw [n1, n2] at e3
  rw [n3] at e4
  rw [n1] at e2
  rw [n4]
  exact ⟨⟨_, e5, rfl⟩, h _ e5 e3 e4 ⟨_, e1, rfl, rfl⟩ ⟨_, e2, rfl, rfl⟩ fun c o x => up _ (up _ (up _ (up _ (up _ x))))⟩
def iZipM (K : PySem.W.Frag) (ta : TA) : TI := fun σ H R => ta σ H fun vs H1 => ∃ a b xs ys, vs = [.ref a, .ref b] ∧ SqT K H1 a xs ∧ SqL K H1 b ys ∧ R (ItzM K a b) H1
theorem pi_zipM {X : Cx} {e e2 : Expr} {ta : TA} {p pos tpos : Pos} {elts : List Expr} {kk : Nat} (hg : Gl X "zip") (hm : X.mg "zip" = none) (ha : PA X [e, e2] ta)
    (hs : starEach [e, e2] X.env = (false, eval e X.env) :: starEach [e2] X.env := by rfl) (hpl : (backTo pos (starEach [e2] X.env)).any (·.1) = false := by rfl) :
    PI X (.Tuple elts kk tpos) (.Call (.Name "zip" p) [e, e2] [] pos) (iZipM X.K ta) := by
  refine ⟨fun pins s σ H R I h => ?_⟩
  refine Call_ (ld_blt I hg hm PyProof.Rows.boot_zip (PyProof.Rows.callWith_type1 (thn (ha.run pos pins s σ H _ I h) fun us s1 ⟨vs, H1, I1, r1, a, b, xs, ys, ex, hqx, hqy, q⟩ => ?_) hs hpl))
  subst ex
  cases r1 with
  | cons r rr =>
    cases rr with
    | cons r' rr =>
      cases rr
      cases r
      cases r'
      obtain ⟨its, rv, p1, _⟩ := I1.tuple hqx
      obtain ⟨its2, rv2, p2, _⟩ := I1.list hqy
      obtain ⟨o1, ho1, _⟩ := id p1
      have fresh : ∀ c, c ∈ [s1.heap.objs.size + 4, s1.heap.objs.size + 2, s1.heap.objs.size + 3, s1.heap.objs.size, s1.heap.objs.size + 1] → FpOk X pins H1 c := fun c hcm => by
        have hle : s1.heap.objs.size ≤ c := by
          simp only [List.mem_cons, List.not_mem_nil, or_false] at hcm
          rcases hcm with rfl | rfl | rfl | rfl | rfl
          · exact Nat.le_add_right _ _
          · exact Nat.le_add_right _ _
          · exact Nat.le_add_right _ _
          · exact Nat.le_refl _
          · exact Nat.le_add_right _ _
        exact I1.fpOk hle (I1.hok.fresh hle)
      refine call_new (show s1.heap.IsTuple a its.toArray from p1) p2.isList fun h' hz hTI hTO h1 h2 hk => wpAny_pyIter_zip hz ?_
      exact ⟨s1.heap.objs.size + 4, [s1.heap.objs.size + 4, s1.heap.objs.size + 2, s1.heap.objs.size + 3, s1.heap.objs.size, s1.heap.objs.size + 1], _, _, H1, rfl, I1.kept (t' := s1.toks) hk, turnM (PySem.W.ktu_apart s1.heap.objs.size a b (Heap.lt_size ho1) p2.lt), ⟨hz, hTI, ⟨_, _, hTO⟩, h1, h2⟩, fresh, q⟩
end VZ
namespace VL
open PySem L2 VZ
section
variable {C : Ctx} {ta tb : TE} {da db : DE}
@[simp] def iZpM (da db : DE) : DI := fun δ Φ => da δ fun x => db δ fun y => ∃ xs ys, x = .tuple xs ∧ y = .list ys ∧ Φ (zipD xs ys)
theorem smi_zipM (ha : Sm C true ta da) (hb : Sm C true tb db) : SmI C (iZipM C.K (tCons ta (tCons tb tNil))) (iZpM da db) := fun σ δ H0 H Φ R s w q =>
  ha σ δ H0 H _ _ s w fun H01 H1 v x e1 r1 w1 => hb σ δ H01 H1 _ _ (s.go e1) w1 fun H02 H2 u y e2 r2 ⟨xs, ys, ex, ey, w2⟩ => by
    subst ex ey
    have r1' := r1.mono e2.fz
    cases r1' with
    | @tup a us _ h r =>
      cases r2 with
      | @lst b ws _ h' r' =>
        refine ⟨a, b, us, ws, rfl, same_t e2.wf.sub h, SqL.of (e2.wf.sub _ _ h'), q H02 H2 _ _ (e1.trans e2) ⟨?_, ?_, ?_⟩ w2⟩
        · intro H0' H' i e w hi
          refine ⟨us, ws, same_t w.sub (same_t e h), SqL.of (w.sub _ _ (e _ _ h')), ?_⟩
          rw [r.length, r'.length]
          unfold zipD at hi
          rw [List.length_zipWith] at hi
          omega
        · intro H0' H' i e w hi
          unfold zipD at hi
          rw [List.length_zipWith] at hi
          obtain ⟨y1, hy1⟩ := get_lt (show i < xs.length by omega)
          obtain ⟨v1, h1, _⟩ := r.get hy1
          obtain ⟨y2, hy2⟩ := get_lt (show i < ys.length by omega)
          obtain ⟨v2, h2, _⟩ := r'.get hy2
          exact ⟨us, ws, v1, v2, same_t w.sub (same_t e h), SqL.of (w.sub _ _ (e _ _ h')), h1, h2⟩
        · intro H0' H' i v H'' e w hi y
          obtain ⟨T, x1, x2, rfl, hT, rfl, y1, y2⟩ := y
          have y1 := y1 us (same_t w.sub (same_t e h))
          have y2 := y2 ws (SqL.of (w.sub _ _ (e _ _ h')))
          obtain ⟨d1, hd1, rd1⟩ := r.get' y1
          obtain ⟨d2, hd2, rd2⟩ := r'.get' y2
          obtain ⟨H0'', g, r2⟩ := tup_new w hT (.cons (rd1.mono e) (.cons (Rp.mono e rd2) .nil))
          refine ⟨H0'', _, g, ?_, r2⟩
          unfold zipD
          rw [List.getElem?_zipWith, hd1, hd2]
end
end VL

/-! Defs that are called where no repr is under way: repr of data. -/
namespace VG
open PySem PySem.Spec PyProof.Rows L2
section
variable {P : Program} {w : World} {K : PySem.W.Frag} {mg : Str → Option Value} {base : Heap} {fa : Addr} {fd : FuncData} {nms : List Str} {k : Nat} {sp : Sp}
/-- a def's promise, where the stack holds no guard -/
structure FnG (P : Program) (w : World) (K : PySem.W.Frag) (mg : Str → Option Value) (base : Heap) (k : Nat) (fa : Addr) (fd : FuncData) (nms : List Str) (sp : Sp) : Prop where
  size : ∀ xs H Q E, sp xs H Q E → xs.length = nms.length
  goes : ∀ (A : Around) (ou : List Env) (st : Shared) (H : Hp) (ar : Args) (us : List Value) (xs : List V) (Q : VK) (E : XK), A.guards = some [] → Room k A → Env0 P w K mg base A ou st H → BindsTo st fd ar (nms.zip us) → Vals xs us → sp xs H Q E →
    codeAny (model P w) A (.call (.ref fa) ar) (CR CX0 ou P w H st Q E) st
theorem FnG.of (F : FnOk P w K mg base CX0 k fa fd nms sp) : FnG P w K mg base k fa fd nms sp := ⟨F.len, fun A ou st H ar us xs Q E _ => F.run A ou st H ar us xs Q E⟩
end
section
variable {X : Cx} {k : Nat} {fa : Addr} {fd : FuncData} {nms : List Str} {sp : Sp} {more : List V} {mvs : List Value} {x : Str} {p1 p2 : Pos} {e1 : Expr} {es : List Expr} {ta : TA}
theorem goes_fn {E : XK} {pins : List (Addr × Obj)} {σ : L2.St} {H : Hp} {st : Shared} {Q : VK} {us : List Value} {xs : List V} (gd : X.A.guards = some []) (F : FnG X.prog X.w X.K X.mg X.base k fa fd nms sp) (rm : Room k X.A) (bi : Binds X.K fd nms mvs) (dv : Vals more mvs)
    (inv : Inv X pins σ H st) (rv : Vals xs us) (wish : sp (xs ++ more) H Q E) : wpAny (model X.prog X.w) X.A (call (.ref fa) us) (EP X pins σ Q) X.xe st := by
  have both : Vals (xs ++ more) (us ++ mvs) := rv.append dv
  have sz : (us ++ mvs).length = nms.length := both.length.symm.trans (F.size _ _ _ _ wish)
  refine wpAny_call (codeAny_mono (F.goes X.A X.stack st H ⟨us, []⟩ (us ++ mvs) (xs ++ more) Q E gd rm inv.env0 (bi st us inv.kIn sz) both wish) fun res st' got => ?_)
  match res, got with
  | .error _, got => exact got.elim
  | .ok (.ret _), got => exact inv.after got
  | .ok .next, got => exact got.elim
  | .ok .brk, got => exact got.elim
  | .ok .cont, got => exact got.elim
theorem pe_callG (gd : X.A.guards = some []) (F : FnG X.prog X.w X.K X.mg X.base k fa fd nms sp) (rm : Room k X.A) (hg : Gl X x) (hm : X.mg x = some (.ref fa)) (hk : PySem.W.keepIn X.K (.ref fa) = true) (bi : Binds X.K fd nms mvs) (dv : Vals more mvs)
    (pa : PA X (e1 :: es) ta) (dbg : (x == ("__debug__" : Str)) = false := by decide) (h1 : starEach (e1 :: es) X.env = (false, eval e1 X.env) :: starEach es X.env := by rfl) (h2 : (backTo p2 (starEach es X.env)).any (·.1) = false := by rfl) :
    PE X (.Call (.Name x p1) (e1 :: es) [] p2) (tCall sp more E0 ta) where
  run := fun pins st σ H Q inv wish => by
    refine wpAny_Call_Name_kw (ld_glob inv hg hm ?_ dbg)
    exact PySem.W.callWith_K (h₀ := X.base) inv.ok.mod.kin hk (thn (pa.run p2 pins st σ H _ inv wish) fun us st1 ⟨xs, H1, inv1, rv, q⟩ => ⟨inv1.kIn, goes_fn gd F rm bi dv inv1 rv q⟩) h1 h2
end
section
variable {P : Program} {w : World} {K : PySem.W.Frag} {mg : Str → Option Value} {base : Heap} {sp : Sp} {k : Nat} {fa : Addr} {fd : FuncData} {nms Ns : List Str} {x qu : Str} {sm : Stmt}
theorem okG (F : Fun K x qu sm fa fd) (S : FnScope Ns nms (defScope sm)) (size : ∀ xs H Q E, sp xs H Q E → xs.length = nms.length)
    (body : ∀ (cdv : Value) (A : Around) (ou : List Env) (st : Shared) (H : Hp) (xs : List V) (Q : VK) (E : XK), A.guards = some [] → Room k (A.deeper (envOfC qu (defScope sm) st.heap.objs.size fa cdv)) → sp xs H Q E →
      ∃ t, PSs (cxOf CX0 P w K mg base Ns qu (defScope sm) fa cdv A ou st H E).nox (defBody sm) t ∧ t { nx := fun _ H' => Q .non H', rt := Q } (L2.start Ns xs) H) : FnG P w K mg base (k + 1) fa fd nms sp := by
  obtain ⟨_, _, _, _, _, _, cdv, _, _, rfl, lk, cin⟩ := F.ex
  refine ⟨size, fun A ou st H ar us xs Q E gd rm e0 bi rv wish => ?_⟩
  have sz := size _ _ _ _ wish
  have kin : K.In st.heap := e0.mod.kin.keeps fun b o z => (e0.bs b o z).1
  have nol : st.heap.NoLimit := e0.mod.nolimit.keeps fun b o z => (e0.bs b o z).1
  have each : ∀ y ∈ nms.zip us, (defScope sm).names.lookup y.1 = some .local ∨ ((defScope sm).names.lookup y.1 = some .cell ∧ ((cellsFrom (st.heap.objs.size + 1) (defScope sm).names []).lookup y.1).isSome = true) := fun y hy =>
    (S.par y.1 (List.of_mem_zip hy).1).imp id fun z => ⟨z, PySem.W.cellsFrom_some _ _ _ (.inl z)⟩
  refine codeAny_call_function rm.depth (kin _ _ lk) rfl S.co S.gen rfl (PySem.W.codeRec_of kin cin) (bi _ _ _ _ ?_)
  refine wpAny_newFunctionEnv_cells S.kind each fun en hen st1 ent => ?_
  subst hen
  refine ⟨nol.keeps ent.toInCall.keep, codeAny_func ?_⟩
  obtain ⟨t, run, got⟩ := body cdv A ou st H xs Q E gd (rm.deeper _) wish
  have inv : Inv (cxOf CX0 P w K mg base Ns qu (defScope sm) fa cdv A ou st H E) [] (L2.start Ns xs) H st1 := inv_start S rm.hd e0 sz rv ent
  refine wpAny_mono (run.nox.run [] st1 (L2.start Ns xs) H _ inv got) (fun fl st' hs => ?_) fun _ _ hs => hs
  have last : ∀ {σ' : L2.St} {H' : Hp} {v : V} {u : Value}, Inv (cxOf CX0 P w K mg base Ns qu (defScope sm) fa cdv A ou st H E) [] σ' H' st' → RelV v u → Q v H' → CE ou P w H st Q u st' :=
    fun J r q => ⟨_, _, J.os, J.bare, J.base, J.hok, r, q⟩
  match fl, hs with
  | .ret _, ⟨_, _, _, J, r, q⟩ => exact last J r q
  | .next, ⟨_, _, J, q⟩ => exact last (v := .non) (u := Value.none) J rfl q
  | .brk, ⟨_, _, _, q⟩ => exact q.elim
  | .cont, ⟨_, _, _, q⟩ => exact q.elim
end
section
variable {P : Program} {w : World} {K : PySem.W.Frag} {mg mb : Str → Option Value} {k : Nat} {fa a : Addr} {fd : FuncData} {x : Str} {sp : Sp} {st : Shared} {us : List Value} {ns : List Int}
/-- the law's call, from its def's promise without guards -/
theorem callG (kin : K.In st.heap) (n1 : st.heap.Ns mainGlobals mg) (n2 : st.heap.Ns builtinsNs mb) (n3 : ∀ x : Str, x ≠ "__name__" → mb x = bootBuiltins x) (n4 : st.heap.NoLimit) (gn : st.gens = #[])
    (ga : st.heap.get? a = some { cls := .type "list", data := .seq us.toArray }) (hi : IntsAre us ns) (hl : ns.length ≤ sizeLine) (rm : Room k callerA)
    (F : ∀ base : Heap, K.In base → base.Ns mainGlobals mg → FnG P w K mg base k fa fd [x] sp) (bi : ∀ (s : Shared) (u : Value), BindsTo s fd ⟨[u], []⟩ [(x, u)])
    (wish : ∀ H : Hp, Only H → SqL K H a (ns.map V.int) → sp [.ref a] H (fun v _ => v = .bl true) fun _ _ _ => False) :
    codeAny (model P w) callerA (.call (.ref fa) ⟨[.ref a], []⟩) (fun r s' => r = .ok (.ret (.bool true)) ∧ OldK st.heap s'.heap ∧ s'.os = st.os ∧ AllBare s'.gens) st := by
  have vals := vals_ints hi
  have core : ∀ H : Hp, Only H → SqL K H a (ns.map V.int) → HOk P w H st.heap → (∀ b, H b ≠ none → b = a) → (H a ≠ none → K.lookup a = none) →
      codeAny (model P w) callerA (.call (.ref fa) ⟨[.ref a], []⟩) (fun r s' => r = .ok (.ret (.bool true)) ∧ OldK st.heap s'.heap ∧ s'.os = st.os ∧ AllBare s'.gens) st := by
    intro H ho hs hok one out
    have none_of : ∀ {b : Addr} {o : Obj}, st.heap.get? b = some o → (b = a → False) → H b = none := fun {b o} _ z => by
      cases q : H b with
      | none => rfl
      | some u => exact (z (one b (by rw [q]; exact nofun))).elim
    have dicts : ∀ {b : Addr} {o : Obj} {ds : Array DictEntry} {n : Nat}, st.heap.get? b = some o → o.data = .dict ds n → H b = none := fun {b o ds n} e d => none_of e fun z => by
      rw [z, ga] at e
      cases e
      cases (show Data.seq us.toArray _ = Data.dict ds n from d)
    have nsp : ∀ {b : Addr} {m : Str → Option Value}, st.heap.Ns b m → (hidT st.heap H).Ns b m := fun ⟨o, ds, n, e, d, r⟩ => ⟨o, ds, n, hidT_get e (dicts e d), d, r⟩
    have kin2 : K.In (hidT st.heap H) := fun b o e => hidT_get (kin b o e) (by
      cases q : H b with
      | none => rfl
      | some u =>
        have z := one b (by rw [q]; exact nofun)
        rw [z] at q e
        rw [out (by rw [q]; exact nofun)] at e
        cases e)
    have md : Mod K mg (hidT st.heap H) := ⟨kin2, nsp n1, ⟨mb, nsp n2, n3⟩, n4.imp fun _ z => ⟨nsp z.1, z.2⟩⟩
    have e0 : Env0 P w K mg (hidT st.heap H) callerA [] st H := ⟨rfl, md, fun _ _ z => of_hidT z, Nat.le_of_eq (hidT_size _ _), trivial, (fun b hb => nomatch (show b ∈ ([] : List Addr) from hb)), hok, .of_eq gn⟩
    refine codeAny_mono ((F _ kin2 (nsp n1)).goes callerA [] st H ⟨[.ref a], []⟩ [.ref a] [.ref a] _ _ rfl rm e0 (bi st (.ref a)) (.cons rfl .nil) (wish H ho hs)) fun r s' got => ?_
    match r, got with
    | .error _, got => exact got.elim
    | .ok .next, got => exact got.elim
    | .ok .brk, got => exact got.elim
    | .ok .cont, got => exact got.elim
    | .ok (.ret u), ⟨v, H', o1, o2, un, hok', rv, q⟩ =>
      have q : v = .bl true := q
      subst q
      obtain rfl : u = Value.bool true := rv
      refine ⟨rfl, OldK.of_keep fun b o e => ?_, o1, o2⟩
      cases hb : H b with
      | none => exact un.keep b o e hb (fun z => nomatch (show b ∈ ([] : List Addr) from z)) nofun
      | some y =>
        rcases ho b with z | ⟨ob, xs, z⟩
        · rw [hb] at z; cases z
        · have e1 := (hok b _ z).1
          rw [e] at e1
          cases e1
          exact (hok' b _ (un.frzs b _ _ z)).1
  cases hk : K.lookup a with
  | some o =>
    have e := kin a o hk
    rw [ga] at e
    cases e
    exact core (fun _ => none) (fun _ => .inl rfl) (.inr ⟨_, us.toArray, _, hk, rfl, rfl, rfl, by rw [List.size_toArray, hi.length]; exact hl, by simpa using vals⟩) (fun b u z => nomatch (show (none : Option HO) = some u from z)) (fun b z => absurd rfl z) fun z => absurd rfl z
  | none =>
    refine core (fun b => if b = a then some (.frz { cls := .type "list", data := .seq us.toArray } (.lst (ns.map V.int))) else none) (fun b => ?_) (.inl (.inr ⟨_, if_pos rfl⟩)) (fun b u z => ?_) (fun b z => ?_) fun _ => hk
    · by_cases hb : b = a
      · exact .inr ⟨_, _, if_pos hb⟩
      · exact .inl (if_neg hb)
    · by_cases hb : b = a
      · cases (if_pos hb).symm.trans z
        subst hb
        exact ⟨ga, by rw [List.length_map]; exact hl, us, _, vals, ga⟩
      · cases (if_neg hb).symm.trans z
    · by_cases hb : b = a
      · exact hb
      · exact absurd (if_neg hb) z
end
theorem walkG {l : PySem.W.OpenLaw} {n k : Nat} {q : Program} {loose : List Str} {XP : (Str → Option Value) → Heap → Prop} {YP : World → Heap → Prop} {d : DefRec} {K : Params → PySem.W.Frag} {sp : World → Sp} {x : Str}
    (hn : l.most = some n) (hn2 : n ≤ sizeLine) (nodef : d.params.defaults = []) (rm : Room k callerA) (hY : ∀ (w : World) (h : Heap), YP w h → (K w.params).In h)
    (F : ∀ (w : World) (mg : Str → Option Value) (fa : Addr) (h : Heap), (K w.params).In h → h.Ns mainGlobals mg → mg d.name = some (.ref fa) →
      ∃ fd : FuncData, (∀ (s : Shared) (u : Value), BindsTo s fd ⟨[u], []⟩ [(x, u)]) ∧ ∀ base : Heap, (K w.params).In base → base.Ns mainGlobals mg → FnG l.prog w (K w.params) mg base k fa fd [x] (sp w))
    (wish : ∀ (w : World) (H : Hp) (a : Addr) (ns : List Int), ns.length ≤ n → Only H → SqL (K w.params) H a (ns.map V.int) → sp w [.ref a] H (fun v _ => v = .bl true) fun _ _ _ => False) :
    PySem.W.WalkO q loose XP YP l.row.toRowW d [] (fun f vs => PySem.call f vs) := by
  refine Att.attach_call hn nodef fun w _ _ mg _ fa _ _ _ _ a _ ns G Y _ _ _ hm ob hi le gn => ?_
  obtain ⟨_, bi, run⟩ := F w mg fa _ (hY w _ Y) G.T.g hm
  exact callG (hY w _ Y) G.T.g G.T.b G.T.builtins G.T.nolimit gn ob hi (Nat.le_trans le hn2) rm run bi fun H h1 h2 => wish w H a ns le h1 h2
/-! ### repr of data -/
/-- data without dicts, not deep, its text not long -/
def Shw (m n : Nat) (d : PyData) : Prop := d.showable = true ∧ d.hasDict = false ∧ d.canLay0 = true ∧ d.depth ≤ n ∧ d.shown.length ≤ m
def rRepr (K : PySem.W.Frag) : List V → Hp → VK → Prop := fun xs H Q => ∃ x d, xs = [x] ∧ (∃ a, x = .ref a) ∧ Dp K H x d ∧ Shw 10000000 60 d ∧ Q (.str d.shown) H
theorem kx_repr {X : Cx} {K : PySem.W.Frag} (h : X.K = K) (gd : X.A.guards = some []) (hu : X.A.units + 64 < cLine) : CallR X (.builtin "repr") (rRepr K) := by
  subst h
  intro pins s σ H xs us Q inv rv ⟨x, d, e, ⟨a, ea⟩, hd, ⟨s1, s2, s3, s4, s5⟩, q⟩
  subst e ea
  cases rv with
  | cons r n =>
    cases n
    obtain ⟨as, rd⟩ := Dp.reads inv d _ _ hd r
    obtain rfl := r
    exact repr_of_reads' rd s1 (PyData.noDict_hsm s2) gd (by omega) (fun _ _ e => e) (fun h' u tk hk => ⟨.str _, H, inv.kept hk, ⟨_, rfl⟩, q⟩) (Nat.le_trans s5 (by decide))
end VG
namespace VL
open PySem L2
section
variable {C : Ctx} {f f1 : Bool} {ta : TE} {da : DE}
@[simp] def isRef : PyData → Bool
  | .list _ => true
  | .tuple _ => true
  | _ => false
@[simp] def gRepr : List PyData → (PyData → Prop) → Prop := fun xs Φ => ∃ d, xs = [d] ∧ isRef d = true ∧ VG.Shw 10000000 60 d ∧ Φ (.str d.shown)
theorem cbd_repr : CbD C (VG.rRepr C.K) gRepr := fun H vs xs Φ Q r ⟨d, e, e2, hs, p⟩ q => by
  subst e
  cases r with
  | cons h n =>
    cases n
    refine ⟨_, d, rfl, ?_, h.dp hs.2.2.1, hs, q _ _ (fun _ => .str _) p⟩
    cases h <;> first | exact ⟨_, rfl⟩ | simp at e2
end
theorem body_start {K : PySem.W.Frag} {ex : Option Addr} {H H0 : Hp} {rs : List R} {vs : List V} {Φ : RX → Prop} {Q : VK} {N : List Str} {ln : Nat} {t : TS} {d : DS} (hn : ln = N.length) (hd : ∀ (ex : Option Addr) (He Hf : Hp), SmS ⟨K, ex, He, Hf⟩ t d) (wf : Wf ⟨K, ex, H, H0⟩ H0 H) (ra : RRas K ex H H0 vs rs)
    (hp : d { nx := fun _ => Φ (.d .none), rt := Φ } (startD ln rs)) (q : ∀ H0' H' v r, Wf ⟨K, ex, H, H0⟩ H0' H' → RXR ⟨K, ex, H, H0⟩ H0' H' v r → Φ r → Q v H') : t { nx := fun _ H' => Q .non H', rt := Q } (L2.start N vs) H := by
  have hlen := ra.length
  refine hd ex H H0 _ (startD ln rs) H0 H _ _ ⟨wf, ?_, fun i r e => ?_, fun i j a b xs ys n e1 e2 a1 a2 => ?_⟩ hp ⟨fun H0' H' σ δ g s' w' => ?_, fun H0' H' v r g w' xr p' => q H0' H' v r w' xr p', fun _ _ _ _ _ _ h => h.elim, fun _ _ _ _ _ _ h => h.elim⟩
  · simp [L2.start, startD, hlen, hn]
  · unfold startD at e
    by_cases hi : i < rs.length
    · rw [List.getElem?_append_left (by simpa using hi), List.getElem?_map] at e
      cases e1 : rs[i]? with
      | none => rw [e1] at e; simp at e
      | some r' =>
        rw [e1] at e
        simp at e
        subst e
        obtain ⟨v, h1, h2⟩ := ra.get e1
        refine ⟨v, ?_, ?_⟩
        · unfold L2.start
          rw [List.getElem?_append_left (by rw [List.length_map, hlen]; exact hi), List.getElem?_map, h1]
          rfl
        · cases r' with
          | d x => exact h2
          | own a xs => exact h2.elim
          | drw => exact h2
          | raw u => exact h2
          | scr ns => exact h2
          | fn F => exact h2
          | dct a es => exact h2.elim
          | reg u m => exact h2.elim
    · rw [List.getElem?_append_right (by simpa using hi)] at e
      rw [List.getElem?_replicate] at e
      split at e <;> simp at e
  · exfalso
    have f : ∀ {i : Nat} {a : Addr} {r : R}, (startD ln rs)[i]? = some (some r) → a ∈ r.adr → False := fun {i a r} e ea => by
      unfold startD at e
      by_cases hi : i < rs.length
      · rw [List.getElem?_append_left (by simpa using hi), List.getElem?_map] at e
        cases e1 : rs[i]? with
        | none => rw [e1] at e; simp at e
        | some r' =>
          rw [e1] at e
          simp at e
          subst e
          obtain ⟨v, h1, h2⟩ := ra.get e1
          cases r' with
          | own a xs => exact h2
          | dct a xs => exact h2
          | reg u m => exact h2
          | d x => cases ea
          | drw => cases ea
          | raw u => cases ea
          | scr ns => cases ea
          | fn F => cases ea
      · rw [List.getElem?_append_right (by simpa using hi)] at e
        rw [List.getElem?_replicate] at e
        split at e <;> simp at e
    exact f e1 a1
  · exact q H0' H' .non (.d .none) s'.toWf .non w'

theorem fn_okG {P : Program} {w : World} {K : PySem.W.Frag} {mg : Str → Option Value} {base : Heap} {x qual : Str} {st : Stmt} {fa : Addr} {fd : FuncData} {N ps : List Str} {k : Nat} {p : VSp}
    (F : Fun K x qual st fa fd) (S : FnScope N ps (defScope st))
    (hbody : ∀ (cdv : Value) (A : Around) (outer : List Env) (s : Shared) (H : Hp) (E : XK), A.guards = some [] → Room k (A.deeper (PyProof.Rows.envOfC qual (defScope st) s.heap.objs.size fa cdv)) →
      ∃ t, PSs (cxOf CX0 P w K mg base N qual (defScope st) fa cdv A outer s H E).nox (defBody st) t ∧ ∃ d : DS, (∀ (ex : Option Addr) (He Hf : Hp), SmS ⟨K, ex, He, Hf⟩ t d) ∧ ∀ rs Φ, p rs Φ → d { nx := fun _ => Φ (.d .none), rt := Φ } (startD N.length rs)) : VG.FnG P w K mg base (k + 1) fa fd ps (toSp K ps.length p) := by
  refine VG.okG F S (fun vs H Q E h => h.1) (fun cdv A outer s H vs Q E gd hr h => ?_)
  obtain ⟨t, ht, d, hd, hp⟩ := hbody cdv A outer s H E gd hr
  obtain ⟨hl, ex, H0, rs, Φ, wf, ra, hsp, q⟩ := h
  exact ⟨t, ht, body_start rfl hd wf ra (hp rs Φ hsp) q⟩
/-- a comprehension over range(n) -/
theorem oLc_nn {da : DE} {i : Nat} {de : DE} {δ : Dl} {Φ : List PyData → Prop} {n : Nat} (hn : n ≤ 1000000) (h : ∀ Ψ : PyData → Prop, Ψ (.int n) → da δ Ψ) (P : List PyData → Prop) (h0 : P [])
    (hs : ∀ (k : Nat) (acc : List PyData) (Ψ : PyData → Prop), k < n → acc.length = k → P acc → (∀ z, P (acc ++ [z]) → Ψ z) → de (δ.set i (some (.d (.int k)))) Ψ) (hΦ : ∀ acc, acc.length = n → P acc → Φ acc) : oLc (iR1 da) i dYes de δ Φ := by
  unfold oLc
  refine h _ ⟨n, rfl, by omega, by omega, fun k acc => acc.length = k ∧ P acc, ⟨rfl, h0⟩, fun k y acc hy ha => ?_, fun acc ha => ?_⟩
  · obtain ⟨hk, rfl⟩ := rng_get hy
    have hk : k < n := hk
    unfold dYes
    dsimp only
    rw [if_pos rfl]
    rw [show (0 : Int) + (k : Int) = (k : Int) from Int.zero_add _]
    refine hs k acc _ hk ha.1 ha.2 fun z hz => ⟨?_, ?_, hz⟩
    · rw [ha.1]
      exact Nat.lt_of_lt_of_le (show k < 1000000 by omega) (by decide)
    · rw [List.length_append, ha.1]; rfl
  · rw [rng_len] at ha
    exact hΦ acc ha.1 ha.2
section
variable {C : Ctx} {f f2 : Bool} {tb : TE} {db : DE}
/-- an item of an owned list -/
@[simp] def dIxO (i : Nat) (db : DE) : DE := fun δ Φ => ∃ a xs, δ[i]? = some (some (.own a xs)) ∧ db δ fun y => ∃ k z, y = .int k ∧ atI xs k = some z ∧ Φ z
theorem sm_ixO (i : Nat) (hb : Sm C f2 tb db) : Sm C f (tOp (rIx C.K) (tVar i) tb) (dIxO i db) := fun σ δ H0 H Φ Q s ⟨a, xs, e, w⟩ q => by
  obtain ⟨v, e1, rfl, h1, h2, h3, vs, h4, h5⟩ := s.sl i _ e
  refine ⟨_, e1, hb σ δ H0 H _ _ s w fun H02 H2 u y g2 r2 ⟨k, z, e2, e3, p⟩ => ?_⟩
  subst e2
  cases r2
  have s2 := s.go g2
  obtain ⟨v', f1, f2, f3, f4, f5, us, f6, f7⟩ := s2.sl i _ e
  obtain ⟨y', e4, ry⟩ := atI_rp f7 e3
  exact .inl ⟨a, us, k, y', rfl, rfl, SqL.of f6, e4, q H02 H2 y' z g2 (Rp.mono g2.wf.to ry) p⟩
end
/-- a statement with two ways: what the test tells, then each way -/
theorem dIfS_two {dt : DT} {d1 d2 : DS} {E : DEnds} {δ : Dl} (Ok : Bool → Prop) (h : ∀ Ψ : Bool → Prop, (∀ b, Ok b → Ψ b) → dt δ Ψ) (h1 : Ok true → d1 E δ) (h2 : Ok false → d2 E δ) : dIfS dt d1 d2 E δ := by
  unfold dIfS
  refine h _ fun b hb => ?_
  cases b with
  | true => rw [if_pos rfl]; exact h1 hb
  | false => rw [if_neg Bool.false_ne_true]; exact h2 hb
/-- range(n), n at most L -/
theorem dFor_r {da : DE} {i : Nat} {db : DS} {E : DEnds} {δ : Dl} (L : Nat) (hL : L < 4611686018427387904) (h : ∀ Ψ : PyData → Prop, (∀ n : Nat, n ≤ L → Ψ (.int n)) → da δ Ψ) (I : Nat → Dl → Prop) (h0 : I 0 δ)
    (hs : ∀ (k : Nat) (δ' : Dl), k < L → I k δ' → db { E with nx := I (k + 1), ct := I (k + 1), bk := E.nx } (δ'.set i (some (.d (.int k))))) (he : ∀ (n : Nat) (δ' : Dl), n ≤ L → I n δ' → E.nx δ') : dFor (iR1 da) (dgName i) db E δ := by
  unfold dFor
  refine h _ fun n hn => ⟨n, rfl, by omega, by omega, I, h0, fun k y δ' hy hI => ?_, fun δ' hI => ?_⟩
  · obtain ⟨hk, rfl⟩ := rng_get hy
    have hk : k < n := hk
    have := hs k δ' (by omega) hI
    rw [show (k : Int) = 0 + (k : Int) from (Int.zero_add _).symm] at this
    exact this
  · rw [rng_len] at hI
    exact he n δ' hn hI
end VL

/-! reversed of a tuple, sums, comprehensions with a test. -/
namespace VL
open PySem L2
section
variable {C : Ctx} {ta : TE} {da : DE}
@[simp] def iRvA (da : DE) : DI := fun δ Φ => da δ fun x => ∃ xs, seqOf x = some xs ∧ Φ xs.reverse
theorem smi_revA (ha : Sm C true ta da) : SmI C (RT.iRevA C.K ta) (iRvA da) := fun σ δ H0 H Φ R s w q =>
  ha σ δ H0 H _ _ s w fun H01 H1 v x g1 r1 ⟨xs, e, p⟩ => by
    cases r1 with
    | @lst a us _ h r =>
      simp [seqOf] at e
      subst e
      refine ⟨a, us, rfl, .inl ⟨SqL.of (g1.wf.sub _ _ h), q _ _ _ _ g1 ⟨fun H0' H' i e w hi => ?_, fun H0' H' i e w hi => ?_, fun H0' H' i v H'' e w hi y => ?_⟩ p⟩⟩
      · rw [List.length_reverse] at hi
        show us.length ≤ i
        rw [r.length]; omega
      · rw [List.length_reverse] at hi
        obtain ⟨y, hy⟩ := get_lt (show us.length - 1 - i < us.length by rw [r.length]; omega)
        exact ⟨by rw [r.length]; exact hi, us, y, SqL.of (w.sub _ _ (e _ _ h)), hy⟩
      · rw [List.length_reverse] at hi
        obtain ⟨rfl, y⟩ := y
        obtain ⟨z, hz, rz⟩ := r.get' (y us (SqL.of (w.sub _ _ (e _ _ h))))
        refine ⟨H0', z, .refl w, ?_, rz.mono e⟩
        rw [List.getElem?_reverse hi, ← r.length]
        exact hz
    | @tup a us _ h r =>
      simp [seqOf] at e
      subst e
      refine ⟨a, us, rfl, .inr ⟨same_t g1.wf.sub h, q _ _ _ _ g1 ⟨fun H0' H' i e w hi => ?_, fun H0' H' i e w hi => ?_, fun H0' H' i v H'' e w hi y => ?_⟩ p⟩⟩
      · rw [List.length_reverse] at hi
        show us.length ≤ i
        rw [r.length]; omega
      · rw [List.length_reverse] at hi
        obtain ⟨y, hy⟩ := get_lt (show us.length - 1 - i < us.length by rw [r.length]; omega)
        exact ⟨by rw [r.length]; exact hi, us, y, same_t w.sub (same_t e h), hy⟩
      · rw [List.length_reverse] at hi
        obtain ⟨rfl, y⟩ := y
        obtain ⟨z, hz, rz⟩ := r.get' (y us (same_t w.sub (same_t e h)))
        refine ⟨H0', z, .refl w, ?_, rz.mono e⟩
        rw [List.getElem?_reverse hi, ← r.length]
        exact hz
    | _ => simp [seqOf] at e
@[simp] def gSum : List PyData → (PyData → Prop) → Prop := fun xs Φ => ∃ ns : List Int, xs = [.list (ns.map .int)] ∧ Φ (.int ns.sum)
theorem cbd_sum : CbD C (rSum C.K) gSum := fun H vs xs Φ Q r ⟨ns, e, p⟩ q => by
  subst e
  cases r with
  | cons h n =>
    cases n
    cases h with
    | lst h r =>
      have e := rpa_ints r
      subst e
      exact ⟨_, ns, rfl, SqL.of h, q _ _ (fun _ => .int _) p⟩
end
theorem kx_revA {X : Cx} {K : PySem.W.Frag} (h : X.K = K) {tg e : Expr} {te : TE} {p pos : Pos} (hg : Gl X "reversed") (hm : X.mg "reversed" = none) (he : PE X e te) (hs : starEach [e] X.env = (false, eval e X.env) :: starEach [] X.env := by rfl) : PI X tg (.Call (.Name "reversed" p) [e] [] pos) (RT.iRevA K te) := by
  subst h
  exact RT.pi_revA hg hm he hs
theorem kx_sum {X : Cx} {K : PySem.W.Frag} (h : X.K = K) (hc : X.calm = true) : CallR X (.builtin "sum") (rSum K) := by
  subst h
  exact cr_sum hc
/-- a comprehension with a test over a walked list: the items that pass, each by a function -/
theorem oLc_filter {α : Type} {di : DI} {i : Nat} {dt : DT} {de : DE} {δ : Dl} {Φ : List PyData → Prop} (xs : List α) (D G : α → PyData) (T : α → Bool) (hn : xs.length < 1000000) (h : ∀ Ψ : List PyData → Prop, Ψ (xs.map D) → di δ Ψ)
    (ht : ∀ (k : Nat) (a : α) (Ψ : Bool → Prop), xs[k]? = some a → Ψ (T a) → dt (δ.set i (some (.d (D a)))) Ψ)
    (hs : ∀ (k : Nat) (a : α) (Ψ : PyData → Prop), xs[k]? = some a → T a = true → Ψ (G a) → de (δ.set i (some (.d (D a)))) Ψ) (hΦ : Φ ((xs.filter T).map G)) : oLc di i dt de δ Φ := by
  unfold oLc
  refine h _ ⟨fun k acc => acc = ((xs.take k).filter T).map G, by simp, fun k y acc hy ha => ?_, fun acc ha => ?_⟩
  · subst ha
    rw [List.getElem?_map] at hy
    obtain ⟨a, ha, rfl⟩ := Option.map_eq_some_iff.mp hy
    have hk := (List.getElem?_eq_some_iff.mp ha).1
    refine ht k a _ ha ?_
    cases e : T a with
    | false =>
      rw [if_neg Bool.false_ne_true]
      show ((xs.take k).filter T).map G = ((xs.take (k + 1)).filter T).map G
      rw [List.take_add_one, ha, List.filter_append]
      simp [e]
    | true =>
      rw [if_pos rfl]
      refine hs k a _ ha e ⟨?_, ?_⟩
      · rw [List.length_map]
        have h1 := List.length_filter_le T (xs.take k)
        rw [List.length_take] at h1
        exact Nat.lt_of_lt_of_le (show _ < 1000000 by omega) (by decide)
      · show ((xs.take k).filter T).map G ++ [G a] = ((xs.take (k + 1)).filter T).map G
        rw [List.take_add_one, ha, List.filter_append]
        simp [e]
  · subst ha
    rw [List.length_map, List.take_length]
    exact hΦ
section
variable {C : Ctx}
@[simp] def gIsB (neg : Bool) : PyData → PyData → (PyData → Prop) → Prop := fun x y Φ => ∃ a b, x = .bool a ∧ y = .bool b ∧ Φ (.bool (if neg then !decide (a = b) else decide (a = b)))
theorem opd_notB : OpD C rNotB (gIsB true) := fun H v u x y Φ Q rv ru ⟨a, b, e1, e2, p⟩ q => by
  subst e1 e2
  cases rv
  cases ru
  exact ⟨a, b, rfl, rfl, q _ _ (fun _ => .bl _) p⟩
theorem opd_isB : OpD C rIsB (gIsB false) := fun H v u x y Φ Q rv ru ⟨a, b, e1, e2, p⟩ q => by
  subst e1 e2
  cases rv
  cases ru
  exact ⟨a, b, rfl, rfl, q _ _ (fun _ => .bl _) p⟩
end
/-- range(n), n from 1 to L -/
theorem dFor_r1 {da : DE} {i : Nat} {db : DS} {E : DEnds} {δ : Dl} (L : Nat) (hL : L < 4611686018427387904) (h : ∀ Ψ : PyData → Prop, (∀ n : Nat, 1 ≤ n → n ≤ L → Ψ (.int n)) → da δ Ψ) (I : Nat → Dl → Prop) (h0 : I 0 δ)
    (hs : ∀ (k : Nat) (δ' : Dl), k < L → I k δ' → db { E with nx := I (k + 1), ct := I (k + 1), bk := E.nx } (δ'.set i (some (.d (.int k))))) (he : ∀ (n : Nat) (δ' : Dl), 1 ≤ n → n ≤ L → I n δ' → E.nx δ') : dFor (iR1 da) (dgName i) db E δ := by
  unfold dFor
  refine h _ fun n hn1 hn => ⟨n, rfl, by omega, by omega, I, h0, fun k y δ' hy hI => ?_, fun δ' hI => ?_⟩
  · obtain ⟨hk, rfl⟩ := rng_get hy
    have hk : k < n := hk
    have := hs k δ' (by omega) hI
    rw [show (k : Int) = 0 + (k : Int) from (Int.zero_add _).symm] at this
    exact this
  · rw [rng_len] at hI
    exact he n δ' hn1 hn hI
section
variable {C : Ctx} {ta tb : TE} {da db : DE} {f2 : Bool}
theorem RpA.flat {K : PySem.W.Frag} {H : Hp} {vs : List V} {xs : List PyData} (r : RpA K H vs xs) : ∀ n : Nat, RpA K H (List.replicate n vs).flatten (List.replicate n xs).flatten
  | 0 => .nil
  | n + 1 => by
    rw [List.replicate_succ, List.replicate_succ, List.flatten_cons, List.flatten_cons]
    exact r.append (RpA.flat r n)
/-- xs * n, a new list -/
@[simp] def oRep (da db : DE) : DO := fun δ Φ => da δ fun x => db δ fun y => ∃ xs k, x = .list xs ∧ y = .int k ∧ -(2 ^ 63) ≤ k ∧ k < 2 ^ 63 ∧ xs.length * k.toNat ≤ sizeLine ∧ Φ (List.replicate k.toNat xs).flatten
theorem smo_rep (ha : Sm C true ta da) (hb : Sm C f2 tb db) : SmO C (tOp rRep ta tb) (oRep da db) := fun σ δ H0 H Φ Q s w q =>
  ha σ δ H0 H _ _ s w fun H01 H1 v x g1 r1 w1 => hb σ δ H01 H1 _ _ (s.go g1) w1 fun H02 H2 u y g2 r2 ⟨xs, k, e1, e2, h1, h2, h3, p⟩ => by
    subst e1 e2
    cases r2
    have r3 := r1.mono g2.fz
    cases r3 with
    | @lst a us _ h r =>
      refine ⟨a, k, us, rfl, rfl, g2.wf.sub _ _ h, h1, h2, by rw [r.length]; exact h3, fun l hl => ?_⟩
      have g3 := Go.free (o := .lst (List.replicate k.toNat us).flatten) g2.wf hl
      exact q _ _ l _ _ ((g1.trans g2).trans g3) ((g1.trans g2).fresh hl) (g2.wf.none hl) upd_same (r.flat _) p
end
section
variable {C : Ctx} {ta : TE} {da : DE} {f1 : Bool}
/-- list(range(n)), a new list -/
@[simp] def oListRg (da : DE) : DO := fun δ Φ => da δ fun x => ∃ n : Nat, x = .int n ∧ n ≤ 16777216 ∧ Φ (rng 0 n)
theorem rpa_rng {K : PySem.W.Frag} {H : Hp} (n : Nat) : RpA K H (rgV 0 (n : Int)) (rng 0 n) := by
  unfold rgV rng
  rw [show ((n : Int) - 0).toNat = n by omega]
  generalize List.range n = l
  induction l with
  | nil => exact .nil
  | cons a l ih => exact .cons (.int _) ih
theorem smo_listRg (ha : Sm C f1 ta da) : SmO C (tLstRg (tRg1 ta)) (oListRg da) := fun σ δ H0 H Φ Q s w q =>
  ha σ δ H0 H _ _ s w fun H01 H1 v x g1 r1 ⟨n, e, hn, p⟩ => by
    subst e
    cases r1
    refine ⟨(n : Int), rfl, RgOk.of_le (by omega) (by omega) (by omega) (by omega), fun l hl => ?_⟩
    have g2 := Go.free (o := .lst (rgV 0 (n : Int))) g1.wf hl
    exact q _ _ l _ _ (g1.trans g2) (g1.fresh hl) (g1.wf.none hl) upd_same (rpa_rng n) p
end
/-- while: a statement that falls by a number; what the test tells, then the turn, then the end -/
theorem dWhile_by {dt : DT} {db : DS} {E : DEnds} {δ : Dl} (I : Nat → Dl → Prop) (h0 : ∃ m, I m δ)
    (hs : ∀ m δ', I m δ' → ∃ Ok : Bool → Prop, (∀ Ψ : Bool → Prop, (∀ b, Ok b → Ψ b) → dt δ' Ψ) ∧ (Ok true → db { E with nx := fun δ'' => ∃ m', m' < m ∧ I m' δ'', ct := fun δ'' => ∃ m', m' < m ∧ I m' δ'', bk := E.nx } δ') ∧ (Ok false → E.nx δ')) : dWhile dt db E δ := by
  refine ⟨I, h0, fun m δ' hI => ?_⟩
  obtain ⟨Ok, h1, h2, h3⟩ := hs m δ' hI
  refine h1 _ fun b hb => ?_
  cases b with
  | true => rw [if_pos rfl]; exact h2 hb
  | false => rw [if_neg Bool.false_ne_true]; exact h3 hb
/-- what is walked is known by a property -/
theorem dFor_q {di : DI} {dg : DG} {db : DS} {E : DEnds} {δ : Dl} (Q : List PyData → Prop) (h : ∀ Ψ : List PyData → Prop, (∀ xs, Q xs → Ψ xs) → di δ Ψ) (I : Nat → Dl → Prop) (h0 : I 0 δ)
    (hs : ∀ (xs : List PyData) (k : Nat) (y : PyData) (δ' : Dl), Q xs → xs[k]? = some y → I k δ' → dg y δ' fun δ'' => db { E with nx := I (k + 1), ct := I (k + 1), bk := E.nx } δ'') (he : ∀ (xs : List PyData) (δ' : Dl), Q xs → I xs.length δ' → E.nx δ') : dFor di dg db E δ := by
  unfold dFor
  exact h _ fun xs hq => ⟨I, h0, fun k y δ' hy hI => hs xs k y δ' hq hy hI, fun δ' hI => he xs δ' hq hI⟩
section
variable {C : Ctx} {te ta tb td : TE} {de da db dd : DE} {g1 g2 : TG} {dg1 dg2 : DG} {f f1 f2 : Bool}
/-- a = b = e -/
@[simp] def dAsg2 (de : DE) (dg1 dg2 : DG) : DS := fun E δ => de δ fun x => dg1 x δ fun δ1 => dg2 x δ1 E.nx
theorem sms_asg2 (h : Sm C true te de) (k1 : SmG C g1 dg1) (k2 : SmG C g2 dg2) : SmS C (tAsg2 te g1 g2) (dAsg2 de dg1 dg2) := fun σ δ H0 H E D s w e =>
  h σ δ H0 H _ _ s w fun H0' H' v x g r p => k1 v x σ δ H0' H' _ _ (s.go g) r p fun σ1 δ1 s1 w1 => k2 v x σ1 δ1 H0' H' _ _ s1 r w1 fun σ2 δ2 s2 w2 => e.nx H0' H' σ2 δ2 g.fz s2 w2
/-- {k1: a, k2: b}[d], keys and values texts -/
@[simp] def dMenu2 (k1 k2 : Str) (da db dd : DE) : DE := fun δ Φ => da δ fun x => db δ fun y => ∃ i j, x = .str i ∧ y = .str j ∧ ¬ k2 = k1 ∧ dd δ fun t => ∃ s, t = .str s ∧ ((s = k1 ∧ Φ (.str i)) ∨ (s = k2 ∧ Φ (.str j)))
theorem sm_menu2 {k1 k2 : Str} (ha : Sm C f1 ta da) (hb : Sm C f2 tb db) (hd : Sm C false td dd) : Sm C f (tDGet (tDisp [(tC (.str k1), ta), (tC (.str k2), tb)]) td) (dMenu2 k1 k2 da db dd) := fun σ δ H0 H Φ Q s w q => by
  intro p hp
  have gp : Go C H0 H H0 (upd H p (.dK [])) := Go.free s.toWf hp
  have nex := (Go.he s.toWf hp).2
  refine ha σ δ H0 _ _ _ (s.go gp) w fun H01 H1 v x g1 r1 w1 => hb σ δ H01 H1 _ _ ((s.go gp).go g1) w1 fun H02 H2 u y g2 r2 w2 => ?_
  have g12 := g1.trans g2
  have hk : H2 p = some (.dK []) := g12.kp p _ nex upd_same
  have g0 := gp.trans g12
  have hn : H02 p = none := by
    cases e : H02 p with
    | none => rfl
    | some o =>
      rcases g12.nw p o e with h | h
      · rw [s.toWf.none hp] at h; cases h
      · rw [upd_same] at h; cases h
  obtain ⟨i, j, rfl, rfl, n1, w4⟩ := w2
  cases r1
  cases r2
  have m1 : mergeK [] [((.inr k1 : Key), V.str i), (.inr k2, .str j)] = [((.inr k1 : Key), V.str i), (.inr k2, .str j)] := by
    simp [mergeK, putK, Ne.symm n1, n1]
  refine ⟨hk, [((.inr k1 : Key), V.str i), (.inr k2, .str j)], rfl, by simp, ?_⟩
  rw [m1]
  have g4 := Go.wr (o := .dK [((.inr k1 : Key), V.str i), (.inr k2, .str j)]) s.toWf hp g0 hn
  refine hd σ δ H02 _ _ _ (s.go g4) w4 fun H05 H5 v5 x5 g5 r5 ⟨st, e5, p5⟩ => ?_
  subst e5
  cases r5
  have h5 : H5 p = some (.dK [((.inr k1 : Key), V.str i), (.inr k2, .str j)]) := g5.kp p _ nex upd_same
  rcases p5 with ⟨rfl, p5⟩ | ⟨rfl, p5⟩
  · refine ⟨p, .str i, rfl, .inl ⟨_, .inr st, .inl h5, rfl, ?_⟩, q _ _ _ _ (g4.trans g5) (.str i) p5⟩
    simp [valV]
  · refine ⟨p, .str j, rfl, .inl ⟨_, .inr st, .inl h5, rfl, ?_⟩, q _ _ _ _ (g4.trans g5) (.str j) p5⟩
    simp [valV, Ne.symm n1]
end
end VL

/-! a written dict of defs: looked up into a slot, asked for a key, its def called. -/
namespace VL
open PySem L2
/-- a written dict whose values are defs -/
structure KdF (K : PySem.W.Frag) (w : World) (d : Addr) (L : List (Str × Addr)) : Prop where
  ex : ∃ es n, L2.KDict K w d es n
  all : ∀ k f, (k, f) ∈ L → PySem.W.nsIn K d k = some (some (.ref f))
theorem KdF.mk' {K : PySem.W.Frag} {w : World} {d : Addr} {L : List (Str × Addr)} {es : Array DictEntry} {n : Nat} (h : K.lookup d = some ⟨.type "dict", none, .dict es n, #[]⟩) (hk : PySem.W.KeysLit w.params es.toList) (lo : (d == sysModules) = false)
    (all : ∀ k f, (k, f) ∈ L → PySem.W.nsIn K d k = some (some (.ref f))) : KdF K w d L := ⟨⟨es, n, h, hk, lo⟩, all⟩
theorem kdf_nil {K : PySem.W.Frag} {d : Addr} : ∀ k f, (k, f) ∈ ([] : List (Str × Addr)) → PySem.W.nsIn K d k = some (some (.ref f)) := fun _ _ h => nomatch h
theorem kdf_cons {K : PySem.W.Frag} {d : Addr} {L : List (Str × Addr)} {k : Str} {f : Addr} (h : PySem.W.nsIn K d k = some (some (.ref f))) (t : ∀ k f, (k, f) ∈ L → PySem.W.nsIn K d k = some (some (.ref f))) : ∀ k' f', (k', f') ∈ (k, f) :: L → PySem.W.nsIn K d k' = some (some (.ref f')) := fun k' f' h' => by
  rcases List.mem_cons.mp h' with e | e
  · cases e; exact h
  · exact t k' f' e
theorem KdF.kdct {K : PySem.W.Frag} {w : World} {d : Addr} {L : List (Str × Addr)} (D : KdF K w d L) {k : Str} {f : Addr} (h : (k, f) ∈ L) : KDct K w d k (.ref f) := by
  obtain ⟨es, n, D1⟩ := D.ex
  exact ⟨es, n, _, D1.at_, D1.lit, D.all k f h, rfl⟩
/-- key not in the dict, for a key that it has -/
def rNotF (d : Addr) (L : List (Str × Addr)) : R2 := fun x y H Q => ∃ (z : Str) (f : Addr), x = .str z ∧ y = .ref d ∧ (z, f) ∈ L ∧ Q (.bl false) H
theorem kx_notF {X : Cx} {K : PySem.W.Frag} {w : World} {d : Addr} {L : List (Str × Addr)} (h : X.K = K) (h2 : X.w = w) (D : KdF K w d L) : OpR X (compareOp .NotIn) (rNotF d L) := by
  subst h h2
  obtain ⟨es, n, D1⟩ := D.ex
  intro pins s σ H x y v u Q I rx ry ⟨z, f, e1, e2, m, q⟩
  exact (op_notIn_kd D1) pins s σ H x y v u Q I rx ry ⟨z, _, e1, e2, D.all z f m, q⟩
section
variable {C : Ctx} {ta tb : TE} {da db d1 d2 : DE} {f1 f2 f : Bool} {tas : TA} {dqs : DR}
@[simp] def dNotF (L : List (Str × Addr)) (da : DE) : DE := fun δ Φ => da δ fun x => ∃ (z : Str) (f : Addr), x = .str z ∧ (z, f) ∈ L ∧ Φ (.bool false)
theorem sm_notF {d : Addr} {L : List (Str × Addr)} {v : V} (hv : v = .ref d) (ha : Sm C f1 ta da) : Sm C f (tOp (rNotF d L) ta (tC v)) (dNotF L da) := fun σ δ H0 H Φ Q s w q =>
  ha σ δ H0 H _ _ s w fun H01 H1 u y g1 r1 ⟨z, fa, e, m, p⟩ => by
    subst e hv
    cases r1
    exact ⟨z, fa, rfl, rfl, m, q _ _ _ _ g1 (.bl false) p⟩
/-- a slot gets a def -/
theorem St.set_raw {H0 H : Hp} {σ : L2.St} {δ : Dl} (s : St C H0 H σ δ) (i : Nat) (v : V) : St C H0 H (σ.set i (some v)) (δ.set i (some (.raw v))) where
  toWf := s.toWf
  len := by rw [List.length_set, List.length_set, s.len]
  sl := fun j r e => by
    by_cases q : i = j
    · subst q
      rw [List.getElem?_set_self'] at e
      cases hd : δ[i]? with
      | none => rw [hd] at e; simp at e
      | some z =>
        rw [hd] at e
        simp at e
        subst e
        have : i < σ.length := by rw [s.len]; exact (List.getElem?_eq_some_iff.mp hd).1
        exact ⟨v, by rw [List.getElem?_set_self this], rfl⟩
    · rw [List.getElem?_set_ne q] at e
      obtain ⟨u, e1, h1⟩ := s.sl j r e
      exact ⟨u, by rw [List.getElem?_set_ne q]; exact e1, h1⟩
  sep := fun j k a b p q n e1 e2 a1 a2 => by
    rcases set_at e1 with ⟨_, rfl⟩ | ⟨_, e1⟩
    · cases a1
    rcases set_at e2 with ⟨_, rfl⟩ | ⟨_, e2⟩
    · cases a2
    exact s.sep j k a b p q n e1 e2 a1 a2
/-- slot = dict[key] -/
@[simp] def dRowF (i : Nat) (L : List (Str × Addr)) (db : DE) : DS := fun E δ => db δ fun y => ∃ (z : Str) (f : Addr), y = .str z ∧ (z, f) ∈ L ∧ E.nx (δ.set i (some (.raw (.ref f))))
theorem sms_rowF {w : World} {d : Addr} {L : List (Str × Addr)} {v : V} (i : Nat) (hv : v = .ref d) (D : KdF C.K w d L) (hb : Sm C f1 tb db) : SmS C (tAsg (tOp (rIxD C.K w) (tC v) tb) (gName i)) (dRowF i L db) := fun σ δ H0 H E X s w' e =>
  hb σ δ H0 H _ _ s w' fun H01 H1 u y g1 r1 ⟨z, fa, e1, m, p⟩ => by
    subst e1 hv
    cases r1
    exact ⟨d, z, _, rfl, rfl, D.kdct m, e.nx H01 H1 _ _ g1.fz ((s.go g1).set_raw i _) p⟩
/-- one of two ways to say an expression -/
def tAlt (t1 t2 : TE) : TE := fun σ H Q => t1 σ H Q ∨ t2 σ H Q
theorem pe_alt {X : Cx} {e : Expr} {t1 t2 : TE} (h1 : PE X e t1) (h2 : PE X e t2) : PE X e (tAlt t1 t2) := ⟨fun pins s σ H Q I h => h.elim (h1.run pins s σ H Q I) (h2.run pins s σ H Q I)⟩
@[simp] def dAlt (d1 d2 : DE) : DE := fun δ Φ => d1 δ Φ ∨ d2 δ Φ
theorem sm_alt {t1 t2 : TE} (h1 : Sm C f t1 d1) (h2 : Sm C f t2 d2) : Sm C f (tAlt t1 t2) (dAlt d1 d2) := fun σ δ H0 H Φ Q s w q => w.elim (fun w => .inl (h1 σ δ H0 H Φ Q s w q)) (fun w => .inr (h2 σ δ H0 H Φ Q s w q))
end
section
variable {C : Ctx} {gs : TGs} {dgs : DGs}
/-- a, b = a list -/
@[simp] def dgUnl (n : Nat) (dgs : DGs) : DG := fun x δ Ψ => ∃ xs, x = .list xs ∧ xs.length = n ∧ dgs xs δ Ψ
theorem smg_unl {n : Nat} (h : SmGs C gs dgs) : SmG C (gUnl C.K n gs) (dgUnl n dgs) := fun v x σ δ H0 H Ψ Q s r ⟨xs, e, hn, w⟩ q => by
  subst e
  cases r with
  | @lst a us _ hs r => exact ⟨a, us, rfl, SqL.of (s.toWf.sub _ _ hs), by rw [r.length]; exact hn, h _ _ σ δ H0 H _ _ s r w q⟩
end
end VL

/-! a, b, c = three values. -/
namespace VL
open PySem L2
section
variable {C : Ctx} {f f1 f2 f3 : Bool} {ta tb tc td : TE} {da db dc dd : DE}
@[simp] def dPar3 (i j l : Nat) (da db dc : DE) : DS := fun E δ => da δ fun x => db δ fun y => dc δ fun z => E.nx (((δ.set i (some (.d x))).set j (some (.d y))).set l (some (.d z)))
theorem sms_par3 (i j l : Nat) (ha : Sm C true ta da) (hb : Sm C true tb db) (hc : Sm C true tc dc) : SmS C (tPar3 i j l (tCons ta (tCons tb (tCons tc tNil)))) (dPar3 i j l da db dc) := fun σ δ H0 H E D s w e =>
  ha σ δ H0 H _ _ s w fun H01 H1 v x g1 r1 w1 => hb σ δ H01 H1 _ _ (s.go g1) w1 fun H02 H2 u y g2 r2 w2 => hc σ δ H02 H2 _ _ ((s.go g1).go g2) w2 fun H03 H3 t z g3 r3 w3 =>
    ⟨v, u, t, rfl, e.nx _ _ _ _ ((g1.fz.trans g2.fz).trans g3.fz) ((((((s.go g1).go g2).go g3).set_d i (Rp.mono (g2.fz.trans g3.fz) r1)).set_d j (Rp.mono g3.fz r2)).set_d l r3) w3⟩
end
end VL

/-! dicts: owned by a slot while they grow; frozen as data. -/
namespace VL
open PySem L2
/-! ### entries -/
def getE (es : List (Key × PyData)) (k : Key) : Option PyData := (es.find? fun e => decide (e.1 = k)).map (·.2)
def putE (es : List (Key × PyData)) (k : Key) (x : PyData) : List (Key × PyData) := if (es.any fun e => decide (e.1 = k)) = true then es.map (fun e => if e.1 = k then (e.1, x) else e) else es ++ [(k, x)]
theorem getE_nil (k : Key) : getE [] k = none := rfl
theorem getE_cons (p : Key × PyData) (r : List (Key × PyData)) (k : Key) : getE (p :: r) k = if p.1 = k then some p.2 else getE r k := by
  unfold getE
  rw [List.find?_cons]
  by_cases e : p.1 = k
  · simp [e]
  · simp [e]
theorem getE_any (k : Key) : ∀ es : List (Key × PyData), (es.any fun e => decide (e.1 = k)) = (getE es k).isSome
  | [] => rfl
  | p :: r => by
    rw [List.any_cons, getE_cons]
    by_cases e : p.1 = k
    · simp [e]
    · simp [e, getE_any k r]
theorem getE_append (k : Key) : ∀ es fs : List (Key × PyData), getE (es ++ fs) k = (getE es k).or (getE fs k)
  | [], fs => by rw [List.nil_append, getE_nil]; rfl
  | p :: r, fs => by
    rw [List.cons_append, getE_cons, getE_cons, getE_append k r fs]
    by_cases e : p.1 = k
    · simp [e]
    · simp [e]
theorem putE_new {es : List (Key × PyData)} {k : Key} (x : PyData) (h : getE es k = none) : putE es k x = es ++ [(k, x)] := by
  unfold putE
  rw [getE_any, h]
  rfl
theorem putE_len (es : List (Key × PyData)) (k : Key) (x : PyData) : (putE es k x).length ≤ es.length + 1 := by
  unfold putE
  split
  · rw [List.length_map]; omega
  · rw [List.length_append]; exact Nat.le_refl _
theorem keyD_inj : ∀ {k l : Key}, keyD k = keyD l → k = l
  | .inl i, .inl j, h => by cases h; rfl
  | .inr i, .inr j, h => by cases h; rfl
  | .inl i, .inr j, h => by cases h
  | .inr i, .inl j, h => by cases h
theorem RpK.get {K : PySem.W.Frag} {H : Hp} {k : Key} : ∀ {vs : List (Key × V)} {es : List (Key × PyData)}, RpK K H vs es → (valV vs k = none ∧ getE es k = none) ∨ ∃ v d, valV vs k = some v ∧ getE es k = some d ∧ Rp K H v d
  | _, _, .nil => .inl ⟨rfl, rfl⟩
  | _, _, .cons (k := k') h r => by
    rw [getE_cons]
    by_cases e : k' = k
    · exact .inr ⟨_, _, valV_pos (p := (k', _)) e, if_pos e, h⟩
    · rw [if_neg e, valV_neg (p := (k', _)) e]
      exact RpK.get r
theorem RpK.snoc {K : PySem.W.Frag} {H : Hp} {k : Key} {v : V} {d : PyData} (h : Rp K H v d) : ∀ {vs : List (Key × V)} {es : List (Key × PyData)}, RpK K H vs es → RpK K H (vs ++ [(k, v)]) (es ++ [(k, d)])
  | _, _, .nil => .cons h .nil
  | _, _, .cons g r => .cons g (RpK.snoc h r)
theorem RpK.over {K : PySem.W.Frag} {H : Hp} {k : Key} {v : V} {d : PyData} (h : Rp K H v d) : ∀ {vs : List (Key × V)} {es : List (Key × PyData)}, RpK K H vs es → RpK K H (vs.map fun kv => if kv.1 = k then (kv.1, v) else kv) (es.map fun e => if e.1 = k then (e.1, d) else e)
  | _, _, .nil => .nil
  | _, _, .cons (k := k') g r => by
    rw [List.map_cons, List.map_cons]
    by_cases e : k' = k
    · simp only [if_pos e]
      exact .cons h (RpK.over h r)
    · simp only [if_neg e]
      exact .cons g (RpK.over h r)
theorem RpK.put {K : PySem.W.Frag} {H : Hp} {k : Key} {v : V} {d : PyData} {vs : List (Key × V)} {es : List (Key × PyData)} (r : RpK K H vs es) (h : Rp K H v d) : RpK K H (putK vs k v) (putE es k d) := by
  unfold putK putE
  rw [valV_any, getE_any]
  rcases r.get (k := k) with ⟨e1, e2⟩ | ⟨v', d', e1, e2, _⟩
  · rw [e1, e2]
    exact r.snoc h
  · rw [e1, e2]
    exact r.over h
theorem RpD.rpk {K : PySem.W.Frag} {H : Hp} : ∀ {vs : List (Key × V)} {es : List (Key × PyData)}, RpD K H vs (entD es) → RpK K H vs es
  | [], [], _ => .nil
  | (k, v) :: vs, (l, d) :: es, h => by
    generalize hq : entD ((l, d) :: es) = q at h
    cases h with
    | cons g r =>
      have hq : (keyD l, d) :: entD es = _ := hq
      injection hq with h1 h2
      injection h1 with h3 h4
      subst h4
      obtain rfl := keyD_inj h3
      subst h2
      exact .cons g (RpD.rpk r)
  | (k, v) :: vs, [], h => by cases h
  | [], (l, d) :: es, h => by cases h
theorem rp_key {K : PySem.W.Frag} {H : Hp} {v : V} {k : Key} (h : Rp K H v (keyD k)) : v = kV k := by
  cases k with
  | inl i => cases h; rfl
  | inr s => cases h; rfl
/-! ### hand layer: a thing locked for good -/
def tFrz (t : TS) : TS := fun D σ H => ∃ d u, H d = some u ∧ Mut (some u) ∧ ∀ od, t D σ (upd H d (.frz od u))
theorem ps_frz {X : Cx} {st : Stmt} {t : TS} (h : PS X st t) : PS X st (tFrz t) := by
  refine ⟨fun pins s σ H D I hw => ?_⟩
  obtain ⟨d, u, hd, mu, hw⟩ := hw
  obtain ⟨od, I1⟩ := I.lock hd mu
  exact h.run pins s σ _ _ I1 (hw od)
/-- len of anything, a dict that stands too -/
theorem call_lenDR {X : Cx} : CallR X (.builtin "len") (fun xs H Q => ∃ a kvs, xs = [V.ref a] ∧ Rd H a (.dK kvs) ∧ Q (.int kvs.length) H) := by
  intro pins s σ H xs us Q I r h
  obtain ⟨a, kvs, rfl, ha, q⟩ := h
  obtain ⟨u, rfl, ru⟩ := vals1 r
  cases ru
  exact d_len I ha fun t s' I' => ⟨.int kvs.length, H, I', ⟨t, rfl⟩, q⟩
section
variable {C : Ctx} {H0 H H0' H' : Hp} {σ : L2.St} {δ : Dl} {v : V} {x : PyData} {f f1 f2 f3 : Bool} {te ta tb td : TE} {de da db dd dx : DE} {ts tv : TS} {ds dv : DS}
/-- slot = {} -/
@[simp] def dSetD (i : Nat) : DS := fun E δ => ∀ a, E.nx (δ.set i (some (.dct a [])))
theorem sms_setD (i : Nat) : SmS C (tAsg tDNewK (gName i)) (dSetD i) := fun σ δ H0 H E D s w e => fun p hp => by
  have g := Go.free (o := .dK []) s.toWf hp
  refine e.nx H0 _ _ _ (Same.refl _) ((s.go g).set_adr (r := .dct p []) i rfl (fun j q b hj hb z => ?_) ⟨rfl, s.toWf.none hp, (Go.he s.toWf hp).1, (Go.he s.toWf hp).2, [], upd_same, .nil⟩) (w p)
  subst z
  obtain ⟨v, _, hv⟩ := s.sl j _ hj
  obtain ⟨o, k⟩ := hv.live hb
  rw [hp] at k; cases k
/-- slot[key] = value -/
@[simp] def dPutD (i : Nat) (de dk : DE) : DS := fun E δ => ∃ a es, δ[i]? = some (some (.dct a es)) ∧ de δ fun x => dk δ fun y => ∃ k, y = keyD k ∧ es.length < sizeLine ∧ E.nx (δ.set i (some (.dct a (putE es k x))))
theorem sms_putD (i : Nat) (h : Sm C true te de) (hk : Sm C f2 tb db) : SmS C (sDPut (tVar i) tb te) (dPutD i de db) := fun σ δ H0 H E D s ⟨a, es, e0, w⟩ e =>
  h σ δ H0 H _ _ s w fun H01 H1 v x g1 r1 w1 => by
    obtain ⟨u, e1, _⟩ := s.sl i _ e0
    refine ⟨u, e1, hk σ δ H01 H1 _ _ (s.go g1) w1 fun H02 H2 y0 y g2 r2 ⟨k, ey, hl, p⟩ => ?_⟩
    subst ey
    obtain rfl := rp_key r2
    have s2 := (s.go g1).go g2
    obtain ⟨u', e2, rfl, h1, h2, h3, kvs, h4, h5⟩ := s2.sl i _ e0
    rw [e1] at e2
    cases e2
    refine ⟨a, _, rfl, DPut.k h4 (by rw [h5.length]; exact hl), e.nx H02 _ σ _ (g1.fz.trans g2.fz) ?_ p⟩
    exact s2.put i e0 (fun _ h => h.1) rfl rfl fun H' hH k1 k2 k3 => ⟨rfl, k1, k2, k3, _, hH, h5.put (r1.mono g2.fz)⟩
/-- key in slot -/
@[simp] def dInD (neg : Bool) (i : Nat) (dk : DE) : DE := fun δ Φ => ∃ a es, δ[i]? = some (some (.dct a es)) ∧ dk δ fun y => ∃ k, y = keyD k ∧ Φ (.bool (if neg then !(getE es k).isSome else (getE es k).isSome))
theorem in_go {a : Addr} {es : List (Key × PyData)} {i : Nat} (s : St C H0 H σ δ) (e0 : δ[i]? = some (some (.dct a es))) (k : Key) : ∃ o, σ[i]? = some (some (.ref a)) ∧ DGet H a (kV k) o ∧ ((o = Option.none ∧ getE es k = Option.none) ∨ ∃ v d, o = some v ∧ getE es k = some d ∧ Rp C.K H0 v d) := by
  obtain ⟨u', e2, rfl, h1, h2, h3, kvs, h4, h5⟩ := s.sl i _ e0
  exact ⟨_, e2, DGet.k h4, h5.get⟩
theorem sm_inD (i : Nat) (hk : Sm C f2 tb db) : Sm C f (tDIn tb (tVar i)) (dInD false i db) := fun σ δ H0 H Φ Q s ⟨a, es, e0, w⟩ q =>
  hk σ δ H0 H _ _ s w fun H01 H1 y0 y g1 r1 ⟨k, ey, p⟩ => by
    subst ey
    obtain rfl := rp_key r1
    obtain ⟨o, h1, h2, h3⟩ := in_go (s.go g1) e0 k
    refine ⟨_, h1, a, o, rfl, h2, q _ _ _ _ g1 (.bl _) ?_⟩
    rcases h3 with ⟨rfl, e⟩ | ⟨v, d, rfl, e, _⟩ <;> rw [e] at p <;> exact p
theorem sm_ninD (i : Nat) (hk : Sm C f2 tb db) : Sm C f (tDNotIn tb (tVar i)) (dInD true i db) := fun σ δ H0 H Φ Q s ⟨a, es, e0, w⟩ q =>
  hk σ δ H0 H _ _ s w fun H01 H1 y0 y g1 r1 ⟨k, ey, p⟩ => by
    subst ey
    obtain rfl := rp_key r1
    obtain ⟨o, h1, h2, h3⟩ := in_go (s.go g1) e0 k
    refine ⟨_, h1, a, o, rfl, h2, q _ _ _ _ g1 (.bl _) ?_⟩
    rcases h3 with ⟨rfl, e⟩ | ⟨v, d, rfl, e, _⟩ <;> rw [e] at p <;> exact p
/-- slot[key] -/
@[simp] def dGetD (i : Nat) (dk : DE) : DE := fun δ Φ => ∃ a es, δ[i]? = some (some (.dct a es)) ∧ dk δ fun y => ∃ k x, y = keyD k ∧ getE es k = some x ∧ Φ x
theorem sm_getD (i : Nat) (hk : Sm C f2 tb db) : Sm C f (tDGet (tVar i) tb) (dGetD i db) := fun σ δ H0 H Φ Q s ⟨a, es, e0, w⟩ q => by
  obtain ⟨u, e1, hu⟩ := s.sl i _ e0
  refine ⟨u, e1, hk σ δ H0 H _ _ s w fun H01 H1 y0 y g1 r1 ⟨k, x, ey, ex, p⟩ => ?_⟩
  subst ey
  obtain rfl := rp_key r1
  obtain ⟨o, h1, h2, h3⟩ := in_go (s.go g1) e0 k
  rw [e1] at h1
  cases h1
  rcases h3 with ⟨_, e⟩ | ⟨v, d, rfl, e, r⟩
  · rw [e] at ex; cases ex
  · rw [e] at ex; cases ex
    exact ⟨a, v, rfl, h2, q _ _ _ _ g1 (r.mono g1.wf.to) p⟩
/-! ### dicts that stand -/
theorem dic_rd {es : List (Key × PyData)} (h : Rp C.K H v (.dict (entD es))) : ∃ a kvs, v = .ref a ∧ Rd H a (.dK kvs) ∧ RpK C.K H kvs es := by
  generalize hx : PyData.dict (entD es) = x at h
  cases h with
  | dic h r =>
    cases hx
    exact ⟨_, _, rfl, .inr ⟨_, h⟩, r.rpk⟩
  | _ => cases hx
theorem rd_same {a : Addr} {kvs : List (Key × V)} (e : Same H H') (h : Rd H a (.dK kvs)) : Rd H' a (.dK kvs) := by
  rcases h with h | ⟨o, h⟩
  · exact .inl (e _ _ h)
  · exact .inr ⟨o, e _ _ h⟩
@[simp] def dInF (neg : Bool) (dk dd : DE) : DE := fun δ Φ => dk δ fun y => dd δ fun x => ∃ es k, x = .dict (entD es) ∧ y = keyD k ∧ Φ (.bool (if neg then !(getE es k).isSome else (getE es k).isSome))
theorem sm_inF (hk : Sm C f1 tb db) (hd : Sm C f2 td dd) : Sm C f (tDIn tb td) (dInF false db dd) := fun σ δ H0 H Φ Q s w q =>
  hk σ δ H0 H _ _ s w fun H01 H1 y0 y g1 r1 w1 => hd σ δ H01 H1 _ _ (s.go g1) w1 fun H02 H2 x0 x g2 r2 ⟨es, k, ex, ey, p⟩ => by
    subst ex ey
    obtain rfl := rp_key r1
    obtain ⟨a, kvs, rfl, h1, h2⟩ := dic_rd r2
    refine ⟨a, _, rfl, .inl ⟨kvs, k, rd_same g2.wf.loc h1, rfl, rfl⟩, q _ _ _ _ (g1.trans g2) (.bl _) ?_⟩
    rcases h2.get (k := k) with ⟨e1, e⟩ | ⟨v, d, e1, e, _⟩ <;> rw [e] at p <;> rw [e1] <;> exact p
theorem sm_ninF (hk : Sm C f1 tb db) (hd : Sm C f2 td dd) : Sm C f (tDNotIn tb td) (dInF true db dd) := fun σ δ H0 H Φ Q s w q =>
  hk σ δ H0 H _ _ s w fun H01 H1 y0 y g1 r1 w1 => hd σ δ H01 H1 _ _ (s.go g1) w1 fun H02 H2 x0 x g2 r2 ⟨es, k, ex, ey, p⟩ => by
    subst ex ey
    obtain rfl := rp_key r1
    obtain ⟨a, kvs, rfl, h1, h2⟩ := dic_rd r2
    refine ⟨a, _, rfl, .inl ⟨kvs, k, rd_same g2.wf.loc h1, rfl, rfl⟩, q _ _ _ _ (g1.trans g2) (.bl _) ?_⟩
    rcases h2.get (k := k) with ⟨e1, e⟩ | ⟨v, d, e1, e, _⟩ <;> rw [e] at p <;> rw [e1] <;> exact p
@[simp] def dGetF (dd dk : DE) : DE := fun δ Φ => dd δ fun x => dk δ fun y => ∃ es k z, x = .dict (entD es) ∧ y = keyD k ∧ getE es k = some z ∧ Φ z
theorem sm_getF (hd : Sm C f td dd) (hk : Sm C f2 tb db) : Sm C f (tDGet td tb) (dGetF dd db) := fun σ δ H0 H Φ Q s w q =>
  hd σ δ H0 H _ _ s w fun H01 H1 x0 x g1 r1 w1 => hk σ δ H01 H1 _ _ (s.go g1) w1 fun H02 H2 y0 y g2 r2 ⟨es, k, z, ex, ey, ez, p⟩ => by
    subst ex ey
    obtain rfl := rp_key r2
    obtain ⟨a, kvs, rfl, h1, h2⟩ := dic_rd (r1.mono g2.loc)
    rcases h2.get (k := k) with ⟨e1, e⟩ | ⟨v, d, e1, e, r⟩
    · rw [e] at ez; cases ez
    · rw [e] at ez; cases ez
      exact ⟨a, v, rfl, .inl ⟨kvs, k, rd_same g2.wf.loc h1, rfl, e1.symm⟩, q _ _ _ _ (g1.trans g2) r p⟩
@[simp] def dGet1F (dd dk : DE) : DE := fun δ Φ => dd δ fun x => ∃ es, x = .dict (entD es) ∧ dk δ fun y => ∃ k, y = keyD k ∧ Φ ((getE es k).getD .none)
theorem sm_get1F (hd : Sm C f td dd) (hk : Sm C f2 tb db) : Sm C f (tDGet1 td tb) (dGet1F dd db) := fun σ δ H0 H Φ Q s w q =>
  hd σ δ H0 H _ _ s w fun H01 H1 x0 x g1 r1 ⟨es, ex, w1⟩ => by
    subst ex
    obtain ⟨a, kvs, rfl, h1, h2⟩ := dic_rd r1
    refine ⟨a, rfl, .inl ⟨kvs, rd_same g1.wf.loc h1⟩, hk σ δ H01 H1 _ _ (s.go g1) w1 fun H02 H2 y0 y g2 r2 ⟨k, ey, p⟩ => ?_⟩
    subst ey
    obtain rfl := rp_key r2
    refine ⟨_, .inl ⟨kvs, k, rd_same g2.wf.loc (rd_same g2.loc h1), rfl, rfl⟩, ?_⟩
    rcases h2.get (k := k) with ⟨e1, e⟩ | ⟨v, d, e1, e, r⟩
    · rw [e] at p; rw [e1]; exact q _ _ _ _ (g1.trans g2) .non p
    · rw [e] at p; rw [e1]; exact q _ _ _ _ (g1.trans g2) (r.mono g2.loc) p
@[simp] def dGet2F (dd dk dx : DE) : DE := fun δ Φ => dd δ fun x => ∃ es, x = .dict (entD es) ∧ dk δ fun y => dx δ fun z => ∃ k, y = keyD k ∧ Φ ((getE es k).getD z)
theorem sm_get2F (hd : Sm C f td dd) (hk : Sm C f2 tb db) (hx : Sm C f ta dx) : Sm C f (tDGet2 td tb ta) (dGet2F dd db dx) := fun σ δ H0 H Φ Q s w q =>
  hd σ δ H0 H _ _ s w fun H01 H1 x0 x g1 r1 ⟨es, ex, w1⟩ => by
    subst ex
    obtain ⟨a, kvs, rfl, h1, h2⟩ := dic_rd r1
    refine ⟨a, rfl, .inl ⟨kvs, rd_same g1.wf.loc h1⟩, hk σ δ H01 H1 _ _ (s.go g1) w1 fun H02 H2 y0 y g2 r2 w2 => hx σ δ H02 H2 _ _ ((s.go g1).go g2) w2 fun H03 H3 z0 z g3 r3 ⟨k, ey, p⟩ => ?_⟩
    subst ey
    obtain rfl := rp_key r2
    refine ⟨_, .inl ⟨kvs, k, rd_same g3.wf.loc (rd_same g3.loc (rd_same g2.loc h1)), rfl, rfl⟩, ?_⟩
    rcases h2.get (k := k) with ⟨e1, e⟩ | ⟨v, d, e1, e, r⟩
    · rw [e] at p; rw [e1]; exact q _ _ _ _ ((g1.trans g2).trans g3) r3 p
    · rw [e] at p; rw [e1]; exact q _ _ _ _ ((g1.trans g2).trans g3) ((r.mono g2.loc).mono g3.loc) p
/-- len of a dict that stands -/
@[simp] def gLenF : List PyData → (PyData → Prop) → Prop := fun xs Φ => ∃ es, xs = [.dict (entD es)] ∧ Φ (.int es.length)
theorem cbd_lenF : CbD C (fun xs H Q => ∃ a kvs, xs = [V.ref a] ∧ Rd H a (.dK kvs) ∧ Q (.int kvs.length) H) gLenF := fun H vs xs Φ Q r ⟨es, e, p⟩ q => by
  subst e
  cases r with
  | cons h n =>
    cases n
    obtain ⟨a, kvs, rfl, h1, h2⟩ := dic_rd h
    exact ⟨a, kvs, rfl, h1, by rw [h2.length]; exact q _ _ (fun _ => .int _) p⟩
/-- a dict that stands is walked: its keys in order -/
@[simp] def iKF (dd : DE) : DI := fun δ Φ => dd δ fun x => ∃ es, x = .dict (entD es) ∧ Φ (es.map fun e => keyD e.1)
theorem rp_kV {K : PySem.W.Frag} (k : Key) : Rp K H (kV k) (keyD k) := by
  cases k with
  | inl i => exact .int i
  | inr s => exact .str s
theorem RpK.key {K : PySem.W.Frag} {H : Hp} : ∀ {vs : List (Key × V)} {es : List (Key × PyData)} {i : Nat} {k : Key} {v : V}, RpK K H vs es → vs[i]? = some (k, v) → (es.map fun e => keyD e.1)[i]? = some (keyD k)
  | _, _, _, _, _, .nil, e => by simp at e
  | _, _, 0, _, _, .cons _ _, e => by simp at e; obtain ⟨rfl, rfl⟩ := e; rfl
  | _, _, i + 1, _, _, .cons _ r, e => by
    rw [List.map_cons, List.getElem?_cons_succ]
    exact RpK.key r (by simpa using e)
theorem smi_keys (hd : Sm C true td dd) : SmI C (iKeys td) (iKF dd) := fun σ δ H0 H Φ R s w q =>
  hd σ δ H0 H _ _ s w fun H01 H1 x0 x g1 r1 ⟨es, ex, p⟩ => by
    subst ex
    have h2 : ∃ a o kvs, x0 = .ref a ∧ H01 a = some (.frz o (.dK kvs)) ∧ RpK C.K H01 kvs es := by
      generalize hx : PyData.dict (entD es) = x at r1
      cases r1 with
      | dic h r => cases hx; exact ⟨_, _, _, rfl, h, r.rpk⟩
      | _ => cases hx
    obtain ⟨a, o, kvs, rfl, h1, h2⟩ := h2
    refine ⟨a, o, rfl, .inl ⟨kvs, g1.wf.sub _ _ h1, q _ _ _ _ g1 ⟨fun H0' H' i e w hi => ?_, fun H0' H' i e w hi => ?_, fun H0' H' i v H'' e w hi y => ?_⟩ p⟩⟩
    · rw [List.length_map] at hi
      exact ⟨w.sub _ _ (e _ _ h1), by rw [h2.length]; omega⟩
    · rw [List.length_map] at hi
      exact ⟨w.sub _ _ (e _ _ h1), by rw [h2.length]; exact hi⟩
    · obtain ⟨rfl, k, u, hk, rfl⟩ := y
      exact ⟨H0', keyD k, .refl w, h2.key hk, rp_kV k⟩
/-- from here on the dict in the slot stands -/
@[simp] def dFrzD (i : Nat) (d : DS) : DS := fun E δ => ∃ a es, δ[i]? = some (some (.dct a es)) ∧ d E (δ.set i (some (.d (.dict (entD es)))))
theorem sms_frzD (i : Nat) (h : SmS C ts ds) : SmS C (tFrz ts) (dFrzD i ds) := fun σ δ H0 H E D s ⟨a, es, e0, w⟩ e => by
  obtain ⟨u', e2, rfl, h1, h2, h3, kvs, h4, h5⟩ := s.sl i _ e0
  refine ⟨a, .dK kvs, h4, trivial, fun od => ?_⟩
  obtain ⟨g, s'⟩ := s.frzU (o := .frz od (.dK kvs)) (x := .dict (entD es)) i e0 (fun _ h => h.1) (List.mem_singleton.mpr rfl) fun gr => .dic upd_same (h5.mono gr).rpd
  exact h σ _ _ _ E D s' w (e.mono g)
end
end VL

/-! a written dict of the program's top whose values are written tuples: asked by get. -/
namespace VL
open PySem L2
/-- the items of a written tuple -/
inductive PaiC (K : PySem.W.Frag) : List Value → List V → List PyData → Prop
  | nil : PaiC K [] [] []
  | cons {u : Value} {v : V} {x : PyData} {us : List Value} {vs : List V} {xs : List PyData} (h : RelV v u) (h2 : ∀ H, Rp K H v x) (r : PaiC K us vs xs) : PaiC K (u :: us) (v :: vs) (x :: xs)
theorem PaiC.vals {K : PySem.W.Frag} : ∀ {us : List Value} {vs : List V} {xs : List PyData}, PaiC K us vs xs → Vals vs us ∧ ∀ H, RpA K H vs xs
  | _, _, _, .nil => ⟨.nil, fun _ => .nil⟩
  | _, _, _, .cons h h2 r => ⟨.cons h r.vals.1, fun H => .cons (h2 H) (r.vals.2 H)⟩
theorem PaiC.n {K : PySem.W.Frag} {us : List Value} {vs : List V} {xs : List PyData} (r : PaiC K us vs xs) : PaiC K (.none :: us) (.non :: vs) (.none :: xs) := .cons rfl (fun _ => .non) r
theorem PaiC.i {K : PySem.W.Frag} {k : Int} {t : Tok} {us : List Value} {vs : List V} {xs : List PyData} (r : PaiC K us vs xs) : PaiC K (.int k t :: us) (.int k :: vs) (.int k :: xs) := .cons ⟨t, rfl⟩ (fun _ => .int k) r
theorem PaiC.s {K : PySem.W.Frag} {k : Str} {t : Tok} {us : List Value} {vs : List V} {xs : List PyData} (r : PaiC K us vs xs) : PaiC K (.str k t :: us) (.str k :: vs) (.str k :: xs) := .cons ⟨t, rfl⟩ (fun _ => .str k) r
theorem PaiC.t {K : PySem.W.Frag} {a : Addr} {x : PyData} {us : List Value} {vs : List V} {xs : List PyData} (h : ∀ H, Rp K H (.ref a) x) (r : PaiC K us vs xs) : PaiC K (.ref a :: us) (.ref a :: vs) (x :: xs) := .cons rfl h r
theorem KC.mk {K : PySem.W.Frag} {a : Addr} {xs : List PyData} {o : Obj} {its : Array Value} {n : Nat} {us : List Value} {vs : List V} (h : K.lookup a = some o) (hc : o.cls = .type "tuple") (hd : o.data = .seq its n) (hi : its.toList = us) (hl : us.length ≤ 100) (p : PaiC K us vs xs) : ∀ H, Rp K H (.ref a) (.tuple xs) := by
  intro H
  refine .tup (.inr ⟨o, its, n, h, hc, hd, ?_, by rw [hi]; exact p.vals.1⟩) (p.vals.2 H)
  rw [← Array.length_toList, hi]
  exact Nat.le_trans hl (by decide)
/-- entries L, and the keys M that it lacks -/
structure KdT (K : PySem.W.Frag) (w : World) (d : Addr) (L : List (Str × PyData)) (M : List Str) : Prop where
  ex : ∃ es n, L2.KDict K w d es n
  all : ∀ k x, (k, x) ∈ L → ∃ u v, PySem.W.nsIn K d k = some (some u) ∧ RelV v u ∧ ∀ H, Rp K H v x
  no : ∀ k, k ∈ M → PySem.W.nsIn K d k = some none
theorem KdT.mk' {K : PySem.W.Frag} {w : World} {d : Addr} {L : List (Str × PyData)} {M : List Str} {es : Array DictEntry} {n : Nat} (h : K.lookup d = some ⟨.type "dict", none, .dict es n, #[]⟩) (hk : PySem.W.KeysLit w.params es.toList) (lo : (d == sysModules) = false)
    (all : ∀ k x, (k, x) ∈ L → ∃ u v, PySem.W.nsIn K d k = some (some u) ∧ RelV v u ∧ ∀ H, Rp K H v x) (no : ∀ k, k ∈ M → PySem.W.nsIn K d k = some none) : KdT K w d L M := ⟨⟨es, n, h, hk, lo⟩, all, no⟩
theorem kdt_nil {K : PySem.W.Frag} {d : Addr} : ∀ k x, (k, x) ∈ ([] : List (Str × PyData)) → ∃ u v, PySem.W.nsIn K d k = some (some u) ∧ RelV v u ∧ ∀ H, Rp K H v x := fun _ _ h => nomatch h
theorem kdt_cons {K : PySem.W.Frag} {d : Addr} {L : List (Str × PyData)} {k : Str} {x : PyData} {a : Addr} (h : PySem.W.nsIn K d k = some (some (.ref a))) (hx : ∀ H, Rp K H (.ref a) x) (t : ∀ k x, (k, x) ∈ L → ∃ u v, PySem.W.nsIn K d k = some (some u) ∧ RelV v u ∧ ∀ H, Rp K H v x) :
    ∀ k' x', (k', x') ∈ (k, x) :: L → ∃ u v, PySem.W.nsIn K d k' = some (some u) ∧ RelV v u ∧ ∀ H, Rp K H v x' := fun k' x' h' => by
  rcases List.mem_cons.mp h' with e | e
  · cases e; exact ⟨_, .ref a, h, rfl, hx⟩
  · exact t k' x' e
theorem kdn_nil {K : PySem.W.Frag} {d : Addr} : ∀ k, k ∈ ([] : List Str) → PySem.W.nsIn K d k = some none := fun _ h => nomatch h
theorem kdn_cons {K : PySem.W.Frag} {d : Addr} {M : List Str} {k : Str} (h : PySem.W.nsIn K d k = some none) (t : ∀ k, k ∈ M → PySem.W.nsIn K d k = some none) : ∀ k', k' ∈ k :: M → PySem.W.nsIn K d k' = some none := fun k' h' => by
  rcases List.mem_cons.mp h' with e | e
  · cases e; exact h
  · exact t k' e
/-- d.get(key), d a written dict -/
def tKGet1 (K : PySem.W.Frag) (d : Addr) (ty : TE) : TE := fun σ H Q => ty σ H fun y H1 => ∃ (z : Str) (r : Option Value) (v : V), y = .str z ∧ PySem.W.nsIn K d z = some r ∧ RelV v (r.getD .none) ∧ Q v H1
theorem pe_kget1 {X : Cx} {K : PySem.W.Frag} {w : World} {d : Addr} {o e : Expr} {apos cpos : Pos} {v : V} {ty : TE} (h : X.K = K) (h2 : X.w = w) (hv : v = .ref d) (D : ∃ es n, L2.KDict K w d es n) (ho : PE X o (tC v)) (he : PE X e ty) (m : M1 X o "get" apos e cpos) : PE X (.Call (.Attribute o "get" apos) [e] [] cpos) (tKGet1 K d ty) := by
  subst h h2 hv
  obtain ⟨es, n, D⟩ := D
  refine ⟨fun pins s σ H Q I h => ?_⟩
  refine wpAny_Call_method m.base m.few m.line PySem.F.plainAttrs_dict PySem.F.slot_dict_get PySem.F.type_dict_get (thn (ho.run pins s σ H (fun x H1 => x = .ref d ∧ tKGet1 X.K d ty σ H1 Q) I ⟨rfl, h⟩) fun u s1 ⟨x, H1, I1, rx, ex, q1⟩ => ?_)
  subst ex
  obtain rfl : u = Value.ref d := rx
  have mo := PySem.W.mapOf_K (prog := X.prog) (w := X.w) I1.kIn D.at_ D.lit
  refine ⟨mo.typeIs, mo.noDict, ?_⟩
  rw [m.trees]
  refine Calls.callWith_builtin rfl (Calls.evalArgs_plain (Calls.spliced_cons (thn (he.run pins s1 σ H1 _ I1 q1) fun iv s2 ⟨y, H2, I2, ry, z, r, v, ey, hr, hv, q2⟩ => Calls.spliced_nil ?_)))
  subst ey
  obtain ⟨t, rfl⟩ := ry
  have mo := PySem.W.mapOf_K (prog := X.prog) (w := X.w) I2.kIn D.at_ D.lit
  refine call_meetsIn PySem.F.slot_dict_get mo.typeIs PySem.F.entry_dict_get (PySem.F.args_dict_get_2 _ _) (meets_dict_get (strKind X.prog X.w) d (PySem.strKind_is X.prog X.w z t) D.low) ⟨_, mo, v, H2, I2.tok _, ?_, q2⟩
  show RelV v ((findBy Value.isStrOf es z).getD .none)
  rw [PySem.W.find_K D.at_ hr]
  exact hv
section
variable {C : Ctx} {f f2 : Bool} {tb : TE} {db : DE}
@[simp] def dKGet (L : List (Str × PyData)) (M : List Str) (db : DE) : DE := fun δ Φ => db δ fun y => ∃ z, y = .str z ∧ ((∃ x, (z, x) ∈ L ∧ Φ x) ∨ (z ∈ M ∧ Φ .none))
theorem sm_kget {w : World} {d : Addr} {L : List (Str × PyData)} {M : List Str} (D : KdT C.K w d L M) (hb : Sm C f2 tb db) : Sm C f (tKGet1 C.K d tb) (dKGet L M db) := fun σ δ H0 H Φ Q s w' q =>
  hb σ δ H0 H _ _ s w' fun H01 H1 u y g1 r1 ⟨z, e, p⟩ => by
    subst e
    cases r1
    rcases p with ⟨x, hx, p⟩ | ⟨hz, p⟩
    · obtain ⟨u, v, h1, h2, h3⟩ := D.all z x hx
      exact ⟨z, _, v, rfl, h1, h2, q _ _ _ _ g1 (h3 _) p⟩
    · exact ⟨z, _, .non, rfl, D.no z hz, rfl, q _ _ _ _ g1 .non p⟩
end
end VL

/-! A lambda without captured names: made, handed to a def, called there. -/
namespace VL
open PySem PySem.Spec PyProof.Rows L2 LamX NdefX
theorem upd_comm {H : Hp} {a b : Addr} {o u : HO} (n : a ≠ b) : L2.upd (L2.upd H a o) b u = L2.upd (L2.upd H b u) a o := by
  funext d
  unfold L2.upd
  by_cases h1 : d = b
  · subst h1; rw [if_pos rfl, if_neg (fun z => n z.symm), if_pos rfl]
  · rw [if_neg h1]
    by_cases h2 : d = a
    · rw [if_pos h2, if_pos h2]
    · rw [if_neg h2, if_neg h2, if_neg h1]
section
variable {X : Cx} {pins : List (Addr × Obj)} {σ : L2.St} {H : Hp} {s : Shared}
theorem inv_lam {F : LF} {c : Addr} {o : Obj} {t' : Nat} {pm ctv : Value} (I : Inv X pins σ H s) (ho : o = PySem.W.kla_obj "<lambda>" F.qual F.params F.body F.scope [] pm c ctv) :
    Inv X pins σ (L2.upd H s.heap.objs.size (LamO s.heap.objs.size F c)) { s with heap := s.heap.push o, toks := t' } := by
  subst ho
  refine I.laid (a := s.heap.objs.size) (fun b u e => Heap.get?_push_of_some _ e) (Nat.le_refl _) ?_
  have e : (s.heap.push (PySem.W.kla_obj "<lambda>" F.qual F.params F.body F.scope [] pm c ctv)).get? s.heap.objs.size = some (PySem.W.kla_obj "<lambda>" F.qual F.params F.body F.scope [] pm c ctv) := Heap.get?_push_size _ rfl
  exact ⟨⟨pm, ctv, e⟩, ⟨_, e⟩, fun h1 h2 ⟨p, t, z⟩ st => ⟨p, t, st _ z⟩⟩
theorem lamO_at {P : Program} {w : World} {H : Hp} {h : Heap} {f c : Addr} {F : LF} (hok : HOk P w H h) (e : H f = some (LamO f F c)) : ∃ (pm ctv : Value), h.get? f = some (PySem.W.kla_obj "<lambda>" F.qual F.params F.body F.scope [] pm c ctv) := by
  obtain ⟨z, _, _⟩ := hok f _ e
  exact z
/-- the reading of a lambda's making: its code object is found in the table, or new -/
def tLam (P : Addr) (F : LF) : TE := fun σ H Q => ∃ ps : Array Value, H P = some (.tbl ps) ∧ TriplesOk ps.toList ∧ (∀ (pos : Pos) (cv : Value), codeAmong pos ps.toList = some cv → ∃ c, cv = .ref c ∧ H c = some (CodeO c F.qual)) ∧
  (∀ f c, H f = none → (∃ pos : Pos, codeAmong pos ps.toList = some (.ref c)) → Q (.ref f) (L2.upd H f (LamO f F c))) ∧
  (∀ f c (ps' : Array Value), H f = none → H c = none → f ≠ c → TriplesOk ps'.toList → (∀ (pos : Pos) (cv : Value), codeAmong pos ps'.toList = some cv → codeAmong pos ps.toList = some cv ∨ cv = .ref c) →
    Q (.ref f) (L2.upd (L2.upd (L2.upd H c (CodeO c F.qual)) P (.tbl ps')) f (LamO f F c)))
theorem pe_lam {c P : Addr} {params : Arguments} {body : Expr} {scope : Scope} {pos : Pos} (TB : TabB X.base X.mg c P) (hcode : X.env.code = .ref c) (hdef : defaultsOf params X.env = ([], [])) (hfree : ∀ y ∈ scope.names, y.2 ≠ .free) :
    PE X (.Lambda params body scope pos) (tLam P ⟨X.env.qual ++ "<lambda>", params, body, scope⟩) := by
  refine ⟨fun pins s σ H Q I h => ?_⟩
  obtain ⟨ps, hP, ht, ha, hHit, hNew⟩ := h
  refine PySem.W.kla_eval hdef ?_
  have bP : s.heap.BuiltinsAt X.mg P := TB.bm.keeps I.bk
  have hP' : s.heap.get? P = some { cls := .none, data := .fields ps } := I.hok P _ hP
  have hfr : ∀ y ∈ scope.names, y.2 = .free → ∃ c, X.env.cells.lookup y.1 = some c := fun y hy e => absurd e (hfree y hy)
  have hcl : cloFrom X.env.cells scope.names [] = [] := List.eq_nil_iff_forall_not_mem.mpr fun ⟨n, a⟩ hy => by
    rcases cloFrom_mem hy with z | ⟨z, _⟩
    · cases z
    · exact hfree _ z rfl
  have hcf : closureFor scope X.env = pure [] := by rw [← hcl]; exact closure_ok hfr
  cases hc : codeAmong pos ps.toList with
  | none =>
    refine PySem.W.kla_makeFunction (mg := X.mg) (c := c) (P := P) (ps := ps) hcf I.ok.glob (I.mod.glob.keeps I.bk) hcode (TB.code.keeps I.bk) hP' ht hc TB.gP bP fun c' ctv h' tk hx hge hlt hrec htb => ?_
    obtain ⟨c2, oc, vs, t, e2, hoc, hd, hv⟩ := hrec
    cases e2
    have nC : H c' = none := I.hok.fresh hge
    have I1 := inv_table (t' := tk) (more := #[rawInt pos.line, rawInt pos.col, .ref c']) (h' := h') I hP (fun b o hb e => hx b o hb e) htb hge ⟨oc, vs, t, hoc, hd, hv⟩
    have I2 := inv_lam (F := ⟨X.env.qual ++ "<lambda>", params, body, scope⟩) (c := c') (t' := tk) (pm := (X.mg "__name__").getD .none) (ctv := ctv) I1 rfl
    have hPc : P ≠ c' := ne_of_none hP nC
    rw [upd_comm hPc] at I2
    have nF : H h'.objs.size = none := I.hok.fresh (Nat.le_trans hge (Nat.le_of_lt hlt))
    have eL : (ps ++ #[rawInt pos.line, rawInt pos.col, .ref c']).toList = ps.toList ++ [rawInt pos.line, rawInt pos.col, .ref c'] := by simp
    exact ⟨.ref h'.objs.size, _, I2, rfl, hNew h'.objs.size c' _ nF nC (Nat.ne_of_gt hlt) (by rw [eL]; exact PySem.TriplesOk_snoc _ _ _ _ ht) fun p' cv hcv => by
      rw [eL] at hcv
      exact among_app _ ht hcv⟩
  | some cv =>
    obtain ⟨c', e, hco⟩ := ha pos cv hc
    subst e
    refine PySem.W.kla_makeFunctionHit (mg := X.mg) (c := c) (P := P) (ps := ps) hcf I.ok.glob (I.mod.glob.keeps I.bk) hcode (TB.code.keeps I.bk) hP' ht hc bP fun ctv h' tk hx hsz => ?_
    have I1 : Inv X pins σ H { s with heap := h', toks := tk } := I.kept hx
    have I2 := inv_lam (F := ⟨X.env.qual ++ "<lambda>", params, body, scope⟩) (c := c') (t' := tk) (pm := (X.mg "__name__").getD .none) (ctv := ctv) I1 rfl
    exact ⟨.ref h'.objs.size, _, I2, rfl, hHit h'.objs.size c' (I1.hok.fresh (Nat.le_refl _)) ⟨pos, hc⟩⟩
end
theorem pe_lamF {X : Cx} {e : Expr} {F : LF} {c P : Addr} {pos : Pos} (he : e = .Lambda F.params F.body F.scope pos) (hq : X.env.qual ++ "<lambda>" = F.qual) (TB : TabB X.base X.mg c P) (hcode : X.env.code = .ref c) (hdef : defaultsOf F.params X.env = ([], [])) (hfree : ∀ y ∈ F.scope.names, y.2 ≠ .free) : PE X e (tLam P F) := by
  obtain ⟨q, ps, b, sc⟩ := F
  subst he
  have hq : X.env.qual ++ "<lambda>" = q := hq
  subst hq
  exact pe_lam TB hcode hdef hfree
/-- a def whose code object is known -/
structure FunC (K : PySem.W.Frag) (x qual : Str) (st : Stmt) (f : Addr) (fd : FuncData) (c : Addr) : Prop where
  ex : ∃ (oc : Value) (od : Option Addr) (kV doc pm : Value) (an : Option Addr) (ct : Value) (osl : Array (Option Value)),
    fd = PySem.W.fnOf x qual (defArgs st) (defBody st) (defScope st) .none kV doc pm an (.ref c) ct ∧ K.lookup f = some ⟨oc, od, .func fd, osl⟩ ∧ PySem.W.codeIn K (.ref c) qual = true
theorem FunC.ok {P : Program} {w : World} {K : PySem.W.Frag} {mg : Str → Option Value} {base : Heap} {x qual : Str} {st : Stmt} {f c : Addr} {fd : FuncData} {N ps : List Str} {k : Nat} {sp : Sp} (F : FunC K x qual st f fd c) (S : FnScope N ps (defScope st)) (len : ∀ vs H Q E, sp vs H Q E → vs.length = ps.length)
    (hbody : ∀ (A : Around) (outer : List Env) (s : Shared) (H : Hp) (vs : List V) (Q : VK) (E : XK), Room k (A.deeper (envOfC qual (defScope st) s.heap.objs.size f (.ref c))) → sp vs H Q E →
      ∃ t, PSs (cxOf CX0 P w K mg base N qual (defScope st) f (.ref c) A outer s H E).nox (defBody st) t ∧ t { nx := fun _ H' => Q .non H', rt := Q } (L2.start N vs) H) : FnOk P w K mg base CX0 (k + 1) f fd ps sp := by
  obtain ⟨oc, od, kV, doc, pm, an, ct, osl, rfl, lk, hcd⟩ := F.ex
  refine fn_of lk hcd S len fun A outer s H vs Q E hr hsp => ?_
  obtain ⟨t, h, q⟩ := hbody A outer s H vs Q E hr hsp
  exact ⟨t, h.nox, q⟩
/-! ### in the value layer -/
section
variable {C : Ctx} {H0 H H0' H' : Hp} {tas : TA} {dqs : DR} {f : Bool}
theorem Go.tab {P : Addr} {ps : Array Value} (w : Wf C H0 H) (e : C.ex = some P) (hT : IsTb C.He P) (ht : TriplesOk ps.toList) (ha : ∀ (pos : Pos) (cv : Value), codeAmong pos ps.toList = some cv → ∃ c, cv = .ref c ∧ H0 c = some (CodeO c lamName)) : Go C H0 H H0 (L2.upd H P (.tbl ps)) := by
  have n0 := (w.dr P e).no
  refine ⟨⟨fun b u q => ?_, fun b u n q => ?_, w.fz, w.nw, fun p q => ?_⟩, Same.refl _, fun b u n q => ?_, fun b u q => .inl q⟩
  · rw [upd_ne (fun z => by rw [z, n0] at q; cases q)]; exact w.sub b u q
  · rw [upd_ne (fun z => n (by rw [z]; exact e))]; exact w.kp b u n q
  · rw [e] at q; cases q
    exact ⟨n0, .inr ⟨ps, upd_same, ht, ha⟩, ⟨fun _ => ⟨ps, upd_same⟩, fun _ => hT⟩⟩
  · rw [upd_ne (fun z => n (by rw [z]; exact e))]; exact q
@[simp] def qLam (F : LF) (ds : DR) : DR := fun δ Φ => ds δ fun xs => Φ (.fn F :: xs)
theorem smq_lam {P : Addr} {F : LF} (he : C.ex = some P) (hT : IsTb C.He P) (hF : F.qual = lamName) (hb : SmQ C tas dqs) : SmQ C (tCons (tLam P F) tas) (qLam F dqs) := fun σ δ H0 H Φ Q s w q => by
  obtain ⟨ps, e1, e2, e3⟩ := (s.dr P he).tab hT
  refine ⟨ps, e1, e2, fun pos cv h => ?_, fun g c hg ⟨pos, hc⟩ => ?_, fun g c ps' hg hc ne ht ha => ?_⟩
  · obtain ⟨c, k1, k2⟩ := e3 pos cv h
    exact ⟨c, k1, by rw [hF]; exact s.sub _ _ k2⟩
  · obtain ⟨c', k1, k2⟩ := e3 _ _ hc
    cases k1
    have g1 := Go.new (o := LamO g F c) s.toWf hg
    refine hb σ δ _ _ _ _ (s.go g1) w fun H02 H2 us ys g2 r2 w2 => q H02 H2 _ _ (g1.trans g2) (RRas.cons (r := R.fn F) ⟨g, c, rfl, g2.fz _ _ upd_same, ?_⟩ r2) w2
    rw [hF]
    exact (g1.trans g2).fz _ _ k2
  · have g1 := Go.new (o := CodeO c F.qual) s.toWf hc
    have np : P ≠ c := ne_of_none e1 hc
    have g2 : Go C _ _ (L2.upd H0 c (CodeO c F.qual)) (L2.upd (L2.upd H c (CodeO c F.qual)) P (.tbl ps')) := Go.tab g1.wf he hT ht fun pos cv h => by
      rcases ha pos cv h with z | z
      · obtain ⟨c0, k1, k2⟩ := e3 _ _ z
        exact ⟨c0, k1, g1.fz _ _ k2⟩
      · exact ⟨c, z, by rw [upd_same, hF]⟩
    have nP : g ≠ P := fun z => by rw [z, e1] at hg; cases hg
    have g3 := Go.new (o := LamO g F c) g2.wf (show (L2.upd (L2.upd H c (CodeO c F.qual)) P (.tbl ps')) g = none by rw [upd_ne nP, upd_ne ne]; exact hg)
    have gg := (g1.trans g2).trans g3
    refine hb σ δ _ _ _ _ (s.go gg) w fun H02 H2 us ys g4 r2 w2 => q H02 H2 _ _ (gg.trans g4) (RRas.cons (r := R.fn F) ⟨g, c, rfl, g4.fz _ _ upd_same, g4.fz _ _ (by rw [upd_ne (fun z => ne z.symm), upd_same])⟩ r2) w2
end
/-! ### called -/
abbrev nfL (F : LF) (c : Addr) : NF := ⟨"<lambda>", F.qual, F.params, [], F.scope, [], c⟩
def XF : XK := fun _ _ _ => False
structure LamOk (P : Program) (w : World) (K : PySem.W.Frag) (mg : Str → Option Value) (base : Heap) (k : Nat) (F : LF) (sp : VSp) : Prop where
  run : ∀ (A : Around) (outer : List Env) (s : Shared) (H : Hp) (us : List Value) (vs : List V) (f c : Addr) (Q : VK), Room k A → Env0 P w K mg base A outer s H → H f = some (LamO f F c) → H c = some (CodeO c F.qual) → Vals vs us → toSp K 1 sp vs H Q XF →
    codeAny (model P w) A (.call (.ref f) ⟨us, []⟩) (CR CX0 outer P w H s Q XF) s
section
variable {P : Program} {w : World} {K : PySem.W.Frag} {mg : Str → Option Value} {base : Heap} {k j : Nat} {F : LF} {sp : VSp}
theorem LamOk.mono (o : LamOk P w K mg base j F sp) (h : j ≤ k) : LamOk P w K mg base k F sp := ⟨fun A outer s H us vs f c Q hr => o.run A outer s H us vs f c Q (hr.mono h)⟩
theorem lamOk_of {N : List Str} {x : Str} (S : NScope N [x] [] F.scope) (hb : ∀ (pm cdv ctv : Value) (us : List Value), us.length = 1 → bindArgs (PySem.W.kla_fn "<lambda>" F.qual F.params F.body F.scope [] pm cdv ctv) ⟨us, []⟩ = pure ([x].zip us))
    (hbody : ∀ (A : Around) (outer : List Env) (s : Shared) (H : Hp) (f c : Addr), Room k (A.deeper (envF (nfL F c) f s.heap.objs.size)) →
      ∃ t, PE (ncx CX0 P w K mg base N (nfL F c) f A outer s H XF) F.body t ∧ ∃ d : DE, (∀ (ex : Option Addr) (He Hf : Hp), Sm ⟨K, ex, He, Hf⟩ true t d) ∧ ∀ rs Φ, sp rs Φ → d (startD N.length rs) fun y => Φ (.d y)) : LamOk P w K mg base (k + 1) F sp := by
  refine ⟨fun A outer s H us vs f c Q hr e0 hf hc r hsp => ?_⟩
  obtain ⟨hl, ex, H0, rs, Φ, wf, ra, hp, q⟩ := hsp
  have lim : s.heap.NoLimit := e0.mod.nolimit.keeps fun b o e => (e0.bs b o e).1
  obtain ⟨pm, ctv, ho⟩ := lamO_at e0.hok hf
  refine PySem.W.kla_callFunE hr.depth ho rfl S.co S.gen rfl (codeO_at e0.hok hc) ?_
  rw [hb pm (.ref c) ctv us (by rw [← r.length]; exact hl)]
  refine wpAny_pure (wpAny_newFunctionEnv S.nocell (fun ⟨n, _⟩ hy => S.par n (List.of_mem_zip hy).1) (fun h₁ hns hsb => ⟨lim.fresh _ hsb, ?_⟩) S.kind)
  show codeAny _ _ (.expr F.body (envF (nfL F c) f s.heap.objs.size)) _ _
  have kp : ∀ b o, s.heap.get? b = some o → h₁.get? b = some o := fun b o e => hsb.extBut b o (Nat.ne_of_lt (Heap.lt_size e)) (Heap.get?_push_of_some _ e)
  obtain ⟨t, ht, d, hd, hq⟩ := hbody A outer s H f c (hr.deeper _)
  have I : Inv (ncx CX0 P w K mg base N (nfL F c) f A outer s H XF) [] (startF N vs []) H { s with heap := h₁, toks := s.toks + ([x].zip us).length } :=
    inv_startN (F := nfL F c) S hr.hd e0 hl r ⟨rfl, fun y c e => (nomatch e), fun _ _ _ e => (nomatch e), fun i y e => (nomatch e)⟩ hns kp
  have eS : startF N vs [] = L2.start N vs := by simp [startF, L2.start]
  have hrun : t (startF N vs []) H Q := by
    rw [eS]
    exact body_start (N := N) (t := tRet t) (d := dRet d) rfl (fun ex He Hf => sms_ret (hd ex He Hf)) wf ra (hq rs Φ hp) q
  refine PySem.W.kla_codeExpr (wpAny_mono (ht.run [] _ (startF N vs []) H _ I hrun) (fun v s' hs => ?_) fun e s' hs => hs)
  obtain ⟨w', H', J', rv, q'⟩ := hs
  exact ⟨w', H', J'.os, J'.bare, J'.base, J'.hok, rv, q'⟩
end
def tCallF (K : PySem.W.Frag) (S : LF → VSp → Prop) (i : Nat) (t : TA) : TE := fun σ H Q => ∃ f c F sp, σ[i]? = some (some (.ref f)) ∧ S F sp ∧ H f = some (LamO f F c) ∧ t σ H fun vs H1 => H1 f = some (LamO f F c) ∧ H1 c = some (CodeO c F.qual) ∧ toSp K 1 sp vs H1 Q XF
section
variable {X : Cx} {K : PySem.W.Frag} {S : LF → VSp → Prop} {i k : Nat} {x : Str} {t : TA} {e : Expr} {es : List Expr} {p pos : Pos}
theorem pe_callF (hK : X.K = K) (Fn : ∀ F sp, S F sp → LamOk X.prog X.w K X.mg X.base k F sp) (hr : Room k X.A) (hN : X.N[i]? = some x) (hv : Vis X.env.scope x) (ha : PA X (e :: es) t)
    (hd : (x == ("__debug__" : Str)) = false := by decide) (hcd : (x == ("__classdict__" : Str)) = false := by decide)
    (he : starEach (e :: es) X.env = (false, eval e X.env) :: starEach es X.env := by rfl) (hpl : (backTo pos (starEach es X.env)).any (·.1) = false := by rfl) :
    PE X (.Call (.Name x p) (e :: es) [] pos) (tCallF K S i t) := by
  subst hK
  refine ⟨fun pins s σ H Q I h => ?_⟩
  obtain ⟨f, c, F, sp, hs, hS, hf, ht⟩ := h
  refine wpAny_Call_Name_kw (thn ((pe_var (pos := p) hN hv hd hcd).run pins s σ H (fun v H1 => v = .ref f ∧ H1 = H) I ⟨.ref f, hs, rfl, rfl⟩) fun u s1 ⟨v, H1, I1, r1, q1⟩ => ?_)
  obtain ⟨ev, eH⟩ := q1
  subst ev
  rw [eH] at I1
  obtain rfl : u = Value.ref f := r1
  have at_ : ∀ {pins σ H s}, Inv X pins σ H s → H f = some (LamO f F c) → PySem.W.FnAt f s.heap := fun I e => by
    obtain ⟨pm, ctv, ho⟩ := lamO_at I.hok e
    exact ⟨_, _, _, _, ho⟩
  refine PySem.W.callWith_F (first := []) (at_ I1 hf) (thn (ha.run pos pins s1 σ H _ I1 ht) fun us s2 ⟨vs, H2, I2, r, h1, h2, q⟩ => ⟨at_ I2 h1, ?_⟩) he hpl
  show wpAny _ _ (call (.ref f) us) _ _ _
  refine wpAny_call (codeAny_mono ((Fn F sp hS).run X.A X.stack s2 H2 us vs f c Q hr I2.env0 h1 h2 r q) fun r s' hq => ?_)
  cases r with
  | error e => exact (show False from hq).elim
  | ok fl =>
    cases fl with
    | ret u => exact I2.after hq
    | next => exact False.elim hq
    | brk => exact False.elim hq
    | cont => exact False.elim hq
end
section
variable {C : Ctx} {tas : TA} {dqs : DR} {f : Bool} {S : LF → VSp → Prop}
@[simp] def dCallF (S : LF → VSp → Prop) (i : Nat) (ds : DR) : DE := fun δ Φ => ∃ F sp, δ[i]? = some (some (.fn F)) ∧ S F sp ∧ ds δ fun rs => rs.length = 1 ∧ sp rs fun r => Φ r.data
theorem sm_callF (i : Nat) (ha : SmQ C tas dqs) : Sm C f (tCallF C.K S i tas) (dCallF S i dqs) := fun σ δ H0 H Φ Q s ⟨F, sp, e, hS, w⟩ q => by
  obtain ⟨v, e1, g, c, e2, k1, k2⟩ := s.sl i _ e
  subst e2
  refine ⟨g, c, F, sp, e1, hS, s.sub _ _ k1, ha σ δ H0 H _ _ s w fun H01 H1 vs rs g1 r1 ⟨hl, w1⟩ => ⟨g1.wf.sub _ _ (g1.fz _ _ k1), g1.wf.sub _ _ (g1.fz _ _ k2), ?_⟩⟩
  refine ⟨by rw [r1.length]; exact hl, C.ex, H01, rs, _, g1.wf.inner, r1.in_ g1.wf, w1, fun H02 H2 v r g2 h2 p2 => ?_⟩
  have g3 := Go.outer g1.wf g2
  cases r with
  | d x => exact q _ _ _ _ (g1.trans g3) (Rp.mono g3.wf.to h2) p2
  | own xs =>
    obtain ⟨a, us, rfl, k1, k2, k3, k4, k5⟩ := h2
    have g4 := Go.frz s.toWf (g1.trans g3) (g1.fresh k2) k1 k4
    exact q _ _ _ _ g4 (Rp.mono g4.wf.to (.lst upd_same (k5.mono (Go.same_new k1)))) p2
  | m u m x => exact q _ _ _ _ (g1.trans g3) (Rp.mono g3.wf.to h2.1) p2
/-- a slot that holds a lambda, handed on -/
@[simp] def qFn (i : Nat) (ds : DR) : DR := fun δ Φ => ∃ F, δ[i]? = some (some (.fn F)) ∧ ds δ fun xs => Φ (.fn F :: xs)
theorem smq_fn (i : Nat) (hb : SmQ C tas dqs) : SmQ C (tCons (tVar i) tas) (qFn i dqs) := fun σ δ H0 H Φ Q s ⟨F, e, w⟩ q => by
  obtain ⟨v, e1, g, c, h1, h2, h3⟩ := s.sl i _ e
  exact ⟨v, e1, hb σ δ H0 H _ _ s w fun H02 H2 us ys g2 r2 w2 => q H02 H2 _ _ g2 (RRas.cons (r := R.fn F) ⟨g, c, h1, g2.fz _ _ h2, g2.fz _ _ h3⟩ r2) w2⟩
end
/-- a law that reads its script itself and makes lambdas: P is its code's table -/
def spLawT (K : PySem.W.Frag) (P : Addr) : Sp := fun vs H Q _ => ∃ (a : Addr) (ns : List Int), vs = [.ref a] ∧ H P = some (.tbl #[]) ∧ a ≠ P ∧ SqL K H a (ns.map V.int) ∧ ns.length ≤ 63 ∧ ∀ H', Q (.bl true) H'
theorem law_plainT {K : PySem.W.Frag} {P a : Addr} {ns : List Int} {H : Hp} {Q : VK} {n : Nat} {t : TS} {d : DS} (hP : H P = some (.tbl #[])) (hS : SqL K H a (ns.map V.int)) (ne : a ≠ P) (k : ∀ H', Q (.bl true) H') (hd : ∀ (He Hf : Hp), IsTb He P → SmS ⟨K, some P, He, Hf⟩ t d)
    (hp : d { nx := fun _ => False, rt := fun r => r = .d (.bool true) } (some (.scr ns) :: List.replicate n none)) : t { nx := fun _ H' => Q .non H', rt := Q } (some (.ref a) :: List.replicate n none) H := by
  have w : Wf ⟨K, some P, H, fun b => if b = P then none else H b⟩ (fun b => if b = P then none else H b) H := by
    refine ⟨fun b o e => ?_, fun _ _ _ e => e, Same.refl _, fun _ _ e => .inl e, fun q e => ?_⟩
    · split at e
      · cases e
      · exact e
    · cases e
      exact ⟨if_pos rfl, .inr ⟨_, hP, trivial, fun pos cv z => by simp [codeAmong] at z⟩, Iff.rfl⟩
  have hS' : SqL K (fun b => if b = P then none else H b) a (ns.map V.int) := by
    rcases hS with (h | ⟨o, h⟩) | h
    · exact .inl (.inl (by show (if a = P then none else H a) = _; rw [if_neg ne]; exact h))
    · exact .inl (.inr ⟨o, by show (if a = P then none else H a) = _; rw [if_neg ne]; exact h⟩)
    · exact .inr h
  refine hd H (fun b => if b = P then none else H b) ⟨_, hP⟩ _ _ _ H _ _ ⟨w, by simp, fun i r e => ?_, fun i j a b xs ys n e1 e2 a1 a2 => ?_⟩ hp ⟨fun _ _ _ _ _ _ h => h.elim, fun H0' H'' v r g w' x e => ?_, fun _ _ _ _ _ _ h => h.elim, fun _ _ _ _ _ _ h => h.elim⟩
  · match i with
    | 0 => simp at e; subst e; exact ⟨_, rfl, a, rfl, hS'⟩
    | i + 1 =>
      rw [List.getElem?_cons_succ, List.getElem?_replicate] at e
      split at e <;> simp at e
  · match i with
    | 0 => simp at e1; subst e1; cases a1
    | i + 1 =>
      rw [List.getElem?_cons_succ, List.getElem?_replicate] at e1
      split at e1 <;> simp at e1
  · subst e
    cases x
    exact k _
theorem lawT_ne {K : PySem.W.Frag} {P a : Addr} {H : Hp} {xs : List V} (hP : H P = some (.tbl #[])) (hn : K.lookup P = none) (hS : SqL K H a xs) : a ≠ P := fun z => by
  subst z
  rcases hS with (h | ⟨o, h⟩) | h
  · rw [hP] at h; cases h
  · rw [hP] at h; cases h
  · obtain ⟨o, its, n, h, _⟩ := h
    rw [hn] at h; cases h
end VL

/-! sorted of numbers; xs.pop() of an owned list; whether an owned list has items. -/
namespace VL
open PySem PySem.Spec PyProof.Rows L2
theorem kx_sortedI {X : Cx} {K : PySem.W.Frag} (h : X.K = K) : CallR X (.builtin "sorted") (L2.rSortedI K) := by subst h; exact L2.cr_sortedI
theorem rpa_nums {K : PySem.W.Frag} {H : Hp} : ∀ ns : List Int, RpA K H (ns.map V.int) (ns.map PyData.int)
  | [] => .nil
  | n :: ns => .cons (.int n) (rpa_nums ns)
theorem RpA.last {K : PySem.W.Frag} {H : Hp} {y : PyData} : ∀ {xs : List PyData} {vs : List V}, RpA K H vs (xs ++ [y]) → ∃ us u, vs = us ++ [u] ∧ RpA K H us xs ∧ Rp K H u y
  | [], _, .cons h .nil => ⟨[], _, rfl, .nil, h⟩
  | _ :: _, _, .cons h r => by
    obtain ⟨us, u, rfl, r1, r2⟩ := RpA.last r
    exact ⟨_ :: us, u, rfl, .cons h r1, r2⟩
section
variable {C : Ctx} {ta : TE} {da : DE} {g : TG} {dg : DG}
@[simp] def oSorted (da : DE) : DO := fun δ Φ => da δ fun x => ∃ ns : List Int, x = .list (ns.map PyData.int) ∧ ∀ ms : List Int, ms.Perm ns → ms.Pairwise (· ≤ ·) → Φ (ms.map PyData.int)
theorem smo_sorted (ha : Sm C true ta da) : SmO C (tCB (L2.rSortedI C.K) (tCons ta tNil)) (oSorted da) := fun σ δ H0 H Φ Q s w q =>
  ha σ δ H0 H _ _ s w fun H01 H1 v x g1 r1 ⟨ns, e, p⟩ => by
    subst e
    cases r1 with
    | @lst b vs _ h r =>
      have e := r.ints
      subst e
      exact ⟨_, ns, rfl, SqL.of (g1.wf.sub _ _ h), fun ms l hp hs hl => q _ _ l _ _ (g1.trans (Go.free (o := .lst _) g1.wf hl)) (g1.fresh hl) (g1.wf.none hl) upd_same (rpa_nums ms) (p ms hp hs)⟩
@[simp] def dPop (i : Nat) (dg : DG) : DS := fun E δ => ∃ a xs y, δ[i]? = some (some (.own a (xs ++ [y]))) ∧ dg y (δ.set i (some (.own a xs))) E.nx
theorem sms_pop (i : Nat) (hg : SmG C g dg) : SmS C (tAsg (tBM0 C.K "list" rPop (tVar i)) g) (dPop i dg) := fun σ δ H0 H E D s ⟨a0, xs0, y0, e0, w⟩ e => by
  obtain ⟨v, e1, rfl, h1, h2, h3, vs, h4, h5⟩ := s.sl i _ e0
  obtain ⟨us, u, rfl, r1, r2⟩ := h5.last
  refine ⟨_, e1, .inl ⟨rfl, _, SqL.of h4⟩, a0, _, u, rfl, rfl, h4, by simp, ?_⟩
  rw [List.dropLast_concat]
  exact hg u y0 σ (δ.set i (some (.own a0 xs0))) H0 _ _ _ (s.write i e0 r1) r2 w fun σ' δ' s' w' => e.nx H0 _ σ' δ' (Same.refl _) s' w'
@[simp] def dTruO (i : Nat) : DT := fun δ Φ => ∃ a xs, δ[i]? = some (some (.own a xs)) ∧ Φ (!xs.isEmpty)
theorem smt_truO (i : Nat) : SmT C (fun σ H Q => tVar i σ H fun x H' => ∃ k, TruV C.K x H' k ∧ Q k H') (dTruO i) := fun σ δ H0 H Φ Q s ⟨a0, xs0, e0, w⟩ q => by
  obtain ⟨v, e1, rfl, h1, h2, h3, vs, h4, h5⟩ := s.sl i _ e0
  refine ⟨_, e1, !xs0.isEmpty, .inl ⟨vs, SqL.of h4, ?_⟩, q H0 H _ (.refl s.toWf) w⟩
  have := h5.length
  cases vs <;> cases xs0 <;> simp at this ⊢
end
/-! ### slot = {key: value for target in source if test} -/
def dSetDC (i : Nat) (di : DI) (own : List Nat) (dg : DG) (dt : DT) (dk dv : DE) : DS := fun E δ => di δ fun xs => ∃ I : Nat → List (Key × PyData) → Prop, I 0 [] ∧
  (∀ k y acc, xs[k]? = some y → I k acc → dg y (dwipe δ own) fun δ' => dt δ' fun b => if b = true then dk δ' fun u => dv δ' fun z => ∃ ky, u = keyD ky ∧ acc.length < sizeLine ∧ I (k + 1) (putE acc ky z) else I (k + 1) acc) ∧
  ∀ acc, I xs.length acc → ∀ a, E.nx (δ.set i (some (.dct a acc)))
section
variable {C : Ctx} {tk tv : TE} {dk dv : DE} {tt : TT} {dt : DT} {g : TG} {dg : DG} {ti : TI} {di : DI}
theorem sms_setDC {own : List Nat} (i : Nat) (hk : Kps own g) (hi : SmI C ti di) (hg : SmG C g dg) (ht : SmT C tt dt) (hkk : Sm C true tk dk) (hv : Sm C true tv dv) : SmS C (tAsg (tDc ti g tt tk tv own) (gName i)) (dSetDC i di own dg dt dk dv) := fun σ δ H0 H E D' s w e =>
  hi σ δ H0 H _ _ s w fun H01 H1 J xs g1 wk ⟨I, i0, it, ie⟩ D hD => by
    have hD0 : H D = none := g1.fresh hD
    refine ⟨fun k m H' => m = xs.length - k ∧ k ≤ xs.length ∧ ∃ H0' us acc, Go C H01 H1 H0' H' ∧ H0' D = none ∧ H' D = some (.dK us) ∧ RpK C.K H0' us acc ∧ I k acc, ⟨_, rfl, Nat.zero_le _, H01, [], [], Go.free g1.wf hD, g1.wf.none hD, upd_same, .nil, i0⟩, ?_⟩
    rintro k m H' ⟨rfl, hk', H0', us, acc, g2, hn, hl, r, p⟩
    have nex : C.ex ≠ some D := (Go.he g1.wf hD).2
    by_cases hlt : k < xs.length
    · refine .inr ⟨wk.go H0' H' k g2.fz g2.wf hlt, fun H3 => ∃ H0' us acc, Go C H01 H1 H0' H3 ∧ H0' D = none ∧ H3 D = some (.dK us) ∧ RpK C.K H0' us acc ∧ I (k + 1) acc, fun H3 h => ⟨_, by omega, rfl, hlt, h⟩, fun v H'' y => ?_⟩
      obtain ⟨H02, z, g3, hz, rz⟩ := wk.yld H0' H' k v H'' g2.fz g2.wf hlt y
      have g23 := g2.trans g3
      have keep : ∀ {A B : Hp}, Go C H02 H'' A B → A D = none ∧ B D = some (.dK us) := fun {A B} gg => by
        have h1 : B D = some (.dK us) := gg.kp D _ nex (g3.kp D _ nex hl)
        refine ⟨?_, h1⟩
        cases e : A D with
        | none => rfl
        | some u =>
          rcases (g3.trans gg).nw D u e with h2 | h2
          · rw [hn] at h2; cases h2
          · rw [hl] at h2; cases h2
      have sw : St C H02 H'' (wipe σ own) (dwipe δ own) := (s.go ((g1.trans g2).trans g3)).wipe own
      have fin := hk v (wipe σ own) H'' _ (hg v z (wipe σ own) (dwipe δ own) H02 H'' _ (fun σ2 H2 => tt σ2 H2 fun b H3 => if b = true then tk σ2 H3 fun y H4 => tv σ2 H4 fun z H5 => ∃ kvs ky, y = kV ky ∧ H5 D = some (.dK kvs) ∧ kvs.length < sizeLine ∧ ∃ H0' us acc', Go C H01 H1 H0' (upd H5 D (.dK (putK kvs ky z))) ∧ H0' D = none ∧ (upd H5 D (.dK (putK kvs ky z))) D = some (.dK us) ∧ RpK C.K H0' us acc' ∧ I (k + 1) acc' else ∃ H0' us acc, Go C H01 H1 H0' H3 ∧ H0' D = none ∧ H3 D = some (.dK us) ∧ RpK C.K H0' us acc ∧ I (k + 1) acc) sw rz (it k z acc hz p) fun σ2 δ2 s2 w2 => ?_)
      · rw [wipe_wipe] at fin
        exact fin
      · refine ht _ _ H02 H'' _ _ s2 w2 fun H04 H4 b g4 w4 => ?_
        cases b with
        | false => exact iteF ⟨H04, us, acc, g23.trans g4, (keep g4).1, (keep g4).2, r.mono (g3.fz.trans g4.fz), by simpa using w4⟩
        | true =>
          refine iteT (hkk _ _ H04 H4 (fun u => dv δ2 fun z => ∃ ky, u = keyD ky ∧ acc.length < sizeLine ∧ I (k + 1) (putE acc ky z)) _ (s2.go g4) (by simpa using w4) fun H05 H5 y' u' g5 r5 w5 => ?_)
          refine hv _ _ H05 H5 (fun z => ∃ ky, u' = keyD ky ∧ acc.length < sizeLine ∧ I (k + 1) (putE acc ky z)) _ ((s2.go g4).go g5) w5 fun H06 H6 y6 z6 g6 r6 ⟨ky, eu, w6, p6⟩ => ?_
          subst eu
          obtain rfl := rp_key r5
          have k6 := keep ((g4.trans g5).trans g6)
          refine ⟨us, ky, rfl, k6.2, by rw [r.length]; exact w6, H06, _, putE acc ky z6, ?_, k6.1, upd_same, (r.mono (g3.fz.trans (g4.fz.trans (g5.fz.trans g6.fz)))).put r6, p6⟩
          have gg := ((g23.trans g4).trans g5).trans g6
          refine ⟨⟨fun b u e => ?_, fun b u n e => ?_, gg.wf.fz, gg.wf.nw, fun c e => ?_⟩, gg.fz, fun b u n e => ?_, gg.nw⟩
          · rw [upd_ne (fun z => by rw [z, k6.1] at e; cases e)]; exact gg.wf.sub b u e
          · rw [upd_ne (fun z => by rw [z, (Go.he g1.wf hD).1] at e; cases e)]; exact gg.wf.kp b u n e
          · exact (gg.wf.dr c e).keep (Same.refl _) (gg.wf.dr c e).no (upd_ne (fun z => nex (by rw [← z]; exact e)))
          · rw [upd_ne (fun z => by rw [z, hD] at e; cases e)]; exact gg.kp b u n e
    · have hk' : k = xs.length := by omega
      refine .inl ⟨wk.stop H0' H' k g2.fz g2.wf (by omega), ?_⟩
      have gg := g1.trans g2
      have nD := gg.wf.dr
      refine e.nx H0' H' _ _ gg.fz ((s.go gg).set_adr (r := .dct D acc) i rfl (fun j q b hj hb z => ?_) ⟨rfl, hn, (Go.he g1.wf hD).1, nex, us, hl, r⟩) (ie acc (hk' ▸ p) D)
      subst z
      obtain ⟨v, _, hv⟩ := s.sl j _ hj
      obtain ⟨o, k⟩ := hv.live hb
      rw [hD0] at k; cases k
end
/-! ### targets within targets -/
def KpM (own : List Nat) (g : TG) : Prop := Kps own g ∧ ∀ v σ H (Q Q' : L2.St → Hp → Prop), (∀ σ' H', Q σ' H' → Q' σ' H') → g v σ H Q → g v σ H Q'
def KpMs (own : List Nat) (g : TGs) : Prop := KpsS own g ∧ ∀ v σ H (Q Q' : L2.St → Hp → Prop), (∀ σ' H', Q σ' H' → Q' σ' H') → g v σ H Q → g v σ H Q'
theorem KpM.kps {own : List Nat} {g : TG} (h : KpM own g) : Kps own g := h.1
theorem kpm_name {own : List Nat} {i : Nat} (h : i ∈ own) : KpM own (gName i) := ⟨kps_name h, fun v σ H Q Q' m q => m _ _ q⟩
theorem kpm_nil {own : List Nat} : KpMs own gNil := ⟨kps_nil, fun v σ H Q Q' m ⟨e, q⟩ => ⟨e, m _ _ q⟩⟩
theorem kpm_cons {own : List Nat} {g : TG} {gs : TGs} (hg : KpM own g) (k : KpMs own gs) : KpMs own (gCons g gs) :=
  ⟨fun vs σ H Q ⟨v, r, e, q⟩ => ⟨v, r, e, hg.2 _ _ _ _ _ (fun σ' H' ⟨w1, q1⟩ => k.2 _ _ _ _ _ (fun σ2 H2 ⟨w2, q2⟩ => ⟨w2.trans w1, q2⟩) (k.1 _ _ _ _ q1)) (hg.1 _ _ _ _ q)⟩,
   fun vs σ H Q Q' m ⟨v, r, e, q⟩ => ⟨v, r, e, hg.2 _ _ _ _ _ (fun σ' H' q1 => k.2 _ _ _ _ _ m q1) q⟩⟩
theorem kpm_tup {own : List Nat} {K : PySem.W.Frag} {n : Nat} {gs : TGs} (k : KpMs own gs) : KpM own (gTup K n gs) :=
  ⟨fun v σ H Q ⟨a, xs, e, h, hl, q⟩ => ⟨a, xs, e, h, hl, k.1 _ _ _ _ q⟩, fun v σ H Q Q' m ⟨a, xs, e, h, hl, q⟩ => ⟨a, xs, e, h, hl, k.2 _ _ _ _ _ m q⟩⟩
end VL

/-! regions: several owned objects that lead to each other, in one slot. -/
namespace VL
open PySem PySem.Spec PyProof.Rows L2
/-! ### cells -/
def Sto.at (m : Sto) (b : Addr) : Option Cell := (m.find? fun p => decide (p.1 = b)).map (·.2)
def Sto.put (m : Sto) (b : Addr) (c : Cell) : Sto := m.map fun p => if p.1 = b then (p.1, c) else p
theorem sat_cons (a b : Addr) (c : Cell) (m : Sto) : Sto.at ((a, c) :: m) b = if a = b then some c else Sto.at m b := by
  unfold Sto.at
  rw [List.find?_cons]
  by_cases e : a = b <;> simp [e]
theorem sat_nil (b : Addr) : Sto.at [] b = none := rfl
theorem sat_append (m n : Sto) (b : Addr) : Sto.at (m ++ n) b = (Sto.at m b).or (Sto.at n b) := by
  unfold Sto.at
  rw [List.find?_append]
  cases List.find? (fun p => decide (p.1 = b)) m <;> rfl
theorem sat_mem {m : Sto} {b : Addr} {c : Cell} (h : m.at b = some c) : (b, c) ∈ m := by
  unfold Sto.at at h
  obtain ⟨⟨a, c'⟩, h1, h2⟩ := Option.map_eq_some_iff.mp h
  have e := List.find?_some h1
  have e : a = b := by simpa using e
  subst e h2
  exact List.mem_of_find?_eq_some h1
theorem sat_dom {m : Sto} {b : Addr} {c : Cell} (h : m.at b = some c) : b ∈ m.map (·.1) := List.mem_map.mpr ⟨_, sat_mem h, rfl⟩
theorem sat_none {m : Sto} {b : Addr} (h : b ∉ m.map (·.1)) : m.at b = none := by
  cases e : m.at b with
  | none => rfl
  | some c => exact absurd (sat_dom e) h
theorem sat_new {m : Sto} {b : Addr} {c : Cell} (h : b ∉ m.map (·.1)) : Sto.at (m ++ [(b, c)]) b = some c := by
  rw [sat_append, sat_none h, sat_cons, if_pos rfl]
  rfl
theorem sat_old {m : Sto} {a b : Addr} {c d : Cell} (h : m.at a = some d) (e : a ≠ b) : Sto.at (m ++ [(b, c)]) a = some d := by
  rw [sat_append, h]
  rfl
theorem sput_dom (m : Sto) (b : Addr) (c : Cell) : (m.put b c).map (·.1) = m.map (·.1) := by
  unfold Sto.put
  rw [List.map_map]
  refine List.map_congr_left fun p _ => ?_
  show (if p.1 = b then (p.1, c) else p).1 = p.1
  split <;> rfl
theorem sat_put {m : Sto} {a b : Addr} {c d : Cell} (h : m.at b = some d) : Sto.at (m.put b c) a = if b = a then some c else m.at a := by
  induction m with
  | nil => cases h
  | cons p m ih =>
    obtain ⟨p1, p2⟩ := p
    have e : Sto.put ((p1, p2) :: m) b c = (if p1 = b then (p1, c) else (p1, p2)) :: Sto.put m b c := rfl
    rw [e]
    rw [sat_cons] at h
    by_cases q : p1 = b
    · subst q
      rw [if_pos rfl, sat_cons, sat_cons]
      by_cases q2 : p1 = a
      · rw [if_pos q2, if_pos q2]
      · rw [if_neg q2, if_neg q2, if_neg q2]
        have st : ∀ m : Sto, Sto.at (Sto.put m p1 c) a = m.at a := by
          intro m
          induction m with
          | nil => rfl
          | cons r m ih =>
            obtain ⟨r1, r2⟩ := r
            have e : Sto.put ((r1, r2) :: m) p1 c = (if r1 = p1 then (r1, c) else (r1, r2)) :: Sto.put m p1 c := rfl
            rw [e, sat_cons]
            by_cases q3 : r1 = p1
            · rw [if_pos q3, sat_cons, if_neg (fun z => q2 (q3.symm.trans z)), if_neg (fun z => q2 (q3.symm.trans z)), ih]
            · rw [if_neg q3, sat_cons, ih]
        exact st m
    · rw [if_neg q] at h
      rw [if_neg q, sat_cons, sat_cons, ih h]
      by_cases q2 : p1 = a
      · have : ¬ b = a := fun z => q (q2.trans z.symm)
        rw [if_pos q2, if_neg this, if_pos q2]
      · rw [if_neg q2, if_neg q2]
theorem sat_put_eq {m : Sto} {b : Addr} {c d : Cell} (h : m.at b = some d) : Sto.at (m.put b c) b = some c := by rw [sat_put h, if_pos rfl]
theorem sat_put_ne {m : Sto} {a b : Addr} {c d e : Cell} (h : m.at b = some d) (n : b ≠ a) (k : m.at a = some e) : Sto.at (m.put b c) a = some e := by rw [sat_put h, if_neg n]; exact k
theorem sput_mem {m : Sto} {a b : Addr} {c d : Cell} (h : (a, d) ∈ m.put b c) : (a = b ∧ d = c) ∨ (a ≠ b ∧ (a, d) ∈ m) := by
  obtain ⟨⟨p1, p2⟩, h1, h2⟩ := List.mem_map.mp h
  by_cases q : p1 = b
  · have h2 : (if p1 = b then (p1, c) else (p1, p2)) = (a, d) := h2
    rw [if_pos q] at h2
    cases h2
    exact .inl ⟨q, rfl⟩
  · have h2 : (if p1 = b then (p1, c) else (p1, p2)) = (a, d) := h2
    rw [if_neg q] at h2
    cases h2
    exact .inr ⟨q, h1⟩
/-! ### rows of cells -/
section
variable {K : PySem.W.Frag} {H H' : Hp}
theorem CVs.length : ∀ {vs : List V} {cs : List CV}, CVs K H vs cs → vs.length = cs.length
  | _, _, .nil => rfl
  | _, _, .cons _ r => by rw [List.length_cons, List.length_cons, CVs.length r]
theorem CVs.get : ∀ {vs : List V} {cs : List CV} {i : Nat} {c : CV}, CVs K H vs cs → cs[i]? = some c → ∃ v, vs[i]? = some v ∧ CVR K H v c
  | _, _, _, _, .nil, e => by simp at e
  | _, _, 0, _, .cons h _, e => by simp at e; subst e; exact ⟨_, rfl, h⟩
  | _, _, i + 1, _, .cons _ r, e => by
    obtain ⟨v, h1, h2⟩ := CVs.get (i := i) r (by simpa using e)
    exact ⟨v, by simpa using h1, h2⟩
theorem CVs.append : ∀ {vs us : List V} {cs ds : List CV}, CVs K H vs cs → CVs K H us ds → CVs K H (vs ++ us) (cs ++ ds)
  | _, _, _, _, .nil, r => r
  | _, _, _, _, .cons h r, s => .cons h (CVs.append r s)
theorem CVs.snoc {vs : List V} {cs : List CV} {v : V} {c : CV} (r : CVs K H vs cs) (h : CVR K H v c) : CVs K H (vs ++ [v]) (cs ++ [c]) := r.append (.cons h .nil)
theorem CVs.set {v : V} {c : CV} (h : CVR K H v c) : ∀ {vs : List V} {cs : List CV} (i : Nat), CVs K H vs cs → CVs K H (vs.set i v) (cs.set i c)
  | _, _, _, .nil => .nil
  | _, _, 0, .cons _ r => .cons h r
  | _, _, i + 1, .cons g r => .cons g (CVs.set h i r)
theorem CVs.take : ∀ {vs : List V} {cs : List CV} (n : Nat), CVs K H vs cs → CVs K H (vs.take n) (cs.take n)
  | _, _, 0, _ => .nil
  | _, _, _ + 1, .nil => .nil
  | _, _, n + 1, .cons h r => .cons h (CVs.take n r)
theorem CVs.drop : ∀ {vs : List V} {cs : List CV} (n : Nat), CVs K H vs cs → CVs K H (vs.drop n) (cs.drop n)
  | _, _, 0, r => r
  | _, _, _ + 1, .nil => .nil
  | _, _, n + 1, .cons _ r => CVs.drop n r
theorem CVs.last {c : CV} : ∀ {cs : List CV} {vs : List V}, CVs K H vs (cs ++ [c]) → ∃ us u, vs = us ++ [u] ∧ CVs K H us cs ∧ CVR K H u c
  | [], _, .cons h .nil => ⟨[], _, rfl, .nil, h⟩
  | _ :: _, _, .cons h r => by
    obtain ⟨us, u, rfl, r1, r2⟩ := CVs.last r
    exact ⟨_ :: us, u, rfl, .cons h r1, r2⟩
theorem RpA.cvs : ∀ {vs : List V} {xs : List PyData}, RpA K H vs xs → CVs K H vs (xs.map .d)
  | _, _, .nil => .nil
  | _, _, .cons h r => .cons h (RpA.cvs r)
theorem CVs.rpa : ∀ {vs : List V} {xs : List PyData}, CVs K H vs (xs.map .d) → RpA K H vs xs
  | _, [], .nil => .nil
  | _, _ :: _, .cons h r => .cons h (CVs.rpa r)
theorem cvs_refs : ∀ bs : List Addr, CVs K H (bs.map V.ref) (bs.map CV.r)
  | [] => .nil
  | b :: bs => .cons rfl (cvs_refs bs)
theorem cvs_ref_eq : ∀ {vs : List V} {bs : List Addr}, CVs K H vs (bs.map CV.r) → vs = bs.map V.ref
  | _, [], .nil => rfl
  | _, b :: bs, .cons h r => by
    have h : _ = V.ref b := h
    rw [List.map_cons, h, cvs_ref_eq r]
theorem atC {vs : List V} {cs : List CV} {i : Int} {c : CV} (r : CVs K H vs cs) (e : atI cs i = some c) : ∃ v, atI vs i = some v ∧ CVR K H v c := by
  unfold atI at e ⊢
  rw [r.length]
  cases h : ixN cs.length i with
  | none => rw [h] at e; simp at e
  | some j =>
    rw [h] at e
    exact r.get e
theorem CVk.lookup {f : Str} {c : CV} : ∀ {vs : List (Str × V)} {cs : List (Str × CV)}, CVk K H vs cs → cs.lookup f = some c → ∃ v, vs.lookup f = some v ∧ CVR K H v c
  | _, _, .nil, e => by cases e
  | _, _, .cons (k := k) h r, e => by
    rw [List.lookup_cons] at e ⊢
    cases q : f == k with
    | true => rw [q] at e; cases e; exact ⟨_, rfl, h⟩
    | false => rw [q] at e; exact CVk.lookup r e
theorem CVk.length {κ : Type} : ∀ {vs : List (κ × V)} {cs : List (κ × CV)}, CVk K H vs cs → vs.length = cs.length
  | _, _, .nil => rfl
  | _, _, .cons _ r => by rw [List.length_cons, List.length_cons, CVk.length r]
end
/-! ### a region is changed -/
section
variable {C : Ctx} {H0 H H0' H' : Hp} {σ : L2.St} {δ : Dl} {u v : V} {m : Sto}
theorem reg_at {b : Addr} {c : Cell} (h : RR C H0 H v (.reg u m)) (e : m.at b = some c) : H0 b = none ∧ C.He b = none ∧ C.ex ≠ some b ∧ ∃ o, H b = some o ∧ CellR C.K H0 o c := h.2.2 b c (sat_mem e)
/-- a cell is written -/
theorem St.putR {b : Addr} {c d : Cell} {o : HO} (s : St C H0 H σ δ) (i : Nat) (e : δ[i]? = some (some (.reg u m))) (eb : m.at b = some d) (ho : CellR C.K H0 o c) : St C H0 (upd H b o) σ (δ.set i (some (.reg u (m.put b c)))) := by
  obtain ⟨v, e1, hv⟩ := s.sl i _ e
  obtain ⟨k1, k2, k3⟩ := hv
  have hb := k3 b d (sat_mem eb)
  refine s.put' i e e1 (sat_dom eb) (fun a ha => by show a ∈ m.map (·.1); rw [← sput_dom m b c]; exact ha) ⟨k1, by rw [sput_dom]; exact k2, fun a c' hm => ?_⟩
  rcases sput_mem hm with ⟨rfl, rfl⟩ | ⟨n, hm⟩
  · exact ⟨hb.1, hb.2.1, hb.2.2.1, o, upd_same, ho⟩
  · obtain ⟨h1, h2, h3, o', h4, h5⟩ := k3 a c' hm
    exact ⟨h1, h2, h3, o', by rw [upd_ne n]; exact h4, h5⟩
/-- slot i gets other cells, some of them new -/
theorem St.reset {r' : R} {v' : V} (s : St C H0 H σ δ) (i : Nat) (hr : RR C H0 H v' r') (hf : ∀ b, b ∈ r'.adr → ∀ (j : Nat) (p : R), j ≠ i → δ[j]? = some (some p) → b ∉ p.adr) : St C H0 H (σ.set i (some v')) (δ.set i (some r')) where
  toWf := s.toWf
  len := by rw [List.length_set, List.length_set, s.len]
  sl := fun j p e => by
    rcases set_at e with ⟨q, rfl⟩ | ⟨q, e⟩
    · subst q
      have hd : i < δ.length := by
        have := (List.getElem?_eq_some_iff.mp e).1
        rwa [List.length_set] at this
      have : i < σ.length := by rw [s.len]; exact hd
      exact ⟨v', by rw [List.getElem?_set_self this], hr⟩
    · obtain ⟨u, e1, h1⟩ := s.sl j p e
      exact ⟨u, by rw [List.getElem?_set_ne q]; exact e1, h1⟩
  sep := fun j k b c p q n e1 e2 a1 a2 => by
    rcases set_at e1 with ⟨q1, rfl⟩ | ⟨q1, z1⟩ <;> rcases set_at e2 with ⟨q2, rfl⟩ | ⟨q2, z2⟩
    · exact absurd (q1.symm.trans q2) n
    · intro z; subst z; exact hf b a1 k q (fun z => q2 z.symm) z2 a2
    · intro z; subst z; exact hf b a2 j p (fun z => q1 z.symm) z1 a1
    · exact s.sep j k b c p q n z1 z2 a1 a2
theorem St.fresh {b : Addr} (s : St C H0 H σ δ) (hb : H b = Option.none) {j : Nat} {p : R} (e : δ[j]? = some (some p)) : b ∉ p.adr := fun h => by
  obtain ⟨v, _, hv⟩ := s.sl j p e
  obtain ⟨o, k⟩ := hv.live h
  rw [hb] at k; cases k
theorem set_same {i : Nat} {v : V} (e : σ[i]? = some (some v)) : σ.set i (some v) = σ := by
  refine List.ext_getElem? fun j => ?_
  by_cases q : i = j
  · subst q
    rw [List.getElem?_set_self (List.getElem?_eq_some_iff.mp e).1, e]
  · rw [List.getElem?_set_ne q]
/-- a new cell joins the region; s0: the state ahead of it -/
theorem St.join {b : Addr} {c : Cell} {o : HO} {Hb : Hp} {H0b : Hp} (s : St C H0 H σ δ) (i : Nat) (e : δ[i]? = some (some (.reg u m))) (s0 : St C H0b Hb σ δ) (hb : Hb b = Option.none) (h0 : H0 b = Option.none) (h : H b = some o) (ho : CellR C.K H0 o c) : b ∉ m.map (·.1) ∧ St C H0 H σ (δ.set i (some (.reg u (m ++ [(b, c)])))) := by
  have nb : b ∉ m.map (·.1) := s0.fresh hb e
  obtain ⟨v, e1, hv⟩ := s.sl i _ e
  obtain ⟨k1, k2, k3⟩ := hv
  have hn := Go.he s0.toWf hb
  refine ⟨nb, ?_⟩
  have := s.reset (r' := .reg u (m ++ [(b, c)])) (v' := v) i ⟨k1, ?_, fun a d hm => ?_⟩ (fun a ha j p n hj => ?_)
  · rw [set_same e1] at this
    exact this
  · rw [List.map_append, List.map_singleton]
    exact List.nodup_append.mpr ⟨k2, by simp, fun x hx y hy => by rw [List.mem_singleton.mp hy]; exact fun z => nb (by have z : x = b := z; rw [← z]; exact hx)⟩
  · rcases List.mem_append.mp hm with hm | hm
    · exact k3 a d hm
    · cases List.mem_singleton.mp hm
      exact ⟨h0, hn.1, hn.2, o, h, ho⟩
  · have ha : a ∈ (m ++ [(b, c)]).map (·.1) := ha
    rw [List.map_append, List.map_singleton] at ha
    rcases List.mem_append.mp ha with ha | ha
    · exact fun hp => s.sep i j a a _ _ (fun z => n z.symm) e hj ha hp rfl
    · rw [List.mem_singleton.mp ha]
      exact s0.fresh hb hj
end
/-! ### expressions that may lead into a region -/
abbrev DV := Dl → (CV → Prop) → Prop
def SmV (C : Ctx) (te : TE) (dv : DV) : Prop := ∀ (σ : L2.St) (δ : Dl) (H0 H : Hp) (Φ : CV → Prop) (Q : VK), St C H0 H σ δ → dv δ Φ →
  (∀ H0' H' v c, Go C H0 H H0' H' → CVR C.K H0' v c → Φ c → Q v H') → te σ H Q
@[simp] def rootC : R → Option CV
  | .d x => some (.d x)
  | .raw (.ref b) => some (.r b)
  | .reg (.ref b) _ => some (.r b)
  | _ => none
section
variable {C : Ctx} {H0 H H0' H' : Hp} {σ : L2.St} {δ : Dl} {f f1 f2 : Bool} {te ta tb tc : TE} {de da db dk : DE} {dv dw : DV} {g : TG} {dg : DG} {tl th : TO} {dl dh : DP} {o : DO} {tas : TA} {das : DA}
@[simp] def vVar (i : Nat) : DV := fun δ Φ => ∃ r c, δ[i]? = some (some r) ∧ rootC r = some c ∧ Φ c
theorem smv_var (i : Nat) : SmV C (tVar i) (vVar i) := fun σ δ H0 H Φ Q s ⟨r, c, e, ec, p⟩ q => by
  obtain ⟨v, e1, h⟩ := s.sl i _ e
  refine ⟨v, e1, q H0 H v c (.refl s.toWf) ?_ p⟩
  cases r with
  | d x => cases ec; exact h
  | raw u =>
    cases u <;> cases ec
    exact h
  | reg u m =>
    cases u <;> cases ec
    exact h.1
  | _ => cases ec
@[simp] def vOf (de : DE) : DV := fun δ Φ => de δ fun x => Φ (.d x)
theorem Sm.v (h : Sm C true te de) : SmV C te (vOf de) := fun σ δ H0 H Φ Q s w q => h σ δ H0 H _ _ s w fun H0' H' v x g r p => q H0' H' v (.d x) g r p
@[simp] def dV (dv : DV) : DE := fun δ Φ => dv δ fun c => ∃ x, c = .d x ∧ Φ x
theorem SmV.sm (h : SmV C te dv) : Sm C f te (dV dv) := fun σ δ H0 H Φ Q s w q => h σ δ H0 H _ _ s w fun H0' H' v c g r ⟨x, e, p⟩ => by
  subst e
  exact q H0' H' v x g (Rp.mono g.wf.to r) p
/-- an item of an owned list -/
@[simp] def vIx (i : Nat) (dv : DV) (dk : DE) : DV := fun δ Φ => dv δ fun c => dk δ fun y => ∃ b u m xs k z, c = .r b ∧ y = .int k ∧ δ[i]? = some (some (.reg u m)) ∧ m.at b = some (.l xs) ∧ atI xs k = some z ∧ Φ z
theorem smv_ix (i : Nat) (hv : SmV C ta dv) (hk : Sm C f2 tb dk) : SmV C (tOp (rIx C.K) ta tb) (vIx i dv dk) := fun σ δ H0 H Φ Q s w q =>
  hv σ δ H0 H _ _ s w fun H01 H1 v c g1 r1 w1 => hk σ δ H01 H1 _ _ (s.go g1) w1 fun H02 H2 y0 y g2 r2 ⟨b, u, m, xs, k, z, e1, e2, e3, e4, e5, p⟩ => by
    subst e1 e2
    have r1 : v = .ref b := r1
    subst r1
    cases r2
    have s2 := (s.go g1).go g2
    obtain ⟨v', _, hv'⟩ := s2.sl i _ e3
    obtain ⟨_, _, _, o, ho, vs, rfl, hc⟩ := reg_at hv' e4
    obtain ⟨w', ew, rw'⟩ := atC hc e5
    exact .inl ⟨_, _, k, w', rfl, rfl, SqL.of ho, ew, q H02 H2 w' z (g1.trans g2) rw' p⟩
/-- the value at a key of an owned dict -/
theorem CVk.val {K : PySem.W.Frag} {k : Key} {c : CV} : ∀ {vs : List (Key × V)} {cs : List (Key × CV)}, CVk K H vs cs → (cs.find? fun e => decide (e.1 = k)).map (·.2) = some c → ∃ v, valV vs k = some v ∧ CVR K H v c
  | _, _, .nil, e => by cases e
  | _, _, .cons (k := l) (v := v) h r, e => by
    rw [List.find?_cons] at e
    by_cases q : l = k
    · simp [q] at e
      subst e
      exact ⟨v, valV_pos (p := (l, v)) q, h⟩
    · simp [q] at e
      obtain ⟨v', h1, h2⟩ := CVk.val r (by simpa using e)
      exact ⟨v', by rw [valV_neg (p := (l, v)) q]; exact h1, h2⟩
def getC (es : List (Key × CV)) (k : Key) : Option CV := (es.find? fun e => decide (e.1 = k)).map (·.2)
@[simp] def vKey (i : Nat) (dv : DV) (dk : DE) : DV := fun δ Φ => dv δ fun c => dk δ fun y => ∃ b u m es k z, c = .r b ∧ y = keyD k ∧ δ[i]? = some (some (.reg u m)) ∧ m.at b = some (.D es) ∧ getC es k = some z ∧ Φ z
theorem smv_key (i : Nat) (hv : SmV C ta dv) (hk : Sm C f2 tb dk) : SmV C (tDGet ta tb) (vKey i dv dk) := fun σ δ H0 H Φ Q s w q =>
  hv σ δ H0 H _ _ s w fun H01 H1 v c g1 r1 w1 => hk σ δ H01 H1 _ _ (s.go g1) w1 fun H02 H2 y0 y g2 r2 ⟨b, u, m, es, k, z, e1, e2, e3, e4, e5, p⟩ => by
    subst e1 e2
    have r1 : v = .ref b := r1
    subst r1
    obtain rfl := rp_key r2
    have s2 := (s.go g1).go g2
    obtain ⟨v', _, hv'⟩ := s2.sl i _ e3
    obtain ⟨_, _, _, o, ho, vs, rfl, hc⟩ := reg_at hv' e4
    obtain ⟨w', ew, rw'⟩ := hc.val e5
    refine ⟨b, w', rfl, ?_, q H02 H2 w' z (g1.trans g2) rw' p⟩
    rw [← ew]
    exact DGet.k ho
/-- a field -/
@[simp] def vFld (i : Nat) (A : Addr) (n : Str) (dv : DV) : DV := fun δ Φ => dv δ fun c => ∃ b u m dx fs z, c = .r b ∧ δ[i]? = some (some (.reg u m)) ∧ m.at b = some (.I A dx fs) ∧ fs.lookup n = some z ∧ Φ z
theorem smv_fld (i : Nat) {A : Addr} {n : Str} (hc : Cls C.K A) (hn : NoAttr C.K A n) (hv : SmV C ta dv) : SmV C (tFld C.K ta n) (vFld i A n dv) := fun σ δ H0 H Φ Q s w q =>
  hv σ δ H0 H _ _ s w fun H01 H1 v c g1 r1 ⟨b, u, m, dx, fs, z, e1, e3, e4, e5, p⟩ => by
    subst e1
    have r1 : v = .ref b := r1
    subst r1
    obtain ⟨v', _, hv'⟩ := (s.go g1).sl i _ e3
    obtain ⟨_, _, _, o, ho, vs, rfl, hk⟩ := reg_at hv' e4
    obtain ⟨w', ew, rw'⟩ := hk.lookup e5
    exact ⟨b, A, dx, vs, w', rfl, ho, hc, hn, ew, q H01 H1 w' z g1 rw' p⟩
/-- how many items -/
@[simp] def dLenV (i : Nat) (dv : DV) : DE := fun δ Φ => dv δ fun c => ∃ b u m xs, c = .r b ∧ δ[i]? = some (some (.reg u m)) ∧ m.at b = some (.l xs) ∧ Φ (.int xs.length)
theorem sm_lenV (i : Nat) (hv : SmV C ta dv) : Sm C f (tCB (fun xs H Q => ∃ x n, xs = [x] ∧ LenV C.K x H n ∧ Q (.int n) H) (tCons ta tNil)) (dLenV i dv) := fun σ δ H0 H Φ Q s w q =>
  hv σ δ H0 H _ _ s w fun H01 H1 v c g1 r1 ⟨b, u, m, xs, e1, e3, e4, p⟩ => by
    subst e1
    have r1 : v = .ref b := r1
    subst r1
    obtain ⟨v', _, hv'⟩ := (s.go g1).sl i _ e3
    obtain ⟨_, _, _, o, ho, vs, rfl, hc⟩ := reg_at hv' e4
    exact ⟨_, _, rfl, .inl ⟨_, SqL.of ho, rfl⟩, by rw [hc.length]; exact q _ _ _ _ g1 (.int _) p⟩
/-- whether it has items -/
@[simp] def dTruV (i : Nat) (dv : DV) : DT := fun δ Φ => dv δ fun c => ∃ b u m xs, c = .r b ∧ δ[i]? = some (some (.reg u m)) ∧ m.at b = some (.l xs) ∧ Φ (!xs.isEmpty)
theorem smt_truV (i : Nat) (hv : SmV C ta dv) : SmT C (fun σ H Q => ta σ H fun x H' => ∃ k, TruV C.K x H' k ∧ Q k H') (dTruV i dv) := fun σ δ H0 H Φ Q s w q =>
  hv σ δ H0 H _ _ s w fun H01 H1 v c g1 r1 ⟨b, u, m, xs, e1, e3, e4, p⟩ => by
    subst e1
    have r1 : v = .ref b := r1
    subst r1
    obtain ⟨v', _, hv'⟩ := (s.go g1).sl i _ e3
    obtain ⟨_, _, _, o, ho, vs, rfl, hc⟩ := reg_at hv' e4
    refine ⟨!xs.isEmpty, .inl ⟨vs, SqL.of ho, ?_⟩, q _ _ _ g1 p⟩
    have := hc.length
    cases vs <;> cases xs <;> simp at this ⊢
/-- looked at as data -/
inductive Lk (m : Sto) : CV → PyData → Prop
  | d (x : PyData) : Lk m (.d x) x
  | l1 {b : Addr} {xs : List PyData} : m.at b = some (.l (xs.map .d)) → Lk m (.r b) (.list xs)
  | l2 {b : Addr} {rows : List (Addr × List PyData)} : m.at b = some (.l (rows.map fun p => .r p.1)) → (∀ p ∈ rows, m.at p.1 = some (.l (p.2.map .d))) → Lk m (.r b) (.list (rows.map fun p => .list p.2))
theorem Lk.rp {m : Sto} {i : Nat} {u v w : V} {c : CV} {x : PyData} (h : Lk m c x) (s : St C H0 H σ δ) (e : RR C H0 H w (.reg u m)) (r : CVR C.K H0 v c) : Rp C.K (loc C false H0 H) v x := by
  have one : ∀ {b : Addr} {xs : List PyData}, m.at b = some (.l (xs.map .d)) → Rp C.K (hid C H) (.ref b) (.list xs) := fun {b xs} h => by
    obtain ⟨_, _, k3, o, ho, vs, rfl, hc⟩ := reg_at e h
    exact .lst (hid_of ho k3) (hc.rpa.mono s.toWf.hid)
  cases h with
  | d x => exact Rp.mono s.toWf.hid r
  | l1 h =>
    have r : v = .ref _ := r
    subst r
    exact one h
  | @l2 b rows h k =>
    have r : v = .ref _ := r
    subst r
    obtain ⟨_, _, k3, o, ho, vs, rfl, hc⟩ := reg_at e h
    refine .lst (hid_of ho k3) ?_
    have hc2 : CVs C.K H0 vs ((rows.map (·.1)).map CV.r) := by rw [List.map_map]; exact hc
    rw [cvs_ref_eq hc2]
    clear ho hc hc2 h
    induction rows with
    | nil => exact .nil
    | cons a rows ih => exact .cons (one (k a (List.mem_cons_self ..))) (ih fun a ha => k a (List.mem_cons_of_mem _ ha))
@[simp] def dLook (i : Nat) (dv : DV) : DE := fun δ Φ => dv δ fun c => ∃ u m x, δ[i]? = some (some (.reg u m)) ∧ Lk m c x ∧ Φ x
theorem sm_look (i : Nat) (hv : SmV C ta dv) : Sm C false ta (dLook i dv) := fun σ δ H0 H Φ Q s w q =>
  hv σ δ H0 H _ _ s w fun H01 H1 v c g1 r1 ⟨u, m, x, e, l, p⟩ => by
    obtain ⟨v', _, hv'⟩ := (s.go g1).sl i _ e
    exact q _ _ _ _ g1 (l.rp (i := i) (s.go g1) hv' r1) p
/-! ### expressions that may make a new owned list in a region -/
abbrev DX := Dl → (Dl → CV → Prop) → Prop
def SmX (C : Ctx) (te : TE) (dx : DX) : Prop := ∀ (σ : L2.St) (δ : Dl) (H0 H : Hp) (Φ : Dl → CV → Prop) (Q : VK), St C H0 H σ δ → dx δ Φ →
  (∀ H0' H' v c δ', Same H0 H0' → St C H0' H' σ δ' → CVR C.K H0' v c → Φ δ' c → Q v H') → te σ H Q
@[simp] def xV (dv : DV) : DX := fun δ Φ => dv δ fun c => Φ δ c
theorem SmV.x (h : SmV C te dv) : SmX C te (xV dv) := fun σ δ H0 H Φ Q s w q => h σ δ H0 H _ _ s w fun H0' H' v c g r p => q H0' H' v c δ g.fz (s.go g) r p
/-- an address that the region has not -/
def NewIn (b : Addr) (m : Sto) : Prop := b ∉ m.map (·.1)
@[simp] theorem newIn_nil (b : Addr) : NewIn b [] ↔ True := by simp [NewIn]
@[simp] theorem newIn_cons (b a : Addr) (c : Cell) (m : Sto) : NewIn b ((a, c) :: m) ↔ b ≠ a ∧ NewIn b m := by
  unfold NewIn
  rw [List.map_cons, List.mem_cons]
  exact not_or
@[simp] def xNew (i : Nat) (o : DO) : DX := fun δ Φ => o δ fun xs => ∃ u m, δ[i]? = some (some (.reg u m)) ∧ ∀ b, NewIn b m → Φ (δ.set i (some (.reg u (m ++ [(b, .l (xs.map .d))])))) (.r b)
theorem smx_new (i : Nat) (h : SmO C te o) : SmX C te (xNew i o) := fun σ δ H0 H Φ Q s w q =>
  h σ δ H0 H _ _ s w fun H0' H' a vs xs g h1 h2 h3 r ⟨u, m, e, p⟩ => by
    obtain ⟨nb, s'⟩ := (s.go g).join i e s h1 h2 h3 (c := .l (xs.map .d)) ⟨vs, rfl, r.cvs⟩
    exact q H0' H' _ (.r a) _ g.fz s' rfl (p a nb)
/-- a cut of an owned list -/
def cutC (xs : List CV) (lo hi : Option Int) : List CV := List.take (HT.sIx xs.length xs.length hi - HT.sIx xs.length 0 lo) (List.drop (HT.sIx xs.length 0 lo) xs)
theorem cvs_cut {K : PySem.W.Frag} {vs : List V} {xs : List CV} (r : CVs K H vs xs) (lo hi : Option Int) : CVs K H (cutV vs lo hi) (cutC xs lo hi) := by
  unfold cutV cutC
  rw [r.length]
  exact (r.drop _).take _
@[simp] def xCut (i : Nat) (dv : DV) (dl dh : DP) : DX := fun δ Φ => dv δ fun c => dl δ fun lo => dh δ fun hi => ∃ b u m xs, c = .r b ∧ δ[i]? = some (some (.reg u m)) ∧ m.at b = some (.l xs) ∧ ∀ a, NewIn a m → Φ (δ.set i (some (.reg u (m ++ [(a, .l (cutC xs lo hi))])))) (.r a)
theorem smx_cut (i : Nat) (hv : SmV C ta dv) (hl : SmP C tl dl) (hh : SmP C th dh) : SmX C (tSl (rSlL C.K) ta tl th) (xCut i dv dl dh) := fun σ δ H0 H Φ Q s w q =>
  hv σ δ H0 H _ _ s w fun H01 H1 v c g1 r1 w1 => hl σ δ H01 H1 _ _ (s.go g1) w1 fun H02 H2 lo g2 w2 => hh σ δ H02 H2 _ _ ((s.go g1).go g2) w2 fun H03 H3 hi g3 ⟨b, u, m, xs, e1, e3, e4, p⟩ => by
    subst e1
    have r1 : v = .ref b := r1
    subst r1
    have s3 := ((s.go g1).go g2).go g3
    obtain ⟨v', _, hv'⟩ := s3.sl i _ e3
    obtain ⟨_, _, _, o, ho, vs, rfl, hc⟩ := reg_at hv' e4
    refine ⟨b, vs, rfl, SqL.of ho, fun l hl => ?_⟩
    have gn := Go.free (o := .lst (cutV vs lo hi)) s3.toWf hl
    obtain ⟨nb, s'⟩ := (s3.go gn).join i e3 s3 hl (s3.toWf.none hl) upd_same (c := .l (cutC xs lo hi)) ⟨_, rfl, cvs_cut hc lo hi⟩
    exact q H03 _ _ (.r l) _ (((g1.fz.trans g2.fz).trans g3.fz).trans gn.fz) s' rfl (p l nb)
end
/-! ### statements -/
section
variable {C : Ctx} {H0 H H0' H' : Hp} {σ : L2.St} {δ : Dl} {f f1 f2 : Bool} {te ta tb tc : TE} {de da db dk : DE} {dv dw : DV} {dx : DX} {g : TG} {dg : DG} {o : DO} {ts : TS} {ds : DS}
/-- slot = an owned object's name -/
@[simp] def dAsgV (j : Nat) (dx : DX) : DS := fun E δ => dx δ fun δ' c => ∃ b, c = .r b ∧ E.nx (δ'.set j (some (.raw (.ref b))))
theorem sms_asgV (j : Nat) (h : SmX C te dx) : SmS C (tAsg te (gName j)) (dAsgV j dx) := fun σ δ H0 H E D s w e =>
  h σ δ H0 H _ _ s w fun H0' H' v c δ' gr s' r ⟨b, ec, p⟩ => by
    subst ec
    have r : v = .ref b := r
    subst r
    exact e.nx H0' H' _ _ gr (s'.set_raw j _) p
/-- the region's own slot leads elsewhere in it -/
@[simp] def dRoot (i : Nat) (dx : DX) : DS := fun E δ => dx δ fun δ' c => ∃ b u m, c = .r b ∧ δ'[i]? = some (some (.reg u m)) ∧ E.nx (δ'.set i (some (.reg (.ref b) m)))
theorem sms_root (i : Nat) (h : SmX C te dx) : SmS C (tAsg te (gName i)) (dRoot i dx) := fun σ δ H0 H E D s w e =>
  h σ δ H0 H _ _ s w fun H0' H' v c δ' gr s' r ⟨b, u, m, ec, ei, p⟩ => by
    subst ec
    have r : v = .ref b := r
    subst r
    obtain ⟨v', e1, hv⟩ := s'.sl i _ ei
    exact e.nx H0' H' _ _ gr (s'.reset (r' := .reg (.ref b) m) i (v' := .ref b) ⟨rfl, hv.2.1, hv.2.2⟩ fun a ha j p n hj hp => s'.sep i j a a _ _ (fun z => n z.symm) ei hj ha hp rfl) p
/-- X[k] = e -/
@[simp] def dSetIV (i : Nat) (dx : DX) (dv : DV) (dk : DE) : DS := fun E δ => dx δ fun δ' c => dv δ' fun c1 => dk δ' fun y => ∃ b u m xs k j, c1 = .r b ∧ y = .int k ∧ δ'[i]? = some (some (.reg u m)) ∧ m.at b = some (.l xs) ∧ ixN xs.length k = some j ∧ E.nx (δ'.set i (some (.reg u (m.put b (.l (xs.set j c))))))
theorem sms_setIV (i : Nat) (h : SmX C te dx) (hv : SmV C ta dv) (hk : Sm C f2 tb dk) : SmS C (tAsg te (gSub ta tb rSetL)) (dSetIV i dx dv dk) := fun σ δ H0 H E D s w e =>
  h σ δ H0 H _ _ s w fun H01 H1 v c δ1 gr s1 r w1 => hv σ δ1 H01 H1 _ _ s1 w1 fun H02 H2 v1 c1 g2 r2 w2 => hk σ δ1 H02 H2 _ _ (s1.go g2) w2 fun H03 H3 y0 y g3 r3 ⟨b, u, m, xs, k, j, e1, e2, e3, e4, e5, p⟩ => by
    subst e1 e2
    have r2 : v1 = .ref b := r2
    subst r2
    cases r3
    have s3 := (s1.go g2).go g3
    obtain ⟨v', _, hv'⟩ := s3.sl i _ e3
    obtain ⟨_, _, _, o, ho, vs, rfl, hc⟩ := reg_at hv' e4
    exact ⟨b, vs, k, j, rfl, rfl, ho, by rw [hc.length]; exact e5, e.nx H03 _ σ _ ((gr.trans g2.fz).trans g3.fz) (s3.putR (c := .l (xs.set j c)) i e3 e4 ⟨_, rfl, hc.set ((r.mono g2.fz).mono g3.fz) j⟩) p⟩
/-- X.append(e) -/
@[simp] def dAppV (i : Nat) (dv : DV) (dx : DX) : DS := fun E δ => dv δ fun c1 => ∃ b u0 m0 xs0, c1 = .r b ∧ δ[i]? = some (some (.reg u0 m0)) ∧ m0.at b = some (.l xs0) ∧ dx δ fun δ' c => ∃ u m xs, δ'[i]? = some (some (.reg u m)) ∧ m.at b = some (.l xs) ∧ xs.length < sizeLine ∧ E.nx (δ'.set i (some (.reg u (m.put b (.l (xs ++ [c]))))))
theorem sms_appV (i : Nat) (hv : SmV C ta dv) (h : SmX C te dx) : SmS C (tDrop (tBM C.K "list" rAppend ta (tCons te tNil))) (dAppV i dv dx) := fun σ δ H0 H E D s w e =>
  hv σ δ H0 H _ _ s w fun H01 H1 v1 c1 g1 r1 ⟨b, u0, m0, xs0, e1, e2, e3, w1⟩ => by
    subst e1
    have r1 : v1 = .ref b := r1
    subst r1
    obtain ⟨v', _, hv'⟩ := (s.go g1).sl i _ e2
    obtain ⟨_, _, _, o, ho, vs, rfl, hc⟩ := reg_at hv' e3
    refine ⟨.inl ⟨rfl, vs, SqL.of ho⟩, h σ δ H01 H1 _ _ (s.go g1) w1 fun H02 H2 v c δ' gr s' r ⟨u, m, xs, e4, e5, hl, p⟩ => ?_⟩
    obtain ⟨v2, _, hv2⟩ := s'.sl i _ e4
    obtain ⟨_, _, _, o2, ho2, vs2, rfl, hc2⟩ := reg_at hv2 e5
    exact ⟨b, vs2, v, rfl, rfl, ho2, by rw [hc2.length]; exact hl, e.nx H02 _ σ _ (g1.fz.trans gr) (s'.putR (c := .l (xs ++ [c])) i e4 e5 ⟨_, rfl, hc2.snoc r⟩) p⟩
/-- target = X.pop() -/
@[simp] def dPopV (i : Nat) (dv : DV) (dg : DG) : DS := fun E δ => dv δ fun c1 => ∃ b u m xs x, c1 = .r b ∧ δ[i]? = some (some (.reg u m)) ∧ m.at b = some (.l (xs ++ [.d x])) ∧ dg x (δ.set i (some (.reg u (m.put b (.l xs))))) E.nx
theorem sms_popV (i : Nat) (hv : SmV C ta dv) (hg : SmG C g dg) : SmS C (tAsg (tBM0 C.K "list" rPop ta) g) (dPopV i dv dg) := fun σ δ H0 H E D s w e =>
  hv σ δ H0 H _ _ s w fun H01 H1 v1 c1 g1 r1 ⟨b, u, m, xs, x, e1, e2, e3, w1⟩ => by
    subst e1
    have r1 : v1 = .ref b := r1
    subst r1
    obtain ⟨v', _, hv'⟩ := (s.go g1).sl i _ e2
    obtain ⟨_, _, _, o, ho, vs, rfl, hc⟩ := reg_at hv' e3
    obtain ⟨us, y, rfl, hc1, hy⟩ := hc.last
    refine ⟨.inl ⟨rfl, _, SqL.of ho⟩, b, _, y, rfl, rfl, ho, by simp, ?_⟩
    rw [List.dropLast_concat]
    exact hg y x σ _ H01 _ _ _ ((s.go g1).putR (c := .l xs) i e2 e3 ⟨_, rfl, hc1⟩) hy w1 fun σ' δ' s' w' => e.nx H01 _ σ' δ' g1.fz s' w'
/-- slot = [e], e a new list -/
@[simp] def dSetN1 (i : Nat) (o : DO) : DS := fun E δ => o δ fun xs => ∀ a b, a ≠ b → E.nx (δ.set i (some (.reg (.ref a) [(a, .l [.r b]), (b, .l (xs.map .d))])))
theorem sms_setN1 (i : Nat) (h : SmO C te o) : SmS C (tAsg (tLst (tCons te tNil)) (gName i)) (dSetN1 i o) := fun σ δ H0 H E D s w e =>
  h σ δ H0 H _ _ s w fun H01 H1 b vs xs g h1 h2 h3 r p => by
    refine ⟨by show 1 ≤ sizeLine; decide, fun a ha => ?_⟩
    have s1 := s.go g
    have gn := Go.free (o := .lst [.ref b]) g.wf ha
    have ne : a ≠ b := fun z => by rw [z, h3] at ha; cases ha
    have hb := Go.he s.toWf h1
    have ha' := Go.he g.wf ha
    refine e.nx H01 _ _ _ (g.fz.trans gn.fz) ((s1.go gn).reset i (v' := .ref a) (r' := .reg (.ref a) [(a, .l [.r b]), (b, .l (xs.map .d))]) ⟨rfl, by simp [ne], fun a' c hm => ?_⟩ fun c hc j p n hj => ?_) (p a b ne)
    · rcases List.mem_cons.mp hm with hm | hm
      · cases hm
        exact ⟨g.wf.none ha, ha'.1, ha'.2, _, upd_same, _, rfl, .cons rfl .nil⟩
      · cases List.mem_singleton.mp hm
        exact ⟨h2, hb.1, hb.2, _, by rw [upd_ne (fun z => ne z.symm)]; exact h3, _, rfl, r.cvs⟩
    · rcases List.mem_cons.mp hc with hc | hc
      · subst hc; exact s1.fresh ha hj
      · cases List.mem_singleton.mp hc
        exact s.fresh h1 hj
end
end VL

/-! regions lent to a method; fields; new instances. -/
namespace VL
open PySem PySem.Spec PyProof.Rows L2
def lend (m : Sto) (H : Hp) : Hp := fun b => if b ∈ m.map (·.1) then none else H b
theorem lend_in {m : Sto} {H : Hp} {b : Addr} (h : b ∈ m.map (·.1)) : lend m H b = none := if_pos h
theorem lend_out {m : Sto} {H : Hp} {b : Addr} (h : b ∉ m.map (·.1)) : lend m H b = H b := if_neg h
abbrev VSpM := V → Sto → List R → (Sto → PyData → Prop) → Prop
def toSpM (K : PySem.W.Frag) (n : Nat) (p : VSpM) : Sp := fun vs H Q _ => vs.length = n ∧ ∃ (ex : Option Addr) (H0 : Hp) (u : V) (m : Sto) (ws : List V) (rs : List R) (Φ : Sto → PyData → Prop), vs = u :: ws ∧ Wf ⟨K, ex, lend m H, H0⟩ H0 H ∧ RR ⟨K, ex, lend m H, H0⟩ H0 H u (.reg u m) ∧ RRas K ex (lend m H) H0 ws rs ∧ p u m rs Φ ∧
  ∀ H0' H' v m' x, Wf ⟨K, ex, lend m H, H0⟩ H0' H' → RR ⟨K, ex, lend m H, H0⟩ H0' H' u (.reg u m') → Rp K H0' v x → Φ m' x → Q v H'
section
variable {C : Ctx} {H0 H H0' H' : Hp} {σ : L2.St} {δ : Dl} {u v : V} {m m' : Sto}
theorem RR.move {r : R} (h : RR C H0 H v r) (gr : Same H0 H0') (k : ∀ b, b ∈ r.adr → H0' b = none ∧ ∀ o, H b = some o → H' b = some o) : RR C H0' H' v r := by
  cases r with
  | d x => exact Rp.mono gr h
  | own a xs =>
    obtain ⟨e, h1, h2, h3, vs, h4, h5⟩ := h
    have := k a (List.mem_singleton.mpr rfl)
    exact ⟨e, this.1, h2, h3, vs, this.2 _ h4, h5.mono gr⟩
  | drw => exact h
  | raw u => exact h
  | scr ns => obtain ⟨a, e, q⟩ := h; exact ⟨a, e, gr.seq q⟩
  | fn F => obtain ⟨a, c, e, q, q2⟩ := h; exact ⟨a, c, e, gr _ _ q, gr _ _ q2⟩
  | dct a es =>
    obtain ⟨e, h1, h2, h3, vs, h4, h5⟩ := h
    have := k a (List.mem_singleton.mpr rfl)
    exact ⟨e, this.1, h2, h3, vs, this.2 _ h4, h5.mono gr⟩
  | reg u m =>
    obtain ⟨e, nd, h⟩ := h
    refine ⟨e, nd, fun a c hm => ?_⟩
    obtain ⟨h1, h2, h3, o, h4, h5⟩ := h a c hm
    have := k a (List.mem_map.mpr ⟨_, hm, rfl⟩)
    exact ⟨this.1, h2, h3, o, this.2 _ h4, h5.mono gr⟩
theorem reg_ne {w : V} {b : Addr} (h : RR C H0 H w (.reg u m)) (e : C.ex = some b) : b ∉ m.map (·.1) := fun hb => (h.adr hb).2.2 e
/-- what the callee sees -/
theorem Wf.lent {w : V} (w0 : Wf C H0 H) (h : RR C H0 H w (.reg u m)) : Wf ⟨C.K, C.ex, lend m H, H0⟩ H0 H ∧ RR ⟨C.K, C.ex, lend m H, H0⟩ H0 H u (.reg u m) := by
  refine ⟨⟨w0.sub, fun b o _ q => ?_, Same.refl _, fun b o e => .inl e, fun p e => ?_⟩, rfl, h.2.1, fun a c hm => ?_⟩
  · have q : lend m H b = some o := q
    by_cases hb : b ∈ m.map (·.1)
    · rw [lend_in hb] at q; cases q
    · rw [lend_out hb] at q; exact q
  · have d := w0.dr p e
    refine ⟨d.1, d.2.1, ?_⟩
    show IsTb (lend m H) p ↔ IsTb H p
    unfold IsTb
    rw [lend_out (reg_ne h e)]
  · obtain ⟨h1, h2, h3, o, h4, h5⟩ := h.2.2 a c hm
    exact ⟨h1, lend_in (List.mem_map.mpr ⟨_, hm, rfl⟩), h3, o, h4, h5⟩
theorem RRas.lent {w : V} (w0 : Wf C H0 H) (h : RR C H0 H w (.reg u m)) : ∀ {vs : List V} {rs : List R}, RRas C.K C.ex C.He H0 vs rs → RRas C.K C.ex (lend m H) H0 vs rs
  | _, _, .nil => .nil
  | _, _, .cons (r := r) q qs => by
    refine .cons ?_ (RRas.lent w0 h qs)
    cases r with
    | drw =>
      obtain ⟨p, e1, e2, e3⟩ := q
      refine ⟨p, e1, e2, fun z => e3 ((w0.dr p e1).2.2.mpr ?_)⟩
      unfold IsTb at z ⊢
      rw [lend_out (reg_ne h e1)] at z
      exact z
    | d x => exact q
    | own a xs => exact q
    | raw u => exact q
    | scr ns => exact q
    | fn F => exact q
    | dct a es => exact q
    | reg u m => exact q
/-- behind the call -/
theorem St.lend (s : St C H0 H σ δ) (i : Nat) (e : δ[i]? = some (some (.reg u m))) (g : Wf ⟨C.K, C.ex, VL.lend m H, H0⟩ H0' H') (h' : RR ⟨C.K, C.ex, VL.lend m H, H0⟩ H0' H' u (.reg u m')) : Same H0 H0' ∧ St C H0' H' σ (δ.set i (some (.reg u m'))) := by
  obtain ⟨w, e1, hw⟩ := s.sl i _ e
  have ew : w = u := hw.1
  subst ew
  have he : ∀ {b : Addr}, VL.lend m H b = Option.none → C.ex ≠ some b → C.He b = Option.none := fun {b} q n => by
    by_cases hb : b ∈ m.map (·.1)
    · exact (hw.adr hb).2.1
    · rw [lend_out hb] at q
      cases z : C.He b with
      | none => rfl
      | some y => rw [s.kp b y n z] at q; cases q
  have nex : ∀ {b : Addr} {o : HO}, H0' b = some o → C.ex ≠ some b := fun {b o} q n => by
    have := (g.dr b n).no
    rw [q] at this; cases this
  have wf' : Wf C H0' H' := by
    refine ⟨g.sub, fun b o n q => ?_, s.fz.trans g.fz, fun b o q => ?_, fun p q => ?_⟩
    · have hb : b ∉ m.map (·.1) := fun z => by rw [(hw.adr z).2.1] at q; cases q
      exact g.kp b o n (by show VL.lend m H b = some o; rw [lend_out hb]; exact s.kp b o n q)
    · rcases g.nw b o q with z | z
      · exact s.nw b o z
      · exact .inr (he z (nex q))
    · have d1 := s.dr p q
      have d2 := g.dr p q
      refine ⟨d2.1, d2.2.1, d1.2.2.trans (Iff.trans ?_ d2.2.2)⟩
      show IsTb H p ↔ IsTb (VL.lend m H) p
      unfold IsTb
      rw [lend_out (reg_ne hw q)]
  have alive : ∀ {j : Nat} {p : R} {b : Addr}, j ≠ i → δ[j]? = some (some p) → b ∈ p.adr → b ∉ m.map (·.1) ∧ H0' b = Option.none ∧ ∀ o, H b = some o → H' b = some o := fun {j p b} n hj hb => by
    obtain ⟨v, _, hv⟩ := s.sl j p hj
    obtain ⟨k1, k2, k3⟩ := hv.adr hb
    have nm : b ∉ m.map (·.1) := fun z => s.sep j i b b p _ n hj e hb z rfl
    refine ⟨nm, ?_, fun o q => g.kp b o k3 (by show VL.lend m H b = some o; rw [lend_out nm]; exact q)⟩
    cases q : H0' b with
    | none => rfl
    | some o =>
      obtain ⟨o', ho⟩ := hv.live hb
      rcases g.nw b o q with z | z
      · have z : H0 b = some o := z
        rw [k1] at z; cases z
      · have z : VL.lend m H b = Option.none := z
        rw [show VL.lend m H b = H b from lend_out nm, ho] at z; cases z
  refine ⟨g.fz, wf', by rw [List.length_set, s.len], fun j p q => ?_, fun j k b c p q n q1 q2 a1 a2 => ?_⟩
  · rcases set_at q with ⟨z, rfl⟩ | ⟨z, q⟩
    · subst z
      refine ⟨w, e1, rfl, h'.2.1, fun a c hm => ?_⟩
      obtain ⟨k1, k2, k3, o, k4, k5⟩ := h'.2.2 a c hm
      exact ⟨k1, he k2 k3, k3, o, k4, k5⟩
    · obtain ⟨v, f1, f2⟩ := s.sl j p q
      exact ⟨v, f1, f2.move g.fz fun b hb => (alive (fun z' => z z'.symm) q hb).2⟩
  · have new : ∀ {j : Nat} {p : R} {b c : Addr}, j ≠ i → δ[j]? = some (some p) → b ∈ p.adr → c ∈ m'.map (·.1) → b ≠ c := fun {j p b c} n hj hb hc z => by
      subst z
      obtain ⟨v, _, hv⟩ := s.sl j p hj
      obtain ⟨o, ho⟩ := hv.live hb
      have nm := (alive n hj hb).1
      have this : VL.lend m H b = Option.none := (h'.adr (a := b) hc).2.1
      rw [show VL.lend m H b = H b from lend_out nm, ho] at this
      cases this
    rcases set_at q1 with ⟨z1, y1⟩ | ⟨z1, y1⟩ <;> rcases set_at q2 with ⟨z2, y2⟩ | ⟨z2, y2⟩
    · exact absurd (z1.symm.trans z2) n
    · rw [y1] at a1; exact (new (fun z => z2 z.symm) y2 a2 a1).symm
    · rw [y2] at a2; exact new (fun z => z1 z.symm) y1 a1 a2
    · exact s.sep j k b c p q n y1 y2 a1 a2
end
/-! ### a method's own walk -/
theorem fn_okM {P : Program} {w : World} {K : PySem.W.Frag} {mg : Str → Option Value} {base : Heap} {x qual : Str} {st : Stmt} {fa : Addr} {fd : FuncData} {N ps : List Str} {k : Nat} {p : VSpM}
    (F : Fun K x qual st fa fd) (S : FnScope N ps (defScope st))
    (hbody : ∀ (cdv : Value) (A : Around) (outer : List Env) (s : Shared) (H : Hp) (E : XK), Room k (A.deeper (PyProof.Rows.envOfC qual (defScope st) s.heap.objs.size fa cdv)) →
      ∃ t, PSs (cxOf CX0 P w K mg base N qual (defScope st) fa cdv A outer s H E).nox (defBody st) t ∧ ∃ d : DS, (∀ (ex : Option Addr) (He Hf : Hp), SmS ⟨K, ex, He, Hf⟩ t d) ∧ ∀ u m rs Φ, (m.map (·.1)).Nodup → p u m rs Φ →
        d { nx := fun δ => ∃ m', δ[0]? = some (some (.reg u m')) ∧ Φ m' .none, rt := fun r => ∃ m' x, r = .m u m' x ∧ Φ m' x } (startD N.length (.reg u m :: rs))) : FnOk P w K mg base CX0 (k + 1) fa fd ps (toSpM K ps.length p) := by
  refine F.ok S (fun vs H Q E h => h.1) (fun cdv A outer s H vs Q E hr h => ?_)
  obtain ⟨t, ht, d, hd, hp⟩ := hbody cdv A outer s H E hr
  obtain ⟨hl, ex, H0, u, m, ws, rs, Φ, rfl, wf, hR, ra, hsp, q⟩ := h
  refine ⟨t, ht, ?_⟩
  have hlen := ra.length
  have hget : ∀ {j : Nat} {r : R}, (startD N.length (.reg u m :: rs))[j]? = some (some r) → ((j = 0 ∧ r = .reg u m) ∨ ∃ k v, j = k + 1 ∧ rs[k]? = some r ∧ ws[k]? = some v ∧ RRa K ex (VL.lend m H) H0 v r) := fun {j r} e => by
    unfold startD at e
    by_cases hj : j < (R.reg u m :: rs).length
    · rw [List.getElem?_append_left (by simpa using hj), List.getElem?_map] at e
      cases j with
      | zero => simp at e; exact .inl ⟨rfl, e.symm⟩
      | succ j =>
        rw [List.getElem?_cons_succ] at e
        cases e1 : rs[j]? with
        | none => rw [e1] at e; simp at e
        | some r' =>
          rw [e1] at e
          simp at e
          subst e
          obtain ⟨v, h1, h2⟩ := ra.get e1
          exact .inr ⟨j, v, rfl, e1, h1, h2⟩
    · rw [List.getElem?_append_right (by simpa using hj)] at e
      rw [List.getElem?_replicate] at e
      split at e <;> simp at e
  refine hd ex (VL.lend m H) H0 _ (startD N.length (.reg u m :: rs)) H0 H _ _ ⟨wf, ?_, fun j r e => ?_, fun i j a b xs ys n e1 e2 a1 a2 => ?_⟩ (hp u m rs Φ hR.2.1 hsp) ⟨fun H0' H' σ δ g s' ⟨m', h1, h2⟩ => ?_, fun H0' H' v r g w' xr ⟨m', x, er, p'⟩ => ?_, fun _ _ _ _ _ _ h => h.elim, fun _ _ _ _ _ _ h => h.elim⟩
  · simp [L2.start, startD, hlen]
  · rcases hget e with ⟨rfl, rfl⟩ | ⟨k, v, rfl, e1, h1, h2⟩
    · exact ⟨u, by unfold L2.start; simp, hR⟩
    · refine ⟨v, ?_, ?_⟩
      · unfold L2.start
        have hk := (List.getElem?_eq_some_iff.mp h1).1
        rw [List.getElem?_append_left (by rw [List.length_map, List.length_cons]; omega), List.getElem?_map, List.getElem?_cons_succ, h1]
        rfl
      · cases r with
        | d x => exact h2
        | own a xs => exact h2.elim
        | drw => exact h2
        | raw u => exact h2
        | scr ns => exact h2
        | fn F => exact h2
        | dct a es => exact h2.elim
        | reg u m => exact h2.elim
  · have f : ∀ {k : Nat} {v : V} {r : R} {a : Addr}, RRa K ex (VL.lend m H) H0 v r → a ∈ r.adr → False := fun {k v r a} h2 ea => by
      cases r with
      | own a xs => exact h2
      | dct a xs => exact h2
      | reg u m => exact h2
      | d x => cases ea
      | drw => cases ea
      | raw u => cases ea
      | scr ns => cases ea
      | fn F => cases ea
    rcases hget e1 with ⟨z1, _⟩ | ⟨k, v, _, _, _, h2⟩
    · rcases hget e2 with ⟨z2, _⟩ | ⟨k, v, _, _, _, h2⟩
      · exact absurd (z1.trans z2.symm) n
      · exact (f (k := 0) h2 a2).elim
    · exact (f (k := 0) h2 a1).elim
  · obtain ⟨v, _, hv⟩ := s'.sl 0 _ h1
    have ev : v = u := hv.1
    subst ev
    exact q H0' H' .non m' .none s'.toWf hv .non h2
  · subst er
    obtain ⟨x1, x2⟩ := xr
    exact q H0' H' v m' x w' x2 x1 p'
section
variable {C : Ctx} {H0 H H0' H' : Hp} {σ : L2.St} {δ : Dl} {f f1 f2 : Bool} {te ta tb : TE} {de da db dk : DE} {dv dw : DV} {dx dy : DX} {tas : TA} {dqs : DR} {ts : TS} {ds : DS}
/-- return e, within a method -/
@[simp] def dRetM (i : Nat) (de : DE) : DS := fun E δ => de δ fun x => ∃ u m, δ[i]? = some (some (.reg u m)) ∧ E.rt (.m u m x)
theorem sms_retM (i : Nat) (h : Sm C true te de) : SmS C (tRet te) (dRetM i de) := fun σ δ H0 H E D s w e =>
  h σ δ H0 H _ _ s w fun H0' H' v x g r ⟨u, m, ei, p⟩ => by
    obtain ⟨w', _, hw⟩ := (s.go g).sl i _ ei
    have ew : w' = u := hw.1
    subst ew
    exact e.rt H0' H' v (.m w' m x) g.fz g.wf ⟨r, hw⟩ p
/-- o.m(..), o the slot of a region -/
@[simp] def xMeth (i : Nat) (A : Addr) (name : Str) (n : Nat) (p : VSpM) (ds : DR) : DX := fun δ Φ => ∃ b m dx fs, δ[i]? = some (some (.reg (.ref b) m)) ∧ m.at b = some (.I A dx fs) ∧ fs.lookup name = none ∧ ds δ fun rs => rs.length + 1 = n ∧ p (.ref b) m rs fun m' x => (m'.map (·.1)).Nodup → Φ (δ.set i (some (.reg (.ref b) m'))) (.d x)
theorem CVk.nol {K : PySem.W.Frag} {n : Str} : ∀ {vs : List (Str × V)} {cs : List (Str × CV)}, CVk K H vs cs → cs.lookup n = none → vs.lookup n = none
  | _, _, .nil, _ => rfl
  | _, _, .cons (k := k) h r, e => by
    rw [List.lookup_cons] at e ⊢
    cases q : n == k with
    | true => rw [q] at e; cases e
    | false => rw [q] at e; exact CVk.nol r e
theorem smx_meth (i : Nat) {A : Addr} {name : Str} {n : Nat} {p : VSpM} {E : XK} (ha : SmQ C tas dqs) : SmX C (tMeth A name (toSpM C.K n p) [] E (tVar i) tas) (xMeth i A name n p dqs) := fun σ δ H0 H Φ Q s ⟨b, m, dx, fs, e, eb, hn, w⟩ q => by
  obtain ⟨v, e1, hv⟩ := s.sl i _ e
  have ev : v = .ref b := hv.1
  subst ev
  obtain ⟨_, _, _, o, ho, vs, rfl, hk⟩ := reg_at hv eb
  refine ⟨_, e1, b, dx, vs, rfl, ho, hk.nol hn, ha σ δ H0 H _ _ s w fun H01 H1 us rs g1 r1 ⟨hl, w1⟩ => ?_⟩
  show toSpM C.K n p (.ref b :: (us ++ [])) H1 Q E
  rw [List.append_nil]
  have s1 := s.go g1
  obtain ⟨v', e1', hv'⟩ := s1.sl i _ e
  obtain ⟨wl, hR⟩ := Wf.lent s1.toWf hv'
  refine ⟨by rw [List.length_cons, r1.length]; exact hl, C.ex, H01, .ref b, m, us, rs, _, rfl, wl, hR, RRas.lent s1.toWf hv' r1, w1, fun H02 H2 v2 m' x g2 h2 rx p2 => ?_⟩
  obtain ⟨gr, s2⟩ := s1.lend i e g2 h2
  exact q H02 H2 v2 (.d x) _ (g1.fz.trans gr) s2 rx (p2 h2.2.1)
/-- a statement that is an expression -/
@[simp] def dDropX (dx : DX) : DS := fun E δ => dx δ fun δ' _ => E.nx δ'
theorem sms_dropX (h : SmX C te dx) : SmS C (tDrop te) (dDropX dx) := fun σ δ H0 H E D s w e =>
  h σ δ H0 H _ _ s w fun H0' H' v c δ' gr s' r p => e.nx H0' H' σ δ' gr s' p
/-- slot = e, data -/
@[simp] def dAsgX (j : Nat) (dx : DX) : DS := fun E δ => dx δ fun δ' c => ∃ x, c = .d x ∧ E.nx (δ'.set j (some (.d x)))
theorem sms_asgX (j : Nat) (h : SmX C te dx) : SmS C (tAsg te (gName j)) (dAsgX j dx) := fun σ δ H0 H E D s w e =>
  h σ δ H0 H _ _ s w fun H0' H' v c δ' gr s' r ⟨x, ec, p⟩ => by
    subst ec
    exact e.nx H0' H' _ _ gr (s'.set_d j r) p
/-- an item at a place that a call tells -/
@[simp] def xIx (i : Nat) (dv : DV) (dx : DX) : DX := fun δ Φ => dv δ fun c => dx δ fun δ' c2 => ∃ b u m xs k z, c = .r b ∧ c2 = .d (.int k) ∧ δ'[i]? = some (some (.reg u m)) ∧ m.at b = some (.l xs) ∧ atI xs k = some z ∧ Φ δ' z
theorem smx_ix (i : Nat) (hv : SmV C ta dv) (hk : SmX C tb dx) : SmX C (tOp (rIx C.K) ta tb) (xIx i dv dx) := fun σ δ H0 H Φ Q s w q =>
  hv σ δ H0 H _ _ s w fun H01 H1 v c g1 r1 w1 => hk σ δ H01 H1 _ _ (s.go g1) w1 fun H02 H2 v2 c2 δ' g2 s2 r2 ⟨b, u, m, xs, k, z, e1, e2, e3, e4, e5, p⟩ => by
    subst e1 e2
    have r1 : v = .ref b := r1
    subst r1
    have r2 : Rp C.K H02 v2 (.int k) := r2
    cases r2
    obtain ⟨v', _, hv'⟩ := s2.sl i _ e3
    obtain ⟨_, _, _, o, ho, vs, rfl, hc⟩ := reg_at hv' e4
    obtain ⟨w', ew, rw'⟩ := atC hc e5
    exact .inl ⟨_, _, k, w', rfl, rfl, SqL.of ho, ew, q H02 H2 w' z δ' (g1.fz.trans g2) s2 rw' p⟩
/-- a built-in of two values, the second told by a call -/
@[simp] def xCB2 (g : List PyData → (PyData → Prop) → Prop) (da : DE) (dx : DX) : DX := fun δ Φ => da δ fun x => dx δ fun δ' c => ∃ y, c = .d y ∧ g [x, y] fun z => Φ δ' (.d z)
theorem smx_cb2 {r : List V → Hp → VK → Prop} {g : List PyData → (PyData → Prop) → Prop} (hr : CbD C r g) (ha : Sm C true ta da) (hx : SmX C tb dx) : SmX C (tCB r (tCons ta (tCons tb tNil))) (xCB2 g da dx) := fun σ δ H0 H Φ Q s w q =>
  ha σ δ H0 H _ _ s w fun H01 H1 v x g1 r1 w1 => hx σ δ H01 H1 _ _ (s.go g1) w1 fun H02 H2 v2 c δ' g2 s2 r2 ⟨y, ec, p⟩ => by
    subst ec
    have r2 : Rp C.K H02 v2 y := r2
    refine hr H2 [v, v2] [x, y] _ Q ((RpA.cons (r1.mono g2) (.cons r2 .nil)).mono s2.toWf.sub) p fun w' z hz p' => q H02 H2 w' (.d z) δ' (g1.fz.trans g2) s2 (hz _) p'
/-- X.f = e -/
def putC (n : Str) (c : CV) : List (Str × CV) → List (Str × CV)
  | [] => [(n, c)]
  | (g, x) :: r => if g = n then (g, c) :: r else (g, x) :: putC n c r
theorem CVk.putF {K : PySem.W.Frag} {n : Str} {y : V} {c : CV} (h : CVR K H y c) : ∀ {vs : List (Str × V)} {cs : List (Str × CV)}, CVk K H vs cs → CVk K H (L2.putF n y vs) (putC n c cs)
  | _, _, .nil => .cons h .nil
  | _, _, .cons (k := k) g r => by
    unfold L2.putF VL.putC
    by_cases e : k = n
    · rw [if_pos e, if_pos e]; exact .cons h r
    · rw [if_neg e, if_neg e]; exact .cons g (CVk.putF h r)
@[simp] def dFldV (i : Nat) (A : Addr) (n : Str) (dx : DX) (dv : DV) : DS := fun E δ => dx δ fun δ' c => dv δ' fun c1 => ∃ b u m dx' fs, c1 = .r b ∧ δ'[i]? = some (some (.reg u m)) ∧ m.at b = some (.I A dx' fs) ∧ fs.length < 1000 ∧ E.nx (δ'.set i (some (.reg u (m.put b (.I A dx' (putC n c fs))))))
theorem sms_fldV (i : Nat) {A : Addr} {n : Str} (hc : Cls C.K A) (hn : NoAttr C.K A n) (h : SmX C te dx) (hv : SmV C ta dv) : SmS C (sFld C.K ta te n) (dFldV i A n dx dv) := fun σ δ H0 H E D s w e =>
  h σ δ H0 H _ _ s w fun H01 H1 v c δ1 gr s1 r w1 => hv σ δ1 H01 H1 _ _ s1 w1 fun H02 H2 v1 c1 g2 r2 ⟨b, u, m, dx', fs, e1, e3, e4, e5, p⟩ => by
    subst e1
    have r2 : v1 = .ref b := r2
    subst r2
    have s2 := s1.go g2
    obtain ⟨v', _, hv'⟩ := s2.sl i _ e3
    obtain ⟨_, _, _, o, ho, vs, rfl, hk⟩ := reg_at hv' e4
    exact ⟨b, A, dx', vs, rfl, ho, hc, hn, by rw [hk.length]; exact e5, e.nx H02 _ σ _ (gr.trans g2.fz) (s2.putR (c := .I A dx' (VL.putC n c fs)) i e3 e4 ⟨_, rfl, hk.putF (r.mono g2.fz)⟩) p⟩
/-- slot = A(..) -/
@[simp] def dMake (j : Nat) (A : Addr) (n : Nat) (p : VSpM) (ds : DR) : DS := fun E δ => ds δ fun rs => rs.length + 1 = n ∧ ∀ b dx, p (.ref b) [(b, .I A dx [])] rs fun m' x => x = .none ∧ ((m'.map (·.1)).Nodup → E.nx (δ.set j (some (.reg (.ref b) m'))))
theorem sms_make (j : Nat) {A : Addr} {n : Nat} {p : VSpM} {E0 : XK} (ha : SmQ C tas dqs) : SmS C (tAsg (tMake A (toSpM C.K n p) [] E0 tas) (gName j)) (dMake j A n p dqs) := fun σ δ H0 H E D s w e =>
  ha σ δ H0 H _ _ s w fun H01 H1 us rs g1 r1 ⟨hl, w1⟩ => fun x dx hx hdx ne => by
    show toSpM C.K n p (.ref x :: (us ++ [])) _ _ E0
    rw [List.append_nil]
    have s1 := s.go g1
    have ga := Go.free (o := .own x) s1.toWf hdx
    have hx2 : upd H1 dx (.own x) x = none := by rw [upd_ne (fun z => ne z.symm)]; exact hx
    have gb := Go.free (o := .ins A dx []) ga.wf hx2
    have s2 := (s1.go ga).go gb
    -- a state of one more slot, which holds the new instance
    have hhe := Go.he s1.toWf hx
    have s3 : St C H01 (upd (upd H1 dx (.own x)) x (.ins A dx [])) (σ ++ [some (.ref x)]) (δ ++ [some (.reg (.ref x) [(x, .I A dx [])])]) := by
      refine ⟨s2.toWf, by rw [List.length_append, List.length_append, s2.len]; rfl, fun k r er => ?_, fun k l a c p q nk e1 e2 a1 a2 => ?_⟩
      · by_cases hk : k < δ.length
        · rw [List.getElem?_append_left hk] at er
          obtain ⟨v, h1, h2⟩ := s2.sl k r er
          exact ⟨v, by rw [List.getElem?_append_left (by rw [s2.len]; exact hk)]; exact h1, h2⟩
        · rw [List.getElem?_append_right (by omega)] at er
          cases hz : k - δ.length with
          | zero =>
            rw [hz] at er
            simp at er
            subst er
            refine ⟨.ref x, by rw [List.getElem?_append_right (by rw [s2.len]; omega), s2.len, hz]; rfl, rfl, by simp, fun a c hm => ?_⟩
            cases List.mem_singleton.mp hm
            exact ⟨s1.toWf.none hx, hhe.1, hhe.2, _, upd_same, _, rfl, .nil⟩
          | succ z => rw [hz] at er; simp at er
      · have key : ∀ {k : Nat} {p : R}, (δ ++ [some (R.reg (.ref x) [(x, .I A dx [])])])[k]? = some (some p) → (k < δ.length ∧ δ[k]? = some (some p)) ∨ (k = δ.length ∧ p = .reg (.ref x) [(x, .I A dx [])]) := fun {k p} er => by
          by_cases hk : k < δ.length
          · rw [List.getElem?_append_left hk] at er; exact .inl ⟨hk, er⟩
          · rw [List.getElem?_append_right (by omega)] at er
            cases hz : k - δ.length with
            | zero => rw [hz] at er; simp at er; exact .inr ⟨by omega, er.symm⟩
            | succ z => rw [hz] at er; simp at er
        rcases key e1 with ⟨h1, k1⟩ | ⟨h1, k1⟩ <;> rcases key e2 with ⟨h2, k2⟩ | ⟨h2, k2⟩
        · exact s2.sep k l a c p q nk k1 k2 a1 a2
        · subst k2
          have hc : c = x := by simpa [R.adr] using a2
          subst hc
          intro z
          subst z
          exact s1.fresh hx k1 a1
        · subst k1
          have ha' : a = x := by simpa [R.adr] using a1
          subst ha'
          intro z
          subst z
          exact s1.fresh hx k2 a2
        · exact absurd (h1.trans h2.symm) nk
    have ei : (δ ++ [some (R.reg (.ref x) [(x, .I A dx [])])])[δ.length]? = some (some (.reg (.ref x) [(x, .I A dx [])])) := by rw [List.getElem?_append_right (Nat.le_refl _), Nat.sub_self]; rfl
    obtain ⟨v', e1', hv'⟩ := s3.sl _ _ ei
    obtain ⟨wl, hR⟩ := Wf.lent s3.toWf hv'
    have gab := ga.trans gb
    have rmono : RRas C.K C.ex C.He H01 us rs := r1
    refine ⟨by rw [List.length_cons, r1.length]; exact hl, C.ex, H01, .ref x, [(x, .I A dx [])], us, rs, _, rfl, wl, hR, RRas.lent s3.toWf hv' rmono, w1 x dx, fun H02 H2 v2 m' y g2 h2 ry ⟨ey, p2⟩ => ?_⟩
    subst ey
    cases ry
    refine ⟨rfl, ?_⟩
    obtain ⟨gr, s4⟩ := s3.lend _ ei g2 h2
    have e4 : ((δ ++ [some (R.reg (.ref x) [(x, .I A dx [])])]).set δ.length (some (.reg (.ref x) m'))) = δ ++ [some (.reg (.ref x) m')] := by
      rw [List.set_append_right _ _ (Nat.le_refl _), Nat.sub_self]
      rfl
    rw [e4] at s4
    refine e.nx H02 H2 _ _ (g1.fz.trans gr) ⟨s4.toWf, ?_, fun k r er => ?_, fun k l a c p q nk q1 q2 a1 a2 => ?_⟩ (p2 h2.2.1)
    · rw [List.length_set, List.length_set, s.len]
    · rcases set_at er with ⟨z, rfl⟩ | ⟨z, er⟩
      · subst z
        have hd : j < δ.length := by
          have := (List.getElem?_eq_some_iff.mp er).1
          rwa [List.length_set] at this
        obtain ⟨v3, e3, h3⟩ := s4.sl δ.length (.reg (.ref x) m') (by rw [List.getElem?_append_right (Nat.le_refl _), Nat.sub_self]; rfl)
        have : v3 = .ref x := h3.1
        subst this
        exact ⟨.ref x, by rw [List.getElem?_set_self (by rw [s.len]; exact hd)], h3⟩
      · have hk := (List.getElem?_eq_some_iff.mp er).1
        obtain ⟨v3, e3, h3⟩ := s4.sl k r (by rw [List.getElem?_append_left hk]; exact er)
        exact ⟨v3, by rw [List.getElem?_set_ne z]; rw [List.getElem?_append_left (by rw [s.len]; exact hk)] at e3; exact e3, h3⟩
    · have lst : (δ ++ [some (R.reg (.ref x) m')])[δ.length]? = some (some (.reg (.ref x) m')) := by rw [List.getElem?_append_right (Nat.le_refl _), Nat.sub_self]; rfl
      have up : ∀ {k : Nat} {p : R}, δ[k]? = some (some p) → k < δ.length ∧ (δ ++ [some (R.reg (.ref x) m')])[k]? = some (some p) := fun {k p} er => by
        have hk := (List.getElem?_eq_some_iff.mp er).1
        exact ⟨hk, by rw [List.getElem?_append_left hk]; exact er⟩
      rcases set_at q1 with ⟨z1, y1⟩ | ⟨z1, y1⟩ <;> rcases set_at q2 with ⟨z2, y2⟩ | ⟨z2, y2⟩
      · exact absurd (z1.symm.trans z2) nk
      · subst y1
        obtain ⟨h1, h2⟩ := up y2
        exact s4.sep δ.length l a c _ q (by omega) lst h2 a1 a2
      · subst y2
        obtain ⟨h1, h2⟩ := up y1
        exact s4.sep k δ.length a c p _ (by omega) h2 lst a1 a2
      · exact s4.sep k l a c p q nk (up y1).2 (up y2).2 a1 a2
end
/-! ### slot = [[] for _ in xs]; a walk over a list in a region -/
section
variable {C : Ctx} {H0 H H0' H' : Hp} {σ : L2.St} {δ : Dl} {ta : TE} {dv : DV} {g : TG} {dg : DG} {ti : TI} {di : DI} {ts : TS} {ds : DS}
@[simp] def dSetNs (i : Nat) (di : DI) : DS := fun E δ => di δ fun xs => xs.length < sizeLine ∧ ∀ (a : Addr) (bs : List Addr), (a :: bs).Nodup → bs.length = xs.length → E.nx (δ.set i (some (.reg (.ref a) ((a, .l (bs.map .r)) :: bs.map fun b => (b, .l [])))))
theorem sms_setNs (i j : Nat) (hi : SmI C ti di) : SmS C (tAsg (tLc ti (gName j) tYes (tLst tNil) [j]) (gName i)) (dSetNs i di) := fun σ δ H0 H E D' s w e =>
  hi σ δ H0 H _ _ s w fun H01 H1 J xs g1 wk ⟨hxs, ie⟩ D hD => by
    have hD0 : H D = none := g1.fresh hD
    have nex : C.ex ≠ some D := (Go.he g1.wf hD).2
    refine ⟨fun k m H' => m = xs.length - k ∧ k ≤ xs.length ∧ ∃ H0' bs, Go C H01 H1 H0' H' ∧ H0' D = none ∧ H' D = some (.lst (bs.map V.ref)) ∧ bs.length = k ∧ (D :: bs).Nodup ∧ ∀ b ∈ bs, H1 b = none ∧ H0' b = none ∧ H' b = some (.lst []), ⟨_, rfl, Nat.zero_le _, H01, [], Go.free g1.wf hD, g1.wf.none hD, upd_same, rfl, by simp, fun b hb => (nomatch hb)⟩, ?_⟩
    rintro k m H' ⟨rfl, hk, H0', bs, g2, hn, hl, hbl, nd, hb⟩
    by_cases hlt : k < xs.length
    · refine .inr ⟨wk.go H0' H' k g2.fz g2.wf hlt, fun H3 => ∃ H0' bs, Go C H01 H1 H0' H3 ∧ H0' D = none ∧ H3 D = some (.lst (bs.map V.ref)) ∧ bs.length = k + 1 ∧ (D :: bs).Nodup ∧ ∀ b ∈ bs, H1 b = none ∧ H0' b = none ∧ H3 b = some (.lst []), fun H3 h => ⟨_, by omega, rfl, hlt, h⟩, fun v H'' y => ?_⟩
      obtain ⟨H02, z, g3, hz, rz⟩ := wk.yld H0' H' k v H'' g2.fz g2.wf hlt y
      have g23 := g2.trans g3
      show wipe ((wipe σ [j]).set j (some v)) [j] = wipe σ [j] ∧ _
      refine ⟨by simp [wipe], ?_⟩
      dsimp only [tYes]
      rw [if_pos rfl]
      refine ⟨by show 0 ≤ sizeLine; exact Nat.zero_le _, fun p hp => ?_⟩
      have keep : ∀ {b : Addr} {o : HO}, C.ex ≠ some b → H0' b = none → H' b = some o → H02 b = none ∧ H'' b = some o := fun {b o} n h0 h => by
        have h1 := g3.kp b _ n h
        refine ⟨?_, h1⟩
        cases e : H02 b with
        | none => rfl
        | some u =>
          rcases g3.nw b u e with h2 | h2
          · rw [h0] at h2; cases h2
          · rw [h] at h2; cases h2
      have kD := keep nex hn hl
      have gp := Go.free (o := .lst []) g3.wf hp
      have g4 := g23.trans gp
      have nDp : D ≠ p := fun z => by rw [z, hp] at kD; cases kD.2
      have hDp : (upd H'' p (.lst [])) D = some (.lst (bs.map V.ref)) := by rw [upd_ne nDp]; exact kD.2
      have p1 : H1 p = none := (g23.fresh hp)
      refine ⟨bs.map V.ref, hDp, by rw [List.length_map]; omega, H02, bs ++ [p], ?_, kD.1, by rw [upd_same, List.map_append]; rfl, by rw [List.length_append, hbl]; rfl, ?_, fun b hb' => ?_⟩
      · refine ⟨⟨fun b u e => ?_, fun b u n e => ?_, g4.wf.fz, g4.wf.nw, fun c e => ?_⟩, g4.fz, fun b u n e => ?_, g4.nw⟩
        · rw [upd_ne (fun z => by rw [z, kD.1] at e; cases e)]; exact g4.wf.sub b u e
        · rw [upd_ne (fun z => by rw [z, (Go.he g1.wf hD).1] at e; cases e)]; exact g4.wf.kp b u n e
        · exact (g4.wf.dr c e).keep (Same.refl _) (g4.wf.dr c e).no (upd_ne (fun z => nex (by rw [← z]; exact e)))
        · rw [upd_ne (fun z => by rw [z, hD] at e; cases e)]; exact g4.kp b u n e
      · have nd2 := List.nodup_cons.mp nd
        refine List.nodup_cons.mpr ⟨fun z => ?_, List.nodup_append.mpr ⟨nd2.2, by simp, fun a ha c hc => ?_⟩⟩
        · rcases List.mem_append.mp z with z | z
          · exact nd2.1 z
          · exact nDp (List.mem_singleton.mp z)
        · rw [List.mem_singleton.mp hc]
          intro q
          subst q
          have hba := hb a ha
          have := (keep (Go.he g1.wf hba.1).2 hba.2.1 hba.2.2).2
          rw [hp] at this; cases this
      · rcases List.mem_append.mp hb' with hb' | hb'
        · have hba := hb b hb'
          have k1 := keep (Go.he g1.wf hba.1).2 hba.2.1 hba.2.2
          have n1 : b ≠ D := fun z => (List.nodup_cons.mp nd).1 (z ▸ hb')
          have n2 : b ≠ p := fun z => by rw [z, hp] at k1; cases k1.2
          exact ⟨hba.1, k1.1, by rw [upd_ne n1, upd_ne n2]; exact k1.2⟩
        · rw [List.mem_singleton.mp hb']
          exact ⟨p1, g3.wf.none hp, by rw [upd_ne (fun z => nDp z.symm), upd_same]⟩
    · have hk' : k = xs.length := by omega
      have gg := g1.trans g2
      refine .inl ⟨wk.stop H0' H' k g2.fz g2.wf (by omega), ?_⟩
      have sg := s.go gg
      have fr : ∀ {b : Addr}, H1 b = none → H b = none := fun h => g1.fresh h
      have hhe : ∀ {b : Addr}, H1 b = none → C.He b = none ∧ C.ex ≠ some b := fun h => Go.he g1.wf h
      have nd2 := List.nodup_cons.mp nd
      refine e.nx H0' H' _ _ gg.fz (sg.reset i (v' := .ref D) (r' := .reg (.ref D) ((D, .l (bs.map .r)) :: bs.map fun b => (b, .l []))) ⟨rfl, ?_, fun a c hm => ?_⟩ fun b hb' l q n hl' => ?_) (ie D bs nd (hbl.trans hk'))
      · rw [List.map_cons, List.map_map]
        have : (bs.map ((fun x : Addr × Cell => x.1) ∘ fun b => (b, Cell.l []))) = bs := by
          refine (List.map_congr_left fun b _ => ?_).trans (List.map_id' bs)
          rfl
        rw [this]
        exact nd
      · rcases List.mem_cons.mp hm with hm | hm
        · cases hm
          exact ⟨hn, (hhe hD).1, nex, _, hl, _, rfl, cvs_refs bs⟩
        · obtain ⟨b, hb1, hb2⟩ := List.mem_map.mp hm
          cases hb2
          have hba := hb _ hb1
          exact ⟨hba.2.1, (hhe hba.1).1, (hhe hba.1).2, _, hba.2.2, _, rfl, .nil⟩
      · have hb' : b ∈ ((D, Cell.l (bs.map .r)) :: bs.map fun b => (b, Cell.l [])).map (fun q : Addr × Cell => q.1) := hb'
        rw [List.map_cons, List.map_map] at hb'
        have hfb : H b = none := by
          rcases List.mem_cons.mp hb' with hb' | hb'
          · rw [hb']; exact hD0
          · obtain ⟨b2, hb3, hb4⟩ := List.mem_map.mp hb'
            have : b2 = b := hb4
            subst this
            exact fr (hb b2 hb3).1
        exact s.fresh hfb hl'
/-- for .. in X, X a list in a region that the turns leave -/
def dForV (i : Nat) (dv : DV) (dg : DG) (db : DS) : DS := fun E δ => dv δ fun c => ∃ (b : Addr) (xs : List PyData), c = .r b ∧ (∃ u m, δ[i]? = some (some (.reg u m)) ∧ m.at b = some (.l (xs.map .d))) ∧ ∃ I : Nat → Dl → Prop, I 0 δ ∧
  (∀ k y δ', xs[k]? = some y → I k δ' → (∃ u m, δ'[i]? = some (some (.reg u m)) ∧ m.at b = some (.l (xs.map .d))) ∧ dg y δ' fun δ'' => db { E with nx := I (k + 1), ct := I (k + 1), bk := E.nx } δ'') ∧ ∀ δ', I xs.length δ' → (∃ u m, δ'[i]? = some (some (.reg u m)) ∧ m.at b = some (.l (xs.map .d))) ∧ E.nx δ'
theorem sms_forV (i : Nat) (hv : SmV C ta dv) (hg : SmG C g dg) (hb : SmS C ts ds) : SmS C (tFor (iList C.K ta) g ts) (dForV i dv dg ds) := fun σ δ H0 H E D s w e =>
  hv σ δ H0 H _ _ s w fun H01 H1 v c g1 r1 ⟨b, xs, ec, ⟨u, m, e0, em⟩, I, i0, it, ie⟩ => by
    subst ec
    have r1 : v = .ref b := r1
    subst r1
    have look : ∀ {A B : Hp} {τ : L2.St} {δ' : Dl}, St C A B τ δ' → (∃ u m, δ'[i]? = some (some (.reg u m)) ∧ Sto.at m b = some (.l (xs.map .d))) → ∃ vs, B b = some (.lst vs) ∧ RpA C.K A vs xs := fun {A B τ δ'} s' ⟨u, m, h1, h2⟩ => by
      obtain ⟨v', _, hv'⟩ := s'.sl i _ h1
      obtain ⟨_, _, _, o, ho, vs, rfl, hc⟩ := reg_at hv' h2
      exact ⟨vs, ho, hc.rpa⟩
    obtain ⟨us, h4, h5⟩ := look (s.go g1) ⟨u, m, e0, em⟩
    refine ⟨b, rfl, ⟨us, SqL.of h4⟩, fun k m σ H => m = xs.length - k ∧ k ≤ xs.length ∧ ∃ H0' δ', Same H01 H0' ∧ St C H0' H σ δ' ∧ I k δ', ⟨_, rfl, Nat.zero_le _, H01, δ, Same.refl _, s.go g1, i0⟩, ?_⟩
    rintro k m' σ' H' ⟨rfl, hi, H0', δ', gr, s', p⟩
    by_cases hl : k < xs.length
    · obtain ⟨y, hy⟩ := get_lt hl
      obtain ⟨k1, k2⟩ := it k y δ' hy p
      obtain ⟨ws, f4, f5⟩ := look s' k1
      obtain ⟨u', hu, ru⟩ := f5.get hy
      refine .inr ⟨⟨ws, u', SqL.of f4, hu⟩, fun σ2 H2 => ∃ H0'' δ'', Same H01 H0'' ∧ St C H0'' H2 σ2 δ'' ∧ I (k + 1) δ'', fun σ2 H2 ⟨H02, δ2, h1, h2, h3⟩ => ⟨_, by omega, rfl, hl, H02, δ2, h1, h2, h3⟩, fun v H'' y' => ?_⟩
      obtain ⟨rfl, y'⟩ := y'
      have y' := y' ws (SqL.of f4)
      rw [hu] at y'
      cases y'
      refine hg u' y σ' δ' H0' H'' _ _ s' ru k2 fun σ2 δ2 s2 w2 => ?_
      refine hb σ2 δ2 H0' H'' _ _ s2 w2 ⟨fun H03 H3 σ3 δ3 e3 s3 p3 => ⟨H03, δ3, gr.trans e3, s3, p3⟩, fun H03 H3 v3 r3 e3 w3 x3 p3 => e.rt H03 H3 v3 r3 ((g1.fz.trans gr).trans e3) w3 x3 p3,
        fun H03 H3 σ3 δ3 e3 s3 p3 => e.nx H03 H3 σ3 δ3 ((g1.fz.trans gr).trans e3) s3 p3, fun H03 H3 σ3 δ3 e3 s3 p3 => ⟨H03, δ3, gr.trans e3, s3, p3⟩⟩
    · have hl' : k = xs.length := by omega
      obtain ⟨k1, k2⟩ := ie δ' (hl' ▸ p)
      obtain ⟨ws, f4, f5⟩ := look s' k1
      exact .inl ⟨⟨ws, SqL.of f4, by rw [f5.length]; omega⟩, e.nx H0' H' σ' δ' (g1.fz.trans gr) s' k2⟩
end
/-! ### a region of rows comes to rest -/
section
variable {C : Ctx} {H0 H : Hp} {σ : L2.St} {δ : Dl} {m : Sto} {ts : TS} {ds : DS}
theorem St.settle {a : Addr} {rows : List (Addr × List PyData)} (s : St C H0 H σ δ) (i : Nat) (e : δ[i]? = some (some (.reg (.ref a) m))) (ha : m.at a = some (.l (rows.map fun p => .r p.1))) (hr : ∀ p ∈ rows, m.at p.1 = some (.l (p.2.map .d))) :
    ∃ H0', Same H0 H0' ∧ St C H0' H σ (δ.set i (some (.d (.list (rows.map fun p => .list p.2))))) := by
  obtain ⟨v, e1, hv⟩ := s.sl i _ e
  have ev : v = .ref a := hv.1
  subst ev
  obtain ⟨S, hS⟩ : ∃ S : List Addr, S = a :: rows.map (·.1) := ⟨_, rfl⟩
  have inm : ∀ b ∈ S, b ∈ m.map (·.1) ∧ H0 b = Option.none ∧ C.He b = Option.none ∧ C.ex ≠ some b := fun b hb => by
    have hb : b ∈ m.map (·.1) := by
      rw [hS] at hb
      rcases List.mem_cons.mp hb with rfl | hb
      · exact sat_dom ha
      · obtain ⟨p, hp, rfl⟩ := List.mem_map.mp hb
        exact sat_dom (hr p hp)
    have := hv.adr hb
    exact ⟨hb, this.1, this.2.1, this.2.2⟩
  obtain ⟨F, hF⟩ : ∃ F : Hp, F = fun b => if b ∈ S then H b else H0 b := ⟨_, rfl⟩
  have fin : ∀ {b : Addr}, b ∈ S → F b = H b := fun {b} h => by rw [hF]; exact if_pos h
  have fout : ∀ {b : Addr}, b ∉ S → F b = H0 b := fun {b} h => by rw [hF]; exact if_neg h
  have gr : Same H0 F := fun b o q => by
    rw [fout (fun z => by rw [(inm b z).2.1] at q; cases q)]; exact q
  refine ⟨F, gr, ⟨fun b o q => ?_, s.kp, s.fz.trans gr, fun b o q => ?_, fun p q => ?_⟩, by rw [List.length_set, s.len], fun j p q => ?_, fun j k b c p q n q1 q2 a1 a2 => ?_⟩
  · by_cases hb : b ∈ S
    · rw [fin hb] at q; exact q
    · rw [fout hb] at q; exact s.sub b o q
  · by_cases hb : b ∈ S
    · exact .inr (inm b hb).2.2.1
    · rw [fout hb] at q; exact s.nw b o q
  · exact (s.dr p q).keep gr (by rw [fout (fun z => (inm p z).2.2.2 q)]; exact (s.dr p q).no) rfl
  · rcases set_at q with ⟨z, rfl⟩ | ⟨z, q⟩
    · subst z
      refine ⟨_, e1, ?_⟩
      obtain ⟨_, _, _, o, ho, vs, rfl, hc⟩ := reg_at hv ha
      have hc2 : CVs C.K H0 vs ((rows.map (·.1)).map CV.r) := by rw [List.map_map]; exact hc
      show Rp C.K F (.ref a) _
      refine .lst (by rw [fin (by rw [hS]; exact List.mem_cons_self ..)]; exact ho) ?_
      rw [cvs_ref_eq hc2]
      have one : ∀ p ∈ rows, Rp C.K F (.ref p.1) (.list p.2) := fun p hp => by
        obtain ⟨_, _, _, o, ho, vs, rfl, hc⟩ := reg_at hv (hr p hp)
        exact .lst (by rw [fin (by rw [hS]; exact List.mem_cons_of_mem _ (List.mem_map.mpr ⟨p, hp, rfl⟩))]; exact ho) (hc.rpa.mono gr)
      clear hc hc2 ho ha hr inm hS q
      induction rows with
      | nil => exact .nil
      | cons p rows ih => exact .cons (one p (List.mem_cons_self ..)) (ih fun q hq => one q (List.mem_cons_of_mem _ hq))
    · obtain ⟨u, f1, f2⟩ := s.sl j p q
      refine ⟨u, f1, f2.move gr fun b hb => ⟨?_, fun _ h => h⟩⟩
      have nb : b ∉ S := fun zb => s.sep j i b b p _ (fun z' => z z'.symm) q e hb (inm b zb).1 rfl
      rw [fout nb]
      exact (f2.adr hb).1
  · rcases set_at q1 with ⟨_, rfl⟩ | ⟨_, q1⟩
    · cases a1
    rcases set_at q2 with ⟨_, rfl⟩ | ⟨_, q2⟩
    · cases a2
    exact s.sep j k b c p q n q1 q2 a1 a2
/-- from here on the rows in the slot stand -/
@[simp] def dSettle (i : Nat) (d : DS) : DS := fun E δ => ∃ (a : Addr) (m : Sto) (rows : List (Addr × List PyData)), δ[i]? = some (some (.reg (.ref a) m)) ∧ m.at a = some (.l (rows.map fun p : Addr × List PyData => .r p.1)) ∧ (∀ p ∈ rows, m.at p.1 = some (.l (p.2.map .d))) ∧ d E (δ.set i (some (.d (.list (rows.map fun p => .list p.2)))))
theorem sms_settle (i : Nat) (h : SmS C ts ds) : SmS C ts (dSettle i ds) := fun σ δ H0 H E D s ⟨a, m, rows, h1, h2, h3, w⟩ e => by
  obtain ⟨H0', g, s'⟩ := s.settle i h1 h2 h3
  exact h σ _ H0' H E D s' w (e.mono g)
end
/-! ### range(i, j, c) -/
section
variable {C : Ctx} {H0 : Hp} {ta tb tc : TE} {da db dc : DE} {f1 f2 f3 : Bool}
def rng3 (lo c : Int) (n : Nat) : List PyData := (List.range n).map fun (k : Nat) => PyData.int (lo + (k : Int) * c)
theorem rng3_get {lo c : Int} {n i : Nat} {y : PyData} (h : (rng3 lo c n)[i]? = some y) : i < n ∧ y = .int (lo + (i : Int) * c) := by
  unfold rng3 at h
  rw [List.getElem?_map] at h
  cases q : (List.range n)[i]? with
  | none => rw [q] at h; simp at h
  | some k =>
    rw [q] at h
    obtain ⟨a, b⟩ := List.getElem?_eq_some_iff.mp q
    simp at a b h
    subst b
    exact ⟨a, h.symm⟩
theorem rng3_at {lo c : Int} {n i : Nat} (h : i < n) : (rng3 lo c n)[i]? = some (.int (lo + (i : Int) * c)) := by
  unfold rng3
  rw [List.getElem?_map, List.getElem?_range h]
  rfl
theorem rng3_len (lo c : Int) (n : Nat) : (rng3 lo c n).length = n := by simp [rng3]
theorem wk_rng3 (lo c : Int) (n : Nat) : Wk C (Itc lo c n) H0 (rng3 lo c n) := by
  refine ⟨fun H0' H' i e w hi => ?_, fun H0' H' i e w hi => ?_, fun H0' H' i v H'' e w hi y => ?_⟩
  · rw [rng3_len] at hi; first | exact hi | exact Nat.le_of_eq hi
  · rw [rng3_len] at hi; first | exact hi | exact Nat.le_of_eq hi
  · rw [rng3_len] at hi
    obtain ⟨rfl, rfl⟩ := y
    exact ⟨H0', _, .refl w, rng3_at hi, .int _⟩
@[simp] def iR3 (da db dc : DE) : DI := fun δ Φ => da δ fun x => db δ fun y => dc δ fun z => ∃ i j c n, x = .int i ∧ y = .int j ∧ z = .int c ∧ RgC i j c n ∧ Φ (rng3 i c n)
theorem smi_rng3 (ha : Sm C f1 ta da) (hb : Sm C f2 tb db) (hc : Sm C f3 tc dc) : SmI C (iRng3 (tCons ta (tCons tb (tCons tc tNil)))) (iR3 da db dc) := fun σ δ H0 H Φ R s w q =>
  ha σ δ H0 H _ _ s w fun H01 H1 v x g1 r1 w1 => hb σ δ H01 H1 _ _ (s.go g1) w1 fun H02 H2 u y g2 r2 w2 => hc σ δ H02 H2 _ _ ((s.go g1).go g2) w2 fun H03 H3 t z g3 r3 ⟨i, j, c, n, e1, e2, e3, h, p⟩ => by
    subst e1 e2 e3
    cases r1
    cases r2
    cases r3
    exact ⟨i, j, c, n, rfl, h, q _ _ _ _ ((g1.trans g2).trans g3) (wk_rng3 _ _ _) p⟩
end
end VL

/-! sorted of a dict of numbers; the place of a number in a list. -/
namespace VL
open PySem PySem.Spec PyProof.Rows L2 Srt
theorem ints_atK : ∀ {us : List Value} {ks : List Int}, us.length = ks.length → (∀ (j : Nat) (v : Value), us[j]? = some v → ∃ (x : Int) (t : Tok), ks[j]? = some x ∧ v = Value.int x t) → IntsAre us ks
  | [], [], _, _ => .nil
  | u :: us, k :: ks, hl, h => by
    obtain ⟨x, t, e1, e2⟩ := h 0 u rfl
    have e1' : k = x := Option.some.inj e1
    subst e1'
    subst e2
    refine .cons _ _ (ints_atK (by simpa using hl) fun j v e => ?_)
    obtain ⟨x, t, a, b⟩ := h (j + 1) v (by simpa using e)
    exact ⟨x, t, by simpa using a, b⟩
  | [], _ :: _, hl, _ => by simp at hl
  | _ :: _, [], hl, _ => by simp at hl
def rSortedDI : List V → Hp → VK → Prop := fun xs H Q => ∃ (a : Addr) (kvs : List (Key × V)) (ks : List Int), xs = [.ref a] ∧ Rd H a (.dK kvs) ∧ kvs.map (·.1) = ks.map Sum.inl ∧ ks.length ≤ 100000 ∧
    ∀ (ns : List Int) (p : Addr), ns.Perm ks → ns.Pairwise (· ≤ ·) → H p = none → Q (.ref p) (upd H p (.lst (ns.map V.int)))
theorem vcall_sortedDI {X : Cx} (hcalm : X.calm = true) : CallR X (.builtin "sorted") rSortedDI := by
  intro pins s σ H xs us Q I r q
  obtain ⟨a, kvs, ks, ex, hd, hks, h64, q⟩ := q
  subst ex
  obtain ⟨u, eu, rx⟩ := vals1 r
  subst eu
  cases rx
  obtain ⟨z, lo, vs, rel, dd⟩ := dk_rd I.hok hd
  obtain ⟨ep, hat⟩ := dd.dictAt
  have hkeys : vs.map (·.1) = ks.map Sum.inl := rel.keys.symm.trans hks
  have hl : vs.length = ks.length := by
    have e := congrArg List.length hkeys
    rw [List.length_map, List.length_map] at e
    exact e
  have h16 : vs.length ≤ sizeLine := by rw [hl, sizeLine_eq]; omega
  refine Calls.call_function_entry PyProof.Rows.kind_sorted PyProof.Rows.plain_sorted PyProof.Rows.entry_sorted (PyProof.Rows.args_sorted1 _) ?_
  unfold Builtin.«sorted»
  refine wpAny_bind (m := checkCount "sorted" 1 1 _) (wpAny_pure ?_)
  refine wpAny_bind (PySem.W.kdu_collect (A := X.A.in1) (PySem.W.kdl_dict (knd := mixKind X.prog X.w) (kvs := vs) (ep := ep) lo) (I.ok.hd hcalm) hat h16 fun h' tk acc hk hacc => ?_)
  have hal : acc.toList.length = ks.length := by rw [Array.length_toList, hacc.1, hl]
  have hS : IntsAre acc.toList ks := ints_atK hal fun j v e => by
    obtain ⟨k, x, e1, e2⟩ := hacc.2 j v (by rw [← Array.getElem?_toList]; exact e)
    have e3 : (vs.map (·.1))[j]? = some k := by rw [List.getElem?_map, e1]; all_goals rfl
    rw [hkeys, List.getElem?_map] at e3
    cases e4 : ks[j]? with
    | none => rw [e4] at e3; cases e3
    | some y =>
      rw [e4] at e3
      have e5 : Sum.inl y = k := Option.some.inj e3
      subst e5
      have e2 : keyIs (Sum.inl y) v = true := e2
      rcases keyIs_shape e2 with ⟨i, t, ek, ev⟩ | ⟨z, t, ek, ev⟩
      · cases ek
        exact ⟨y, t, rfl, ev⟩
      · cases ek
  have I1 : Inv X pins σ H { s with heap := h', toks := tk } := I.kept hk
  have hle : acc.toList.length ≤ sizeLine := by rw [hal, sizeLine_eq]; omega
  refine wpAny_bind (wpAny_newList ?_ hle)
  have hoL : (h'.push (seqObj "list" acc.toList.toArray 0)).get? h'.objs.size = some (seqObj "list" acc.toList.toArray 0) := Heap.get?_push_size _ rfl
  show wpAny _ _ _ _ _ { s with heap := h'.push (seqObj "list" acc.toList.toArray 0), toks := tk }
  refine wpAny_bind (wpAny_holding (wpAny_call_entry PyProof.Rows.slot_list_sort ⟨_, hoL, rfl⟩ PyProof.Rows.entry_list_sort
    (SrtO.list_sort_ord (s := { s with heap := h'.push (seqObj "list" acc.toList.toArray 0), toks := tk }) SrtO.swo_int hoL hle (fun h2 => SrtO.ints_sortable hS h2) fun out h1 h2 => ⟨_, rfl, ?_⟩)
    (PyProof.Rows.args_list_sort _)))
  obtain ⟨k1, k2, k3⟩ := SrtO.ints_out hS h1 h2
  obtain ⟨e', he'⟩ := PyProof.Rows.sortedHeap_at (vs := acc.toList) (out := out.toArray) hoL
  have hlen : ((out.map SrtO.iv).map V.int).length ≤ sizeLine := by
    rw [List.length_map, k2.length_eq, sizeLine_eq]; omega
  refine wpAny_pure ⟨_, rfl, .ref h'.objs.size, upd H h'.objs.size (.lst ((out.map SrtO.iv).map V.int)), I1.laid (t' := tk) (fun b u e => ?_) (Nat.le_refl _)
    (show ObjOk X.prog X.w _ _ _ (.lst ((out.map SrtO.iv).map V.int)) from ⟨hlen, out, e', vals_of_ints k1, he'⟩), rfl, q _ _ k2 k3 (I1.hok.fresh (Nat.le_refl _))⟩
  have hb : b < h'.objs.size := Heap.lt_size e
  rw [PyProof.Rows.sortedHeap_old (Nat.ne_of_lt hb) (by rw [size_push']; exact Nat.lt_succ_of_lt hb)]
  exact Heap.get?_push_of_some _ e
section
variable {C : Ctx} {ta tb : TE} {da db dd : DE} {f f2 : Bool}
@[simp] def oSortedD (dd : DE) : DO := fun δ Φ => dd δ fun x => ∃ (es : List (Key × PyData)) (ks : List Int), x = .dict (entD es) ∧ es.map (·.1) = ks.map Sum.inl ∧ ks.length ≤ 100000 ∧ ∀ ms : List Int, ms.Perm ks → ms.Pairwise (· ≤ ·) → Φ (ms.map PyData.int)
theorem RpK.keys {K : PySem.W.Frag} {H : Hp} : ∀ {vs : List (Key × V)} {es : List (Key × PyData)}, RpK K H vs es → vs.map (·.1) = es.map (·.1)
  | _, _, .nil => rfl
  | _, _, .cons _ r => by rw [List.map_cons, List.map_cons, RpK.keys r]
theorem smo_sortedD (hd : Sm C f ta dd) : SmO C (tCB rSortedDI (tCons ta tNil)) (oSortedD dd) := fun σ δ H0 H Φ Q s w q =>
  hd σ δ H0 H _ _ s w fun H01 H1 v x g1 r1 ⟨es, ks, e, ek, hl, p⟩ => by
    subst e
    obtain ⟨a, kvs, rfl, h1, h2⟩ := dic_rd r1
    exact ⟨a, kvs, ks, rfl, rd_same g1.wf.loc h1, by rw [h2.keys]; exact ek, hl, fun ms l hp hs hl => q _ _ l _ _ (g1.trans (Go.free (o := .lst _) g1.wf hl)) (g1.fresh hl) (g1.wf.none hl) upd_same (rpa_nums ms) (p ms hp hs)⟩
/-- the first place of a number -/
@[simp] def dIndex (da db : DE) : DE := fun δ Φ => da δ fun x => ∃ ns : List Int, x = .list (ns.map PyData.int) ∧ db δ fun y => ∃ (v : Int) (j : Nat), y = .int v ∧ ns[j]? = some v ∧ (∀ i, i < j → ns[i]? ≠ some v) ∧ Φ (.int j)
theorem eqV_int (i j : Int) : eqV (.int i) (.int j) = decide (i = j) := by rw [Bool.eq_iff_iff]; simp [eqV]
theorem sm_index {f1 : Bool} (ha : Sm C f1 ta da) (hb : Sm C f2 tb db) : Sm C f (tBM C.K "list" (L2.rIndex C.K) ta (tCons tb tNil)) (dIndex da db) := fun σ δ H0 H Φ Q s w q =>
  ha σ δ H0 H _ _ s w fun H01 H1 v x g1 r1 w1 => by
    obtain ⟨ns, e, w1⟩ := w1
    subst e
    have r2 : Rp C.K H1 v (.list (ns.map PyData.int)) := Rp.mono g1.wf.loc r1
    cases r2 with
    | @lst a vs _ h r =>
      have e := r.ints
      subst e
      refine ⟨.inl ⟨rfl, _, SqL.of h⟩, hb σ δ H01 H1 _ _ (s.go g1) w1 fun H02 H2 u y g2 r2 ⟨n, j, ey, hj, hno, p⟩ => ?_⟩
      subst ey
      cases r2
      have r3 : Rp C.K (loc C f1 H02 H2) (.ref a) (.list (ns.map PyData.int)) := r1.mono g2.loc
      cases r3 with
      | @lst _ vs2 _ h2 r3 =>
        have e := r3.ints
        subst e
        refine ⟨a, ns.map V.int, .int n, j, .int n, rfl, rfl, SqL.of (g2.wf.loc _ _ h2), rfl, ?_, by rw [List.getElem?_map, hj]; rfl, by rw [eqV_int]; simp, fun m z' hm hz => ?_, q H02 H2 _ _ (g1.trans g2) (.int _) p⟩
        · rw [List.all_map]
          exact List.all_eq_true.mpr fun i _ => rfl
        · rw [List.getElem?_map] at hz
          obtain ⟨i, hi, rfl⟩ := Option.map_eq_some_iff.mp hz
          rw [eqV_int]
          exact decide_eq_false fun z => hno m hm (by rw [hi, z])
end
/-- list.index, its data said -/
theorem kx_index {X : Cx} {K : PySem.W.Frag} (h : X.K = K) : MtR X "list.index" (L2.rIndex K) := by subst h; exact L2.mt_index
theorem pe_idx {X : Cx} {K : PySem.W.Frag} (h : X.K = K) {o e : Expr} {es : List Expr} {apos cpos : Pos} {to : TE} {t : TA} (ho : PE X o to) (ha : PA X (e :: es) t)
    (hbase : attributeBase o "index" X.env (eval o X.env) = eval o X.env := by rfl)
    (hfew : ((backTo cpos (starEach (e :: es) X.env)).all (fun x => !x.1) && (backToKw cpos (keywordEach [] X.env)).all (fun x => x.1.isSome)
      && decide ((e :: es).length + ([] : List Keyword).length + (if ([] : List Keyword).isEmpty then 0 else 1) < 30)) = true := by rfl)
    (hline : (apos.endLine == cpos.line) = true := by rfl) (hs : starEach (e :: es) X.env = (false, eval e X.env) :: starEach es X.env := by rfl) (hplain : (backTo cpos (starEach es X.env)).any (·.1) = false := by rfl) :
    PE X (.Call (.Attribute o "index" apos) (e :: es) [] cpos) (tBM K "list" (L2.rIndex K) to t) := by
  subst h
  exact pe_bm PySem.F.plainAttrs_list PySem.F.slot_list_index PySem.F.type_list_index L2.mt_index ho ha hbase hfew hline hs hplain
end VL

/-! sorted of rows (a number first, all of them different). -/
namespace VL
open PySem PySem.Spec PyProof.Rows L2 Srt
/-- a tuple of two, a number first -/
def IsRowV (h : Heap) (v : Value) (i : Int) : Prop := ∃ (a : Addr) (o : Obj) (xs : Array Value) (t : Tok) (y : Value) (n : Nat), v = .ref a ∧ h.get? a = some o ∧ o.cls = .type "tuple" ∧ o.data = .seq xs n ∧ xs.toList = [.int i t, y]
section
variable {prog : Program} {w : World} {A : Around} {E : Value → Shared → Prop} {s : Shared}
theorem row_firsts {h : Heap} {k : Value → Int} : ∀ {vs : List Value}, (∀ v ∈ vs, IsRowV h v (k v)) → ∃ fs, PySem.W.KatTups h vs fs ∧ fs.length = vs.length ∧ ∀ f ∈ fs, ∃ x t, f = Value.int x t
  | [], _ => ⟨[], .nil, rfl, fun f hf => (nomatch hf)⟩
  | v :: vs, hp => by
    obtain ⟨fs, h1, h2, h3⟩ := row_firsts (vs := vs) fun u hu => hp u (List.mem_cons_of_mem _ hu)
    obtain ⟨a, o, xs, t, y, n, e, ho, hc, hd, hx⟩ := hp v (List.mem_cons_self ..)
    subst e
    refine ⟨.int (k (.ref a)) t :: fs, .cons ho hc hd ?_ h1, by simp [h2], fun f hf => ?_⟩
    · rw [← Array.getElem?_toList, hx]; rfl
    · rcases List.mem_cons.mp hf with rfl | hf
      · exact ⟨_, _, rfl⟩
      · exact h3 f hf
theorem swo_row (k : Value → Int) : SrtO.Swo fun v u => decide (k v < k u) := by
  refine ⟨fun x y h => ?_, fun x y z h1 h2 => ?_⟩
  · have a := of_decide_eq_true h
    exact decide_eq_false (by omega)
  · have a := of_decide_eq_false h1
    have b := of_decide_eq_false h2
    exact decide_eq_false (by omega)
theorem row_cmp {vs : List Value} {k : Value → Int} (hp : ∀ v ∈ vs, IsRowV s.heap v (k v)) (inj : ∀ v ∈ vs, ∀ u ∈ vs, k v = k u → v = u) : SrtO.Cmp prog w A s (tuples' true) (fun p => p.1 ∈ vs) (SrtO.lt2 fun v u => decide (k v < k u)) := by
  intro p q hm hm'
  have h1 := hp _ hm
  have h2 := hp _ hm'
  have hi := inj _ hm _ hm'
  show wpAny (model prog w) A (keyLt' (tuples' true) p.1 q.1) (fun r s' => s' = s ∧ r = decide (k p.1 < k q.1)) (fun _ _ => False) s
  generalize k p.1 = x at h1 hi ⊢
  generalize k q.1 = x' at h2 hi ⊢
  obtain ⟨a, o, xs, t, y, n, e, ho, hc, hd, hx⟩ := h1
  obtain ⟨a', o', xs', t', y', n', e', ho', hc', hd', hx'⟩ := h2
  rw [e, e'] at hi
  rw [e, e']
  refine PySem.W.kat_lt ho hd ho' hd' ?_
  have sz : decide (xs.size < xs'.size) = false := by
    have l1 := congrArg List.length hx
    have l2 := congrArg List.length hx'
    rw [Array.length_toList] at l1 l2
    exact decide_eq_false (by simp at l1 l2; omega)
  rw [hx, hx', sz]
  refine PySem.W.kat_cons (SeqAt.EqAt.int_int x t x' t' prog w _ _ ?_)
  refine PySem.W.kat_go (fun e1 => ?_) (fun e1 => ?_)
  · have ex : x = x' := by simpa using e1
    have ea := hi ex
    cases ea
    rw [ho] at ho'
    cases ho'
    rw [hd] at hd'
    cases hd'
    rw [hx] at hx'
    cases hx'
    refine PySem.W.kat_yes (PySem.W.kat_cons (SeqAt.EqAt.same _ prog w _ _ ?_))
    exact PySem.W.kat_yes (PySem.W.kat_nil ⟨rfl, (decide_eq_false (by omega)).symm⟩)
  · exact PySem.W.kat_no (oneLt_int ⟨rfl, rfl⟩)
theorem rows_sortableO {a : Addr} {vs : List Value} {k : Value → Int} (h0 : 0 < vs.length) (hp : ∀ v ∈ vs, IsRowV s.heap v (k v)) (inj : ∀ v ∈ vs, ∀ u ∈ vs, k v = k u → v = u) (ha : ∀ o, s.heap.get? a = some o → o.cls ≠ .type "tuple") : SrtO.SortableO prog w A s a vs fun v u => decide (k v < k u) := by
  intro h' keep
  have hp' : ∀ v ∈ vs, IsRowV h' v (k v) := fun v hm => by
    obtain ⟨b, o, xs, t, y, n, e, ho, hc, hd, hx⟩ := hp v hm
    exact ⟨b, o, xs, t, y, n, e, keep b o (fun z => by subst z; exact ha o ho hc) ho, hc, hd, hx⟩
  obtain ⟨fs, h1, h2, h3⟩ := row_firsts hp'
  refine ⟨tuples' true, fun Q E hq => ?_, row_cmp (s := { s with heap := h' }) hp' inj⟩
  refine PySem.W.kat_kind (T := .type "int") h1 (by omega) (fun f hm => ?_) (by rfl) ?_
  · obtain ⟨x, t, rfl⟩ := h3 f hm
    exact PySem.W.Looks.now
  · have e : (Value.type "int" != Value.type "tuple") = true := by first | decide +kernel | rfl | decide
    rw [e]
    exact hq
end
/-- sorted(rows): a new list of the rows, by their numbers -/
def rSortedR (K : PySem.W.Frag) : List V → Hp → VK → Prop := fun vs H Q => ∃ (a : Addr) (rows : List (Addr × Int)), vs = [.ref a] ∧ (SqL K H a (rows.map fun r => .ref r.1) ∨ SqT K H a (rows.map fun r => .ref r.1)) ∧ (rows.map (·.2)).Nodup ∧ (∀ r ∈ rows, ∃ y, SqT K H r.1 [.int r.2, y]) ∧
  ∀ (ys : List (Addr × Int)) (p : Addr), ys.Perm rows → ys.Pairwise (fun r q => r.2 ≤ q.2) → H p = none → Q (.ref p) (upd H p (.lst (ys.map fun r => .ref r.1)))
theorem cr_sortedR {X : Cx} : CallR X (.builtin "sorted") (rSortedR X.K) := by
  intro pins s σ H xs us Q I r h
  obtain ⟨a, rows, rfl, hs, hnd, hrow, q⟩ := h
  rw [Vals.ref1 r]
  have seq : ∃ (T : String) (its : List Value) (o : Obj) (n : Nat), (T = "list" ∨ T = "tuple") ∧ Vals (rows.map fun r => V.ref r.1) its ∧ s.heap.get? a = some o ∧ o.cls = .type T ∧ o.data = .seq its.toArray n ∧ (rows.map fun r => V.ref r.1).length ≤ sizeLine := by
    rcases hs with hs | hs
    · obtain ⟨its, rv, hl, hz⟩ := I.list hs
      obtain ⟨o, ho, hc, n, hd⟩ := hl.isList
      exact ⟨"list", its, o, n, .inl rfl, rv, ho, hc, hd, hz⟩
    · obtain ⟨its, rv, hl, hz⟩ := I.tuple hs
      obtain ⟨o, ho, hc, n, hd⟩ := hl
      exact ⟨"tuple", its, o, n, .inr rfl, rv, ho, hc, hd, hz⟩
  obtain ⟨T, its, o, n, hT, rv, ho, hc, hd, hz⟩ := seq
  have hil : its.length ≤ sizeLine := by rw [← rv.length]; exact hz
  have hits : its = rows.map fun r => Value.ref r.1 := by
    clear hd ho hc hs hrow hnd q hz hil
    induction rows generalizing its with
    | nil => cases rv; rfl
    | cons r rows ih =>
      cases rv with
      | cons h t =>
        cases h
        rw [List.map_cons, ih _ t]
  subst hits
  obtain ⟨k, hk⟩ : ∃ k : Value → Int, ∀ v, k v = match v with
    | .ref a => ((rows.find? fun r => decide (r.1 = a)).map (·.2)).getD 0
    | _ => 0 := ⟨_, fun _ => rfl⟩
  have hkr : ∀ r ∈ rows, k (.ref r.1) = r.2 := fun r hr => by
    rw [hk]
    have : ∃ q, rows.find? (fun q => decide (q.1 = r.1)) = some q := by
      cases e : rows.find? fun q => decide (q.1 = r.1) with
      | none => exact absurd (List.find?_eq_none.mp e r hr) (by simp)
      | some q => exact ⟨q, rfl⟩
    obtain ⟨q, e⟩ := this
    simp only [e, Option.map_some, Option.getD_some]
    have e1 : q.1 = r.1 := by simpa using List.find?_some e
    obtain ⟨y, hy⟩ := hrow q (List.mem_of_find?_eq_some e)
    obtain ⟨y', hy'⟩ := hrow r hr
    rw [e1] at hy
    have := I.tuple_inj hy hy'
    injection this with h1 _
    injection h1
  have hinj : ∀ r ∈ rows, ∀ q ∈ rows, r.2 = q.2 → r = q := fun r hr q hq e => by
    obtain ⟨i, hi⟩ := List.getElem?_of_mem hr
    obtain ⟨j, hj⟩ := List.getElem?_of_mem hq
    obtain ⟨i1, i2⟩ := List.getElem?_eq_some_iff.mp hi
    obtain ⟨j1, j2⟩ := List.getElem?_eq_some_iff.mp hj
    have : i = j := (List.getElem_inj (h₀ := by simpa using i1) (h₁ := by simpa using j1) hnd).mp (by rw [List.getElem_map, List.getElem_map, i2, j2]; exact e)
    subst this
    rw [hi] at hj
    exact Option.some.inj hj
  have hp0 : ∀ v ∈ rows.map (fun r => Value.ref r.1), IsRowV s.heap v (k v) := fun v hv => by
    obtain ⟨r, hr, rfl⟩ := List.mem_map.mp hv
    obtain ⟨y, hy⟩ := hrow r hr
    obtain ⟨its2, rv2, hl2, hz2⟩ := I.tuple hy
    obtain ⟨o2, ho2, hc2, n2, hd2⟩ := hl2
    obtain ⟨u1, u2, rfl, r1, r2⟩ := vals2 rv2
    obtain ⟨tk, rfl⟩ := r1
    rw [hkr r hr]
    exact ⟨r.1, o2, _, tk, u2, n2, rfl, ho2, hc2, hd2, rfl⟩
  have hin : ∀ v ∈ rows.map (fun r => Value.ref r.1), ∀ u ∈ rows.map (fun r => Value.ref r.1), k v = k u → v = u := fun v hv u hu e => by
    obtain ⟨r, hr, rfl⟩ := List.mem_map.mp hv
    obtain ⟨q, hq, rfl⟩ := List.mem_map.mp hu
    rw [hkr r hr, hkr q hq] at e
    rw [hinj r hr q hq e]
  refine Calls.call_function_entry PyProof.Rows.kind_sorted PyProof.Rows.plain_sorted PyProof.Rows.entry_sorted (PyProof.Rows.args_sorted1 _) ?_
  unfold Builtin.«sorted»
  refine wpAny_bind (m := checkCount "sorted" 1 1 _) (wpAny_pure ?_)
  refine wpAny_bind (wpAny_collect_seq a hT ho hc hd (fun h' hkeep => ?_) (by simpa using hil))
  rw [List.toList_toArray]
  have I1 : Inv X pins σ H { s with heap := h' } := I.kept (t' := s.toks) hkeep
  refine wpAny_bind (wpAny_newList ?_ hil)
  have hoL : (h'.push (seqObj "list" (rows.map fun r => Value.ref r.1).toArray 0)).get? h'.objs.size = some (seqObj "list" (rows.map fun r => Value.ref r.1).toArray 0) := Heap.get?_push_size _ rfl
  show wpAny _ _ _ _ _ { s with heap := h'.push (seqObj "list" (rows.map fun r => Value.ref r.1).toArray 0) }
  refine wpAny_bind (wpAny_holding (wpAny_call_entry PyProof.Rows.slot_list_sort ⟨_, hoL, rfl⟩ PyProof.Rows.entry_list_sort
    (SrtO.list_sort_ord (s := { s with heap := h'.push (seqObj "list" (rows.map fun r => Value.ref r.1).toArray 0) }) (swo_row k) hoL hil (fun h2 => rows_sortableO (by omega) (fun v hv => ?_) hin fun o e => ?_) fun out h1 h2 => ⟨_, rfl, ?_⟩)
    (PyProof.Rows.args_list_sort _)))
  · obtain ⟨b, o2, xs, tk, y, n2, e, ho2, hc2, hd2, hx2⟩ := hp0 v hv
    exact ⟨b, o2, xs, tk, y, n2, e, Heap.get?_push_of_some _ (hkeep b o2 ho2), hc2, hd2, hx2⟩
  · have e : (h'.push (seqObj "list" (rows.map fun r => Value.ref r.1).toArray 0)).get? h'.objs.size = some o := e
    rw [hoL] at e
    cases e
    intro c
    exact absurd (Value.type.inj c) (by decide)
  · obtain ⟨e', he'⟩ := PyProof.Rows.sortedHeap_at (vs := rows.map fun r => Value.ref r.1) (out := out.toArray) hoL
    obtain ⟨bk, hbk⟩ : ∃ bk : Value → Addr × Int, ∀ v, bk v = match v with
      | .ref a => (a, k (.ref a))
      | _ => (0, 0) := ⟨_, fun _ => rfl⟩
    have hbr : ∀ r ∈ rows, bk (.ref r.1) = r := fun r hr => by rw [hbk]; simp only; rw [hkr r hr]
    have hout : ∀ v ∈ out, ∃ r ∈ rows, v = .ref r.1 := fun v hv => by
      obtain ⟨r, hr, e⟩ := List.mem_map.mp (h2.perm.mem_iff.mp hv)
      exact ⟨r, hr, e.symm⟩
    have hperm : (out.map bk).Perm rows := by
      have := h2.perm.map bk
      rw [List.map_map] at this
      have e : rows.map (bk ∘ fun r => Value.ref r.1) = rows := by
        refine (List.map_congr_left fun r hr => hbr r hr).trans (List.map_id' rows)
      rw [e] at this
      exact this
    have hback : out.map (fun v => V.ref (bk v).1) = (out.map bk).map fun r => V.ref r.1 := by rw [List.map_map]; rfl
    have hvals : Vals ((out.map bk).map fun r => V.ref r.1) out := by
      rw [← hback]
      clear h1 h2 e' he' hperm hback
      induction out with
      | nil => exact .nil
      | cons v out ih =>
        obtain ⟨r, hr, rfl⟩ := hout v (List.mem_cons_self ..)
        rw [List.map_cons, hbr r hr]
        exact .cons rfl (ih fun u hu => hout u (List.mem_cons_of_mem _ hu))
    have hsrt : (out.map bk).Pairwise fun r q => r.2 ≤ q.2 := by
      refine List.pairwise_map.mpr (List.Pairwise.imp_of_mem ?_ h1)
      intro v u hv hu hle
      obtain ⟨r, hr, rfl⟩ := hout v hv
      obtain ⟨q, hq, rfl⟩ := hout u hu
      rw [hbr r hr, hbr q hq]
      have hle := of_decide_eq_false hle
      rw [hkr r hr, hkr q hq] at hle
      omega
    have hlen : ((out.map bk).map fun r => V.ref r.1).length ≤ sizeLine := by
      rw [List.length_map, hperm.length_eq]
      rw [List.length_map] at hil
      exact hil
    refine wpAny_pure ⟨_, rfl, .ref h'.objs.size, upd H h'.objs.size (.lst ((out.map bk).map fun r => V.ref r.1)), I1.laid (t' := s.toks) (fun b u e => ?_) (Nat.le_refl _)
      (show ObjOk X.prog X.w _ _ _ (.lst ((out.map bk).map fun r => V.ref r.1)) from ⟨hlen, out, e', hvals, he'⟩), rfl, q _ _ hperm hsrt (I1.hok.fresh (Nat.le_refl _))⟩
    have hb : b < h'.objs.size := Heap.lt_size e
    rw [PyProof.Rows.sortedHeap_old (Nat.ne_of_lt hb) (by rw [size_push']; exact Nat.lt_succ_of_lt hb)]
    exact Heap.get?_push_of_some _ e
end VL

/-! sorted of rows; a dict of new lists; a dict of lists comes to rest. -/
namespace VL
open PySem PySem.Spec PyProof.Rows L2
theorem perm_map_inv {α β : Type} {f : α → β} {ys zs : List β} (h : ys.Perm zs) : ∀ l : List α, zs = l.map f → ∃ l' : List α, List.Perm l' l ∧ ys = l'.map f := by
  induction h with
  | nil =>
    intro l e
    cases l with
    | nil => exact ⟨[], List.Perm.nil, rfl⟩
    | cons x l => cases e
  | cons x p ih =>
    intro l e
    cases l with
    | nil => cases e
    | cons y l =>
      rw [List.map_cons] at e
      injection e with e1 e2
      obtain ⟨l', h1, h2⟩ := ih l e2
      exact ⟨y :: l', h1.cons y, by rw [List.map_cons, ← h2, e1]⟩
  | swap x y l0 =>
    intro l e
    match l, e with
    | a :: b :: l, e =>
      rw [List.map_cons, List.map_cons] at e
      injection e with e1 e2
      injection e2 with e2 e3
      exact ⟨b :: a :: l, .swap a b l, by rw [List.map_cons, List.map_cons, ← e1, ← e2, ← e3]⟩
  | trans p q ih1 ih2 =>
    intro l e
    obtain ⟨l1, h1, e1⟩ := ih2 l e
    obtain ⟨l2, h2, e2⟩ := ih1 l1 e1
    exact ⟨l2, h2.trans h1, e2⟩
/-- a row: a number first -/
def rowD (r : Int × PyData) : PyData := .tuple [.int r.1, r.2]
theorem rpa_rows {K : PySem.W.Frag} {H : Hp} : ∀ {vs : List V} {rs : List (Int × PyData)}, RpA K H vs (rs.map rowD) → ∃ zs : List (Addr × (Int × PyData)), zs.map (·.2) = rs ∧ vs = zs.map (fun z => V.ref z.1) ∧ ∀ z ∈ zs, Rp K H (.ref z.1) (rowD z.2) ∧ ∃ y, SqT K H z.1 [.int z.2.1, y]
  | _, [], .nil => ⟨[], rfl, rfl, fun z hz => (nomatch hz)⟩
  | _, r :: rs, .cons h t => by
    obtain ⟨zs, h1, h2, h3⟩ := rpa_rows t
    have h' := h
    unfold rowD at h
    cases h with
    | @tup a xs ds hs hr =>
      cases hr with
      | cons i1 r1 =>
        cases i1
        cases r1 with
        | cons i2 r2 =>
          cases r2
          refine ⟨(a, r) :: zs, by rw [List.map_cons, h1], by rw [List.map_cons, h2], fun z hz => ?_⟩
          rcases List.mem_cons.mp hz with rfl | hz
          · exact ⟨h', _, hs⟩
          · exact h3 z hz
theorem rpa_rows_of {K : PySem.W.Frag} {H : Hp} : ∀ {zs : List (Addr × (Int × PyData))}, (∀ z ∈ zs, Rp K H (.ref z.1) (rowD z.2)) → RpA K H (zs.map fun z => V.ref z.1) ((zs.map (·.2)).map rowD)
  | [], _ => .nil
  | z :: zs, h => .cons (h z (List.mem_cons_self ..)) (rpa_rows_of fun y hy => h y (List.mem_cons_of_mem _ hy))
section
variable {C : Ctx} {ta : TE} {da : DE}
@[simp] def oSortedR (da : DE) : DO := fun δ Φ => da δ fun x => ∃ rs : List (Int × PyData), (x = .tuple (rs.map rowD) ∨ x = .list (rs.map rowD)) ∧ (rs.map (·.1)).Nodup ∧ ∀ ms : List (Int × PyData), ms.Perm rs → ms.Pairwise (fun r q => r.1 ≤ q.1) → Φ (ms.map rowD)
theorem smo_sortedR (ha : Sm C true ta da) : SmO C (tCB (rSortedR C.K) (tCons ta tNil)) (oSortedR da) := fun σ δ H0 H Φ Q s w q =>
  ha σ δ H0 H _ _ s w fun H01 H1 v x g1 r1 ⟨rs, e, nd, p⟩ => by
    have sq : ∃ (b : Addr) (vs : List V), v = .ref b ∧ (SqL C.K H1 b vs ∨ SqT C.K H1 b vs) ∧ RpA C.K H01 vs (rs.map rowD) := by
      rcases e with e | e
      · subst e
        cases r1 with
        | @tup b vs _ h r => exact ⟨b, vs, rfl, .inr (same_t g1.wf.sub h), r⟩
      · subst e
        cases r1 with
        | @lst b vs _ h r => exact ⟨b, vs, rfl, .inl (SqL.of (g1.wf.sub _ _ h)), r⟩
    obtain ⟨b, vs, rfl, hs, hr⟩ := sq
    obtain ⟨zs, z1, z2, z3⟩ := rpa_rows hr
    subst z2
    have em : (zs.map fun z => (z.1, z.2.1)).map (fun r : Addr × Int => V.ref r.1) = zs.map fun z => V.ref z.1 := by rw [List.map_map]; rfl
    have e2 : (zs.map fun z => (z.1, z.2.1)).map (fun r : Addr × Int => r.2) = rs.map (·.1) := by rw [← z1, List.map_map, List.map_map]; rfl
    refine ⟨b, zs.map fun z => (z.1, z.2.1), rfl, by rw [em]; exact hs, by rw [e2]; exact nd, fun r hm => ?_, fun ys l hp hs hl => ?_⟩
    · obtain ⟨z, hz, rfl⟩ := List.mem_map.mp hm
      obtain ⟨_, y, hy⟩ := z3 z hz
      exact ⟨y, same_t g1.wf.sub hy⟩
    · obtain ⟨zs', h1, h2⟩ := perm_map_inv hp zs rfl
      have e3 : ys.map (fun r : Addr × Int => V.ref r.1) = zs'.map fun z => V.ref z.1 := by rw [h2, List.map_map]; rfl
      rw [e3]
      refine q _ _ l _ _ (g1.trans (Go.free (o := .lst _) g1.wf hl)) (g1.fresh hl) (g1.wf.none hl) upd_same (rpa_rows_of fun z hz => (z3 z (h1.mem_iff.mp hz)).1) (p (zs'.map (·.2)) (by rw [← z1]; exact h1.map _) ?_)
      rw [h2] at hs
      exact List.pairwise_map.mpr ((List.pairwise_map (R := fun (r q : Addr × Int) => r.2 ≤ q.2)).mp hs)
end
/-! ### slot = {key: [] for target in source} -/
section
variable {C : Ctx} {H0 H : Hp} {σ : L2.St} {δ : Dl} {tk : TE} {dk : DE} {g : TG} {dg : DG} {ti : TI} {di : DI} {m : Sto} {ts : TS} {ds : DS}
theorem CVk.put_new {K : PySem.W.Frag} {H : Hp} {k : Key} {v : V} {c : CV} (h : CVR K H v c) : ∀ {vs : List (Key × V)} {es : List (Key × CV)}, CVk K H vs es → k ∉ vs.map (·.1) → CVk K H (putK vs k v) (es ++ [(k, c)]) := fun {vs es} r n => by
  have : putK vs k v = vs ++ [(k, v)] := by
    unfold putK
    rw [if_neg]
    intro z
    obtain ⟨e, he, hk⟩ := List.any_eq_true.mp z
    exact n (List.mem_map.mpr ⟨e, he, of_decide_eq_true hk⟩)
  rw [this]
  clear n this
  induction r with
  | nil => exact .cons h .nil
  | cons a _ ih => exact .cons a ih
theorem cvk_zip {K : PySem.W.Frag} {H : Hp} : ∀ (ks : List Key) (bs : List Addr), CVk K H (ks.zip (bs.map V.ref)) (ks.zip (bs.map CV.r))
  | [], _ => .nil
  | _ :: _, [] => .nil
  | k :: ks, b :: bs => .cons rfl (cvk_zip ks bs)
def dSetND (i : Nat) (di : DI) (own : List Nat) (dg : DG) (dk : DE) : DS := fun E δ => di δ fun (xs : List PyData) => ∃ ks : List Key, ks.length = xs.length ∧ ks.Nodup ∧ xs.length < sizeLine ∧
  (∀ (k : Nat) (y : PyData), xs[k]? = some y → dg y (dwipe δ own) fun δ' => dk δ' fun u => ∃ ky, ks[k]? = some ky ∧ u = keyD ky) ∧
  ∀ (a : Addr) (bs : List Addr), (a :: bs).Nodup → bs.length = xs.length → E.nx (δ.set i (some (.reg (.ref a) ((a, .D (ks.zip (bs.map .r))) :: bs.map fun b => (b, .l [])))))
theorem sms_setND {own : List Nat} (i : Nat) (hk : Kps own g) (hi : SmI C ti di) (hg : SmG C g dg) (hkk : Sm C true tk dk) : SmS C (tAsg (tDc ti g tYes tk (tLst tNil) own) (gName i)) (dSetND i di own dg dk) := fun σ δ H0 H E D' s w e =>
  hi σ δ H0 H _ _ s w fun H01 H1 J xs g1 wk ⟨ks, kl, knd, hxs, it, ie⟩ D hD => by
    have hD0 : H D = none := g1.fresh hD
    have nex : C.ex ≠ some D := (Go.he g1.wf hD).2
    refine ⟨fun k m H' => m = xs.length - k ∧ k ≤ xs.length ∧ ∃ H0' bs, Go C H01 H1 H0' H' ∧ H0' D = none ∧ H' D = some (.dK ((ks.take k).zip (bs.map V.ref))) ∧ bs.length = k ∧ (D :: bs).Nodup ∧ ∀ b ∈ bs, H1 b = none ∧ H0' b = none ∧ H' b = some (.lst []), ⟨_, rfl, Nat.zero_le _, H01, [], Go.free g1.wf hD, g1.wf.none hD, by rw [upd_same]; rfl, rfl, by simp, fun b hb => (nomatch hb)⟩, ?_⟩
    rintro k m H' ⟨rfl, hk', H0', bs, g2, hn, hl, hbl, nd, hb⟩
    by_cases hlt : k < xs.length
    · refine .inr ⟨wk.go H0' H' k g2.fz g2.wf hlt, fun H3 => ∃ H0' bs, Go C H01 H1 H0' H3 ∧ H0' D = none ∧ H3 D = some (.dK ((ks.take (k + 1)).zip (bs.map V.ref))) ∧ bs.length = k + 1 ∧ (D :: bs).Nodup ∧ ∀ b ∈ bs, H1 b = none ∧ H0' b = none ∧ H3 b = some (.lst []), fun H3 h => ⟨_, by omega, rfl, hlt, h⟩, fun v H'' y => ?_⟩
      obtain ⟨H02, z, g3, hz, rz⟩ := wk.yld H0' H' k v H'' g2.fz g2.wf hlt y
      have g23 := g2.trans g3
      have sw : St C H02 H'' (wipe σ own) (dwipe δ own) := (s.go (g1.trans g23)).wipe own
      obtain ⟨NX, hNX⟩ : ∃ NX : Hp → Prop, NX = fun H3 => ∃ H0' bs, Go C H01 H1 H0' H3 ∧ H0' D = none ∧ H3 D = some (.dK ((ks.take (k + 1)).zip (bs.map V.ref))) ∧ bs.length = k + 1 ∧ (D :: bs).Nodup ∧ ∀ b ∈ bs, H1 b = none ∧ H0' b = none ∧ H3 b = some (.lst []) := ⟨_, rfl⟩
      rw [← hNX]
      have fin := hk v (wipe σ own) H'' _ (hg v z (wipe σ own) (dwipe δ own) H02 H'' _ (fun σ2 H2 => tYes σ2 H2 fun b H3 => if b = true then tk σ2 H3 fun y H4 => (tLst tNil) σ2 H4 fun z H5 => ∃ kvs ky, y = kV ky ∧ H5 D = some (.dK kvs) ∧ kvs.length < sizeLine ∧ NX (upd H5 D (.dK (putK kvs ky z))) else NX H3) sw rz (it k z hz) fun σ2 δ2 s2 w2 => ?_)
      · rw [wipe_wipe] at fin
        exact fin
      dsimp only [tYes]
      rw [if_pos rfl]
      refine hkk σ2 δ2 H02 H'' _ _ s2 w2 fun H05 H5 y' u' g5 r5 ⟨ky, hky, eu⟩ => ?_
      subst eu
      obtain rfl := rp_key r5
      refine ⟨by show 0 ≤ sizeLine; exact Nat.zero_le _, fun p hp => ?_⟩
      have g35 := g3.trans g5
      have keep : ∀ {b : Addr} {o : HO}, C.ex ≠ some b → H0' b = none → H' b = some o → H05 b = none ∧ H5 b = some o := fun {b o} n h0 h => by
        have h1 := g35.kp b _ n h
        refine ⟨?_, h1⟩
        cases e : H05 b with
        | none => rfl
        | some u =>
          rcases g35.nw b u e with h2 | h2
          · rw [h0] at h2; cases h2
          · rw [h] at h2; cases h2
      have kD := keep nex hn hl
      have g25 := g2.trans g35
      have gp := Go.free (o := .lst []) g35.wf hp
      have g4 := g25.trans gp
      have nDp : D ≠ p := fun z => by rw [z, hp] at kD; cases kD.2
      have hDp : (upd H5 p (.lst [])) D = some (.dK ((ks.take k).zip (bs.map V.ref))) := by rw [upd_ne nDp]; exact kD.2
      have p1 : H1 p = none := (g25.fresh hp)
      have hkl : k < ks.length := by omega
      have tk1 : ks.take (k + 1) = ks.take k ++ [ky] := by rw [List.take_add_one, hky]; rfl
      have ln : (ks.take k).length = (bs.map V.ref).length := by rw [List.length_take, List.length_map, hbl]; omega
      have knew : ky ∉ ((ks.take k).zip (bs.map V.ref)).map (·.1) := by
        rw [List.map_fst_zip (by omega)]
        intro hm
        obtain ⟨j, hj⟩ := List.getElem?_of_mem hm
        have hj1 := (List.getElem?_eq_some_iff.mp hj).1
        rw [List.length_take] at hj1
        rw [List.getElem?_take_of_lt (by omega)] at hj
        have h1 := List.getElem?_eq_some_iff.mp hj
        have h2 := List.getElem?_eq_some_iff.mp hky
        obtain ⟨a1, a2⟩ := h1
        obtain ⟨b1, b2⟩ := h2
        have := (List.getElem_inj (h₀ := a1) (h₁ := b1) knd).mp (a2.trans b2.symm)
        omega
      have hput : putK ((ks.take k).zip (bs.map V.ref)) ky (.ref p) = (ks.take (k + 1)).zip ((bs ++ [p]).map V.ref) := by
        unfold putK
        rw [if_neg, tk1, List.map_append, List.zip_append ln]
        · rfl
        · intro z
          obtain ⟨e, he, hk2⟩ := List.any_eq_true.mp z
          exact knew (List.mem_map.mpr ⟨e, he, of_decide_eq_true hk2⟩)
      refine ⟨_, ky, rfl, hDp, by rw [List.length_zip, List.length_take, List.length_map]; omega, ?_⟩
      rw [hNX, hput]
      refine ⟨H05, bs ++ [p], ?_, kD.1, upd_same, by rw [List.length_append, hbl]; rfl, ?_, fun b hb' => ?_⟩
      · refine ⟨⟨fun b u e => ?_, fun b u n e => ?_, g4.wf.fz, g4.wf.nw, fun c e => ?_⟩, g4.fz, fun b u n e => ?_, g4.nw⟩
        · rw [upd_ne (fun z => by rw [z, kD.1] at e; cases e)]; exact g4.wf.sub b u e
        · rw [upd_ne (fun z => by rw [z, (Go.he g1.wf hD).1] at e; cases e)]; exact g4.wf.kp b u n e
        · exact (g4.wf.dr c e).keep (Same.refl _) (g4.wf.dr c e).no (upd_ne (fun z => nex (by rw [← z]; exact e)))
        · rw [upd_ne (fun z => by rw [z, hD] at e; cases e)]; exact g4.kp b u n e
      · have nd2 := List.nodup_cons.mp nd
        refine List.nodup_cons.mpr ⟨fun z => ?_, List.nodup_append.mpr ⟨nd2.2, by simp, fun a ha c hc => ?_⟩⟩
        · rcases List.mem_append.mp z with z | z
          · exact nd2.1 z
          · exact nDp (List.mem_singleton.mp z)
        · rw [List.mem_singleton.mp hc]
          intro q
          subst q
          have hba := hb a ha
          have := (keep (Go.he g1.wf hba.1).2 hba.2.1 hba.2.2).2
          rw [hp] at this; cases this
      · rcases List.mem_append.mp hb' with hb' | hb'
        · have hba := hb b hb'
          have k1 := keep (Go.he g1.wf hba.1).2 hba.2.1 hba.2.2
          have n1 : b ≠ D := fun z => (List.nodup_cons.mp nd).1 (z ▸ hb')
          have n2 : b ≠ p := fun z => by rw [z, hp] at k1; cases k1.2
          exact ⟨hba.1, k1.1, by rw [upd_ne n1, upd_ne n2]; exact k1.2⟩
        · rw [List.mem_singleton.mp hb']
          exact ⟨p1, g35.wf.none hp, by rw [upd_ne (fun z => nDp z.symm), upd_same]⟩
    · have hk2 : k = xs.length := by omega
      have gg := g1.trans g2
      refine .inl ⟨wk.stop H0' H' k g2.fz g2.wf (by omega), ?_⟩
      have sg := s.go gg
      have hhe : ∀ {b : Addr}, H1 b = none → C.He b = none ∧ C.ex ≠ some b := fun h => Go.he g1.wf h
      have tkk : ks.take k = ks := List.take_of_length_le (by omega)
      rw [tkk] at hl
      refine e.nx H0' H' _ _ gg.fz (sg.reset i (v' := .ref D) (r' := .reg (.ref D) ((D, .D (ks.zip (bs.map .r))) :: bs.map fun b => (b, .l []))) ⟨rfl, ?_, fun a c hm => ?_⟩ fun b hb' l q n hl' => ?_) (ie D bs nd (hbl.trans hk2))
      · rw [List.map_cons, List.map_map]
        have : (bs.map ((fun x : Addr × Cell => x.1) ∘ fun b => (b, Cell.l []))) = bs := by
          refine (List.map_congr_left fun b _ => ?_).trans (List.map_id' bs)
          rfl
        rw [this]
        exact nd
      · rcases List.mem_cons.mp hm with hm | hm
        · cases hm
          exact ⟨hn, (hhe hD).1, nex, _, hl, _, rfl, cvk_zip ks bs⟩
        · obtain ⟨b, hb1, hb2⟩ := List.mem_map.mp hm
          cases hb2
          have hba := hb _ hb1
          exact ⟨hba.2.1, (hhe hba.1).1, (hhe hba.1).2, _, hba.2.2, _, rfl, .nil⟩
      · have hb' : b ∈ ((D, Cell.D (ks.zip (bs.map .r))) :: bs.map fun b => (b, Cell.l [])).map (fun q : Addr × Cell => q.1) := hb'
        rw [List.map_cons, List.map_map] at hb'
        have hfb : H b = none := by
          rcases List.mem_cons.mp hb' with hb' | hb'
          · rw [hb']; exact hD0
          · obtain ⟨b2, hb3, hb4⟩ := List.mem_map.mp hb'
            have : b2 = b := hb4
            subst this
            exact g1.fresh (hb b2 hb3).1
        exact s.fresh hfb hl'
/-! ### a dict of lists comes to rest: its lists are data from here on -/
theorem cvk_rows {K : PySem.W.Frag} {H : Hp} : ∀ {vs : List (Key × V)} {rows : List (Key × Addr × List PyData)}, CVk K H vs (rows.map fun p => (p.1, CV.r p.2.1)) → vs = rows.map fun p => (p.1, V.ref p.2.1)
  | _, [], .nil => rfl
  | _, p :: rows, .cons h r => by rw [List.map_cons, cvk_rows r]; rw [show _ = V.ref p.2.1 from h]
theorem St.settleD {a : Addr} {rows : List (Key × Addr × List PyData)} (s : St C H0 H σ δ) (i : Nat) (e : δ[i]? = some (some (.reg (.ref a) m))) (ha : m.at a = some (.D (rows.map fun p => (p.1, .r p.2.1)))) (hr : ∀ p ∈ rows, m.at p.2.1 = some (.l (p.2.2.map .d))) :
    ∃ H0', Same H0 H0' ∧ St C H0' H σ (δ.set i (some (.dct a (rows.map fun p => (p.1, .list p.2.2))))) := by
  obtain ⟨v, e1, hv⟩ := s.sl i _ e
  have ev : v = .ref a := hv.1
  subst ev
  obtain ⟨S, hS⟩ : ∃ S : List Addr, S = rows.map (·.2.1) := ⟨_, rfl⟩
  have inm : ∀ b ∈ S, b ∈ m.map (·.1) ∧ H0 b = Option.none ∧ C.He b = Option.none ∧ C.ex ≠ some b := fun b hb => by
    have hb : b ∈ m.map (·.1) := by
      rw [hS] at hb
      obtain ⟨p, hp, rfl⟩ := List.mem_map.mp hb
      exact sat_dom (hr p hp)
    have := hv.adr hb
    exact ⟨hb, this.1, this.2.1, this.2.2⟩
  have naS : a ∉ S := fun z => by
    rw [hS] at z
    obtain ⟨p, hp, z⟩ := List.mem_map.mp z
    have := hr p hp
    rw [z, ha] at this
    cases this
  obtain ⟨F, hF⟩ : ∃ F : Hp, F = fun b => if b ∈ S then H b else H0 b := ⟨_, rfl⟩
  have fin : ∀ {b : Addr}, b ∈ S → F b = H b := fun {b} h => by rw [hF]; exact if_pos h
  have fout : ∀ {b : Addr}, b ∉ S → F b = H0 b := fun {b} h => by rw [hF]; exact if_neg h
  have gr : Same H0 F := fun b o q => by
    rw [fout (fun z => by rw [(inm b z).2.1] at q; cases q)]; exact q
  refine ⟨F, gr, ⟨fun b o q => ?_, s.kp, s.fz.trans gr, fun b o q => ?_, fun p q => ?_⟩, by rw [List.length_set, s.len], fun j p q => ?_, fun j k b c p q n q1 q2 a1 a2 => ?_⟩
  · by_cases hb : b ∈ S
    · rw [fin hb] at q; exact q
    · rw [fout hb] at q; exact s.sub b o q
  · by_cases hb : b ∈ S
    · exact .inr (inm b hb).2.2.1
    · rw [fout hb] at q; exact s.nw b o q
  · exact (s.dr p q).keep gr (by rw [fout (fun z => (inm p z).2.2.2 q)]; exact (s.dr p q).no) rfl
  · rcases set_at q with ⟨z, rfl⟩ | ⟨z, q⟩
    · subst z
      refine ⟨_, e1, ?_⟩
      obtain ⟨b1, b2, b3, o, ho, vs, rfl, hc⟩ := reg_at hv ha
      refine ⟨rfl, by rw [fout naS]; exact b1, b2, b3, vs, ho, ?_⟩
      rw [cvk_rows hc]
      have one : ∀ p ∈ rows, Rp C.K F (.ref p.2.1) (.list p.2.2) := fun p hp => by
        obtain ⟨_, _, _, o, ho, vs, rfl, hc⟩ := reg_at hv (hr p hp)
        exact .lst (by rw [fin (by rw [hS]; exact List.mem_map.mpr ⟨p, hp, rfl⟩)]; exact ho) (hc.rpa.mono gr)
      clear hc ho ha hr inm hS q
      induction rows with
      | nil => exact .nil
      | cons p rows ih => exact .cons (one p (List.mem_cons_self ..)) (ih fun q hq => one q (List.mem_cons_of_mem _ hq))
    · obtain ⟨u, f1, f2⟩ := s.sl j p q
      refine ⟨u, f1, f2.move gr fun b hb => ⟨?_, fun _ h => h⟩⟩
      have nb : b ∉ S := fun zb => s.sep j i b b p _ (fun z' => z z'.symm) q e hb (inm b zb).1 rfl
      rw [fout nb]
      exact (f2.adr hb).1
  · have sub : ∀ {l : Nat} {p : R}, (δ.set i (some (R.dct a (rows.map fun p => (p.1, .list p.2.2)))))[l]? = some (some p) → ∀ b, b ∈ p.adr → ∃ p', δ[l]? = some (some p') ∧ b ∈ p'.adr := fun {l p} ql b hb => by
      rcases set_at ql with ⟨z, rfl⟩ | ⟨z, ql⟩
      · subst z
        have : b = a := List.mem_singleton.mp hb
        subst this
        exact ⟨_, e, sat_dom ha⟩
      · exact ⟨p, ql, hb⟩
    obtain ⟨p', h1, h2⟩ := sub q1 b a1
    obtain ⟨q', h3, h4⟩ := sub q2 c a2
    exact s.sep j k b c p' q' n h1 h3 h2 h4
@[simp] def dSettleD (i : Nat) (d : DS) : DS := fun E δ => ∃ (a : Addr) (m : Sto) (rows : List (Key × Addr × List PyData)), δ[i]? = some (some (.reg (.ref a) m)) ∧ m.at a = some (.D (rows.map fun p : Key × Addr × List PyData => (p.1, .r p.2.1))) ∧ (∀ p ∈ rows, m.at p.2.1 = some (.l (p.2.2.map .d))) ∧ d E (δ.set i (some (.dct a (rows.map fun p => (p.1, .list p.2.2)))))
theorem sms_settleD (i : Nat) (h : SmS C ts ds) : SmS C ts (dSettleD i ds) := fun σ δ H0 H E D s ⟨a, m, rows, h1, h2, h3, w⟩ e => by
  obtain ⟨H0', g, s'⟩ := s.settleD i h1 h2 h3
  exact h σ _ H0' H E D s' w (e.mono g)
end
theorem kx_sortedR {X : Cx} {K : PySem.W.Frag} (h : X.K = K) : CallR X (.builtin "sorted") (rSortedR K) := by subst h; exact cr_sortedR
/-! ### hand layer: name = {..} on one line, the name a local -/
section
open PyProof.Rows
variable {X : Cx}
theorem ps_setDc {i : Nat} {y : Str} {py : Pos} {kx vx tg iter : Expr} {ifs : List Expr} {scope : Scope} {own : List (Str × Nat)} {pos spos : Pos} {wi : TI} {g : TG} {tt : TT} {tk tv : TE} (hc : X.calm = true) (hN : X.N.Nodup) (hy : X.N[i]? = some y) (hyl : X.env.scope.names.lookup y = some .local)
    (hsw : swapsWith (.DictComp kx vx [⟨tg, iter, ifs, 0⟩] scope pos) (some (.Name y py)) spos.line X.env = pure true) (hi : PI X tg iter wi) (ok : BlkOk X.N X.env.scope scope own)
    (hg : ∀ (s : Shared) (H : Hp) (C : Addr) (cl : List (Str × Addr)) (fp : List Addr), PG (X.blk s H scope (compEnvC scope cl C X.env) fp) tg g) (ht : ∀ (s : Shared) (H : Hp) (C : Addr) (cl : List (Str × Addr)) (fp : List Addr), PTs (X.blk s H scope (compEnvC scope cl C X.env) fp) ifs tt)
    (hk : ∀ (s : Shared) (H : Hp) (C : Addr) (cl : List (Str × Addr)) (fp : List Addr), PE (X.blk s H scope (compEnvC scope cl C X.env) fp) kx tk)
    (he : ∀ (s : Shared) (H : Hp) (C : Addr) (cl : List (Str × Addr)) (fp : List Addr), PE (X.blk s H scope (compEnvC scope cl C X.env) fp) vx tv) (hs : ∀ x, foldedSetIterable iter X.env x = pure x := by intro _; rfl) :
    PS X (.Assign [.Name y py] (.DictComp kx vx [⟨tg, iter, ifs, 0⟩] scope pos) spos) (tAsg (tDc wi g tt tk tv (own.map (·.2))) (gName i)) := by
  refine ⟨fun pins s σ H D I h => ?_⟩
  rw [exec_Assign_Name_used _ _ _ _ hsw]
  refine wpAny_bind (wpAny_standAt (wpAny_bind ?_))
  show wpAny _ X.A (do let _ ← comprehension (.DictComp kx vx [⟨tg, iter, ifs, 0⟩] scope pos) scope X.env (firstIterPos [⟨tg, iter, ifs, 0⟩] pos) newDict false (eval iter X.env) (some (assign (.Name y py) X.env))) _ _ s
  have h : tDc wi g tt tk tv (own.map (·.2)) σ H (fun x H1 => gName i x σ H1 D.nx) := h
  refine wpAny_bind (thn (dc_core (Qf := fun _ s' => SP X pins D .next s') hc hN I hi ok hg ht hk he hs h fun L C s' m H' I' q hn f => ?_) fun _ s' hq => wpAny_pure (wpAny_pure hq))
  show wpAny _ _ (assign (.Name y py) X.env (.ref L)) _ _ _
  refine wpAny_assign_Name (store_ok2 (v := V.ref L) I' hN hy (.inl hyl) rfl (fun s2 I2 ⟨a, sb, ha⟩ => ?_) (.inr hyl))
  obtain ⟨f0, f1, f2, f3, f4, f5⟩ := f
  have haC : C ≠ a := by
    rcases ha with z | z
    · rw [z]; exact f1
    · exact fun e => f4 y a z e.symm
  refine ⟨m, hn.sameBut sb haC, fun h3 sb3 => ?_⟩
  exact ⟨_, H', I2.turned (t' := s2.toks) (fun b o hb e => (sb3.2 b hb).trans e) f0 f1 f3 f4 f5, q⟩
theorem sw_trueD {kx vx : Expr} {gs : List Comprehension} {scope : Scope} {pos py : Pos} {y : Str} {l : Nat} {env : Env} (hk : env.scope.kind = .function) (hy : env.scope.names.lookup y = some .local) (hl : (py.line == pos.line) = true)
    (ha : (scope.names.any fun (n, k) => n == y && (k == .local || k == .cell)) = false) : swapsWith (.DictComp kx vx gs scope pos) (some (.Name y py)) l env = pure true := by
  have ky : env.kindOf y = some .local := hy
  have hb : env.blockKind = .function := by unfold Env.blockKind; rw [hk]; rfl
  unfold swapsWith
  simp only [hb, ky, ha, Expr.pos, hl]
  rfl
end
/-- whether a tuple or a list has items -/
theorem kpt_truth {X : Cx} {K : PySem.W.Frag} {a : Expr} {ta : TE} (h : X.K = K) (ha : PE X a ta) (he : ∀ whole, isTrue a X.env whole = (do let v ← whole; standAt a.pos; holding [v] (truthy v))) : PT X a (fun σ H Q => ta σ H fun x H' => ∃ k, TruV K x H' k ∧ Q k H') := by
  subst h
  exact pt_truth ha he
@[simp] def dTruS (da : DE) : DT := fun δ Φ => da δ fun x => ∃ xs, (x = .list xs ∨ x = .tuple xs) ∧ Φ (!xs.isEmpty)
theorem smt_truS {C : Ctx} {ta : TE} {da : DE} (ha : Sm C true ta da) : SmT C (fun σ H Q => ta σ H fun x H' => ∃ k, TruV C.K x H' k ∧ Q k H') (dTruS da) := fun σ δ H0 H Φ Q s w q =>
  ha σ δ H0 H _ _ s w fun H01 H1 v x g1 r1 ⟨xs, e, p⟩ => by
    have emp : ∀ {vs : List V}, RpA C.K H01 vs xs → (!xs.isEmpty) = !vs.isEmpty := fun {vs} r => by
      have := r.length
      cases vs <;> cases xs <;> simp at this ⊢
    rcases e with e | e
    · subst e
      cases r1 with
      | @lst a vs _ h r => exact ⟨_, .inl ⟨vs, SqL.of (g1.wf.sub _ _ h), emp r⟩, q _ _ _ g1 p⟩
    · subst e
      cases r1 with
      | @tup a vs _ h r => exact ⟨_, .inr (.inl ⟨vs, same_t g1.wf.sub h, emp r⟩), q _ _ _ g1 p⟩
end VL

/-! d.setdefault(k, []) in a region; X.append where X makes things; slot = {} as a region's root; xs[::-1]. -/
namespace VL
open PySem L2
section
variable {C : Ctx} {H0 H H0' H' : Hp} {σ : L2.St} {δ : Dl} {te ta tb : TE} {de da dk : DE} {dx dx2 : DX} {f2 : Bool} {m : Sto}
theorem CVk.noV {K : PySem.W.Frag} {k : Key} : ∀ {vs : List (Key × V)} {cs : List (Key × CV)}, CVk K H vs cs → getC cs k = none → valV vs k = none
  | _, _, .nil, _ => rfl
  | (k', v) :: vs, (_, c) :: cs, .cons h r, e => by
    unfold getC at e
    rw [List.find?_cons] at e
    unfold valV
    rw [List.find?_cons]
    by_cases q : k' = k
    · simp [q] at e
    · simp only [q, decide_false] at e ⊢
      exact CVk.noV r e
theorem CVk.snoc {K : PySem.W.Frag} {k : Key} {v : V} {c : CV} (h : CVR K H v c) : ∀ {vs : List (Key × V)} {cs : List (Key × CV)}, CVk K H vs cs → CVk K H (vs ++ [(k, v)]) (cs ++ [(k, c)])
  | _, _, .nil => .cons h .nil
  | _, _, .cons a r => .cons a (CVk.snoc h r)
/-- slot.setdefault(key, []) -/
@[simp] def xSetd (i : Nat) (dk : DE) : DX := fun δ Φ => ∃ (a : Addr) (m : Sto) (es : List (Key × CV)), δ[i]? = some (some (.reg (.ref a) m)) ∧ m.at a = some (.D es) ∧ es.length < sizeLine ∧ dk δ fun y => ∃ k : Key, y = keyD k ∧
  (∀ c, getC es k = some c → Φ δ c) ∧ (getC es k = none → ∀ b, NewIn b m → Φ (δ.set i (some (.reg (.ref a) (Sto.put (m ++ [(b, .l [])]) a (.D (es ++ [(k, .r b)])))))) (.r b))
theorem smx_setd (i : Nat) (hk : Sm C f2 tb dk) : SmX C (tDSetd (tVar i) tb (tLst tNil)) (xSetd i dk) := fun σ δ H0 H Φ Q s ⟨a, m, es, e0, em, hl, w⟩ q => by
  obtain ⟨v, e1, hv⟩ := s.sl i _ e0
  have ev : v = .ref a := hv.1
  subst ev
  obtain ⟨_, _, _, o, ho, vs, rfl, hc⟩ := reg_at hv em
  refine ⟨_, e1, a, rfl, .inl ⟨vs, .inl ho⟩, hk σ δ H0 H _ _ s w fun H01 H1 y0 y g1 r1 ⟨k, ey, hyes, hno⟩ => ?_⟩
  subst ey
  obtain rfl := rp_key r1
  refine ⟨by show 0 ≤ sizeLine; exact Nat.zero_le _, fun p hp => ?_⟩
  have s1 := s.go g1
  have gp := Go.free (o := .lst []) g1.wf hp
  have s2 := s1.go gp
  obtain ⟨v2, _, hv2⟩ := s2.sl i _ e0
  obtain ⟨_, _, _, o2, ho2, vs2, rfl, hc2⟩ := reg_at hv2 em
  refine ⟨vs2, k, ho2, rfl, by rw [hc2.length]; exact hl, fun v hv => ?_, fun hnone => ?_⟩
  · cases e : getC es k with
    | none => rw [hc2.noV e] at hv; cases hv
    | some c =>
      obtain ⟨v', h1, h2⟩ := hc2.val e
      rw [h1] at hv
      cases hv
      exact q H01 _ _ c δ (g1.fz.trans gp.fz) s2 h2 (hyes c e)
  · have e : getC es k = none := by
      cases e : getC es k with
      | none => rfl
      | some c =>
        obtain ⟨v', h1, _⟩ := hc2.val e
        rw [h1] at hnone; cases hnone
    obtain ⟨nb, s3⟩ := s2.join i e0 s1 hp (g1.wf.none hp) (upd_same) (c := .l []) ⟨[], rfl, .nil⟩
    have hi : i < δ.length := (List.getElem?_eq_some_iff.mp e0).1
    have hap : a ≠ p := fun z => nb (by rw [← z]; exact sat_dom em)
    have s4 := s3.putR (c := .D (es ++ [(k, .r p)])) (o := .dK (putK vs2 k (.ref p))) i (List.getElem?_set_self hi) (sat_old em hap) ⟨_, rfl, by rw [putK_new _ hnone]; exact CVk.snoc (c := .r p) rfl hc2⟩
    rw [List.set_set] at s4
    exact q H01 _ (.ref p) (.r p) _ (g1.fz.trans gp.fz) s4 rfl (hno e p nb)
/-- X.append(e), X an expression that may make things -/
@[simp] def dAppX (i : Nat) (dx dx2 : DX) : DS := fun E δ => dx δ fun δ1 c1 => ∃ b u0 m0 xs0, c1 = .r b ∧ δ1[i]? = some (some (.reg u0 m0)) ∧ m0.at b = some (.l xs0) ∧ dx2 δ1 fun δ' c => ∃ u m xs, δ'[i]? = some (some (.reg u m)) ∧ m.at b = some (.l xs) ∧ xs.length < sizeLine ∧ E.nx (δ'.set i (some (.reg u (m.put b (.l (xs ++ [c]))))))
theorem sms_appX (i : Nat) (hv : SmX C ta dx) (h : SmX C te dx2) : SmS C (tDrop (tBM C.K "list" rAppend ta (tCons te tNil))) (dAppX i dx dx2) := fun σ δ H0 H E D s w e =>
  hv σ δ H0 H _ _ s w fun H01 H1 v1 c1 δ1 gr1 s1 r1 ⟨b, u0, m0, xs0, e1, e2, e3, w1⟩ => by
    subst e1
    have r1 : v1 = .ref b := r1
    subst r1
    obtain ⟨v', _, hv'⟩ := s1.sl i _ e2
    obtain ⟨_, _, _, o, ho, vs, rfl, hc⟩ := reg_at hv' e3
    refine ⟨.inl ⟨rfl, vs, SqL.of ho⟩, h σ δ1 H01 H1 _ _ s1 w1 fun H02 H2 v c δ' gr s' r ⟨u, m, xs, e4, e5, hl, p⟩ => ?_⟩
    obtain ⟨v2, _, hv2⟩ := s'.sl i _ e4
    obtain ⟨_, _, _, o2, ho2, vs2, rfl, hc2⟩ := reg_at hv2 e5
    exact ⟨b, vs2, v, rfl, rfl, ho2, by rw [hc2.length]; exact hl, e.nx H02 _ σ _ (gr1.trans gr) (s'.putR (c := .l (xs ++ [c])) i e4 e5 ⟨_, rfl, hc2.snoc r⟩) p⟩
/-- slot = {}, a region's root -/
@[simp] def dRegD0 (i : Nat) : DS := fun E δ => ∀ a, E.nx (δ.set i (some (.reg (.ref a) [(a, .D [])])))
theorem sms_regD0 (i : Nat) : SmS C (tAsg tDNewK (gName i)) (dRegD0 i) := fun σ δ H0 H E D s w e => fun p hp => by
  have g := Go.free (o := .dK []) s.toWf hp
  refine e.nx H0 _ _ _ (Same.refl _) ((s.go g).reset i (v' := .ref p) (r' := .reg (.ref p) [(p, .D [])]) ⟨rfl, by simp, fun a c hm => ?_⟩ fun b hb l q n hl => ?_) (w p)
  · cases List.mem_singleton.mp hm
    exact ⟨s.toWf.none hp, (Go.he s.toWf hp).1, (Go.he s.toWf hp).2, _, upd_same, _, rfl, .nil⟩
  · cases List.mem_singleton.mp hb
    exact s.fresh hp hl
/-- xs[::-1] -/
theorem RpA.reverse {K : PySem.W.Frag} {H : Hp} : ∀ {vs : List V} {xs : List PyData}, RpA K H vs xs → RpA K H vs.reverse xs.reverse
  | _, _, .nil => .nil
  | _, _, .cons h r => by rw [List.reverse_cons, List.reverse_cons]; exact (RpA.reverse r).snoc h
theorem kpe_revL {X : Cx} {K : PySem.W.Frag} (hK : X.K = K) {e : Expr} {te : TE} {k : Nat} {p1 p2 p3 pos : Pos} (he : PE X e te) : PE X (.Subscript e (.Slice none none (some (.UnaryOp .USub (.Constant (.int 1) k p1) p2)) p3) pos) (tRevL K te) := by
  subst hK
  exact pe_revL he
@[simp] def oRevL (da : DE) : DO := fun δ Φ => da δ fun x => ∃ xs, x = .list xs ∧ Φ xs.reverse
theorem smo_revL (ha : Sm C true ta da) : SmO C (tRevL C.K ta) (oRevL da) := fun σ δ H0 H Φ Q s w q =>
  ha σ δ H0 H _ _ s w fun H01 H1 v x g1 r1 ⟨xs, e, p⟩ => by
    subst e
    cases r1 with
    | @lst a vs _ h r => exact ⟨a, vs, rfl, SqL.of (g1.wf.sub _ _ h), fun l hl => q _ _ l _ _ (g1.trans (Go.free (o := .lst _) g1.wf hl)) (g1.fresh hl) (g1.wf.none hl) upd_same r.reverse p⟩
end
end VL

/-! d[k] += e, d an owned dict of numbers. -/
namespace VL
open PySem L2
section
variable {C : Ctx} {H0 H H0' H' : Hp} {σ : L2.St} {δ : Dl} {te tb : TE} {de db : DE} {f1 f2 : Bool}
@[simp] def dAugD (i : Nat) (de dk : DE) : DS := fun E δ => ∃ a es, δ[i]? = some (some (.dct a es)) ∧ dk δ fun y => ∃ k n, y = keyD k ∧ getE es k = some (.int n) ∧ es.length < sizeLine ∧ de δ fun x => ∃ m, x = .int m ∧ E.nx (δ.set i (some (.dct a (putE es k (.int (n + m))))))
theorem sms_augD (i : Nat) (h : Sm C f1 te de) (hk : Sm C f2 tb db) : SmS C (sDAug (tVar i) tb te rAdd) (dAugD i de db) := fun σ δ H0 H E D s ⟨a, es, e0, w⟩ e => by
  obtain ⟨u, e1, hu⟩ := s.sl i _ e0
  refine ⟨u, e1, hk σ δ H0 H _ _ s w fun H01 H1 y0 y g1 r1 ⟨k, n, ey, ex, hl, p⟩ => ?_⟩
  subst ey
  obtain rfl := rp_key r1
  obtain ⟨o, h1, h2, h3⟩ := in_go (s.go g1) e0 k
  rw [e1] at h1
  cases h1
  rcases h3 with ⟨_, e3⟩ | ⟨v, d, rfl, e3, r⟩
  · rw [e3] at ex; cases ex
  rw [e3] at ex; cases ex
  cases r
  refine ⟨a, _, rfl, h2, h σ δ H01 H1 _ _ (s.go g1) p fun H02 H2 v2 x2 g2 r2 ⟨m, em, p2⟩ => ?_⟩
  subst em
  cases r2
  have s2 := (s.go g1).go g2
  obtain ⟨u', e2, rfl, k1, k2, k3, kvs, h4, h5⟩ := s2.sl i _ e0
  rw [e1] at e2
  cases e2
  refine ⟨n, m, rfl, rfl, _, DPut.k h4 (by rw [h5.length]; exact hl), e.nx H02 _ σ _ (g1.fz.trans g2.fz) ?_ p2⟩
  exact s2.put i e0 (fun _ h => h.1) rfl rfl fun H' hH k1 k2 k3 => ⟨rfl, k1, k2, k3, _, hH, h5.put (.int _)⟩
/-! ### new dicts -/
abbrev DD := Dl → (List (Key × PyData) → Prop) → Prop
def SmD (C : Ctx) (te : TE) (dd : DD) : Prop := ∀ (σ : L2.St) (δ : Dl) (H0 H : Hp) (Φ : List (Key × PyData) → Prop) (Q : VK), St C H0 H σ δ → dd δ Φ →
  (∀ H0' H' a vs es, Go C H0 H H0' H' → H a = none → H0' a = none → H' a = some (.dK vs) → RpK C.K H0' vs es → Φ es → Q (.ref a) H') → te σ H Q
theorem Go.frzO {a : Addr} {o : HO} (w : Wf C H0 H) (q : Go C H0 H H0' H') (hp : H a = none) (h0 : H0' a = none) (h : H' a = some o) : Go C H0 H (upd H0' a o) H' := by
  have gr : Same H0' (upd H0' a o) := fun b u e => by rw [upd_ne (fun z => by rw [z, h0] at e; cases e)]; exact e
  obtain ⟨he, n⟩ := Go.he w hp
  refine ⟨⟨fun b u e => ?_, q.wf.kp, q.wf.fz.trans gr, fun b u e => ?_, fun c e => ?_⟩, q.fz.trans gr, q.kp, fun b u e => ?_⟩
  · by_cases z : b = a
    · subst z; rw [upd_same] at e; cases e; exact h
    · rw [upd_ne z] at e; exact q.wf.sub b u e
  · by_cases z : b = a
    · subst z; exact .inr he
    · rw [upd_ne z] at e; exact q.wf.nw b u e
  · exact (q.wf.dr c e).keep gr (by rw [upd_ne (fun z => n (by rw [← z]; exact e))]; exact (q.wf.dr c e).no) rfl
  · by_cases z : b = a
    · subst z; exact .inr hp
    · rw [upd_ne z] at e; exact q.nw b u e
/-- e, a new thing, locked for good -/
def tFrzE (te : TE) : TE := fun σ H Q => te σ H fun x H1 => ∃ a u, x = .ref a ∧ H1 a = some u ∧ Mut (some u) ∧ ∀ od, Q (.ref a) (upd H1 a (.frz od u))
theorem pe_frz {X : Cx} {e : Expr} {t : TE} (h : PE X e t) : PE X e (tFrzE t) := by
  refine ⟨fun pins s σ H Q I hw => thn (h.run pins s σ H _ I hw) fun v s1 ⟨x, H1, I1, rx, a, u, ex, ea, mu, q⟩ => ?_⟩
  subst ex
  obtain ⟨od, I2⟩ := I1.lock ea mu
  exact ⟨.ref a, _, I2, rx, q od⟩
def dD (dd : DD) : DE := fun δ Φ => dd δ fun es => Φ (.dict (entD es))
theorem SmD.sm {dd : DD} (h : SmD C te dd) : Sm C f1 (tFrzE te) (dD dd) := fun σ δ H0 H Φ Q s w q =>
  h σ δ H0 H _ _ s w fun H01 H1 a vs es g1 e1 e2 e3 r p => ⟨a, .dK vs, rfl, e3, trivial, fun od => by
    have g2 := Go.frzO s.toWf (Go.wr (o := .frz od (.dK vs)) s.toWf e1 g1 e2) e1 e2 upd_same
    refine q _ _ _ _ g2 (Rp.mono (H := upd H01 a (.frz od (.dK vs))) ?_ ?_) p
    · cases f1
      · exact g2.wf.to
      · exact Same.refl _
    · exact .dic upd_same (r.mono (Go.same_new e2)).rpd⟩
def dAsgD (i : Nat) (dd : DD) : DS := fun E δ => dd δ fun es => ∀ a, E.nx (δ.set i (some (.dct a es)))
theorem sms_asgD {dd : DD} (i : Nat) (h : SmD C te dd) : SmS C (tAsg te (gName i)) (dAsgD i dd) := fun σ δ H0 H E D s w e =>
  h σ δ H0 H _ _ s w fun H01 H1 a vs es g1 e1 e2 e3 r p => by
    refine e.nx H01 H1 _ _ g1.fz ((s.go g1).set_adr (r := .dct a es) i rfl (fun j q b hj hb z => ?_) ⟨rfl, e2, (Go.he s.toWf e1).1, (Go.he s.toWf e1).2, vs, e3, r⟩) (p a)
    subst z
    obtain ⟨v, _, hv⟩ := s.sl j _ hj
    obtain ⟨o, k⟩ := hv.live hb
    rw [e1] at k; cases k
/-- {k: v} -/
def ddOne (dk dv : DE) : DD := fun δ Φ => dk δ fun y => dv δ fun z => ∃ k, y = keyD k ∧ Φ [(k, z)]
theorem smd_one (hk : Sm C false tb db) (hv : Sm C true te de) : SmD C (tDisp [(tb, te)]) (ddOne db de) := fun σ δ H0 H Φ Q s w q => by
  intro p hp
  have gp : Go C H0 H H0 (upd H p (.dK [])) := Go.free s.toWf hp
  have nex := (Go.he s.toWf hp).2
  refine hk σ δ H0 _ _ _ (s.go gp) w fun H01 H1 v x g1 r1 w1 => hv σ δ H01 H1 _ _ ((s.go gp).go g1) w1 fun H02 H2 u y g2 r2 ⟨k, ek, w2⟩ => ?_
  subst ek
  obtain rfl := rp_key r1
  have g12 := g1.trans g2
  have hkk : H2 p = some (.dK []) := g12.kp p _ nex upd_same
  have g0 := gp.trans g12
  have hn : H02 p = none := by
    cases e : H02 p with
    | none => rfl
    | some o =>
      rcases g12.nw p o e with h | h
      · rw [s.toWf.none hp] at h; cases h
      · rw [upd_same] at h; cases h
  have m1 : mergeK [] [(k, u)] = [(k, u)] := by simp [mergeK, putK]
  refine ⟨hkk, [(k, u)], rfl, by simp, ?_⟩
  rw [m1]
  exact q _ _ p [(k, u)] _ (Go.wr (o := .dK [(k, u)]) s.toWf hp g0 hn) hp hn upd_same (.cons r2 .nil) w2
end
/-! ### {key: value for target in source if test}, a new dict -/
def ddDC (di : DI) (own : List Nat) (dg : DG) (dt : DT) (dk dv : DE) : DD := fun δ Φ => di δ fun xs => ∃ I : Nat → List (Key × PyData) → Prop, I 0 [] ∧
  (∀ k y acc, xs[k]? = some y → I k acc → dg y (dwipe δ own) fun δ' => dt δ' fun b => if b = true then dk δ' fun u => dv δ' fun z => ∃ ky, u = keyD ky ∧ acc.length < sizeLine ∧ I (k + 1) (putE acc ky z) else I (k + 1) acc) ∧
  ∀ acc, I xs.length acc → Φ acc
section
variable {C : Ctx} {tk tv : TE} {dk dv : DE} {tt : TT} {dt : DT} {g : TG} {dg : DG} {ti : TI} {di : DI}
theorem smd_dc {own : List Nat} (hk : Kps own g) (hi : SmI C ti di) (hg : SmG C g dg) (ht : SmT C tt dt) (hkk : Sm C true tk dk) (hv : Sm C true tv dv) : SmD C (tDc ti g tt tk tv own) (ddDC di own dg dt dk dv) := fun σ δ H0 H Φ Q s w e =>
  hi σ δ H0 H _ _ s w fun H01 H1 J xs g1 wk ⟨I, i0, it, ie⟩ D hD => by
    have hD0 : H D = none := g1.fresh hD
    refine ⟨fun k m H' => m = xs.length - k ∧ k ≤ xs.length ∧ ∃ H0' us acc, Go C H01 H1 H0' H' ∧ H0' D = none ∧ H' D = some (.dK us) ∧ RpK C.K H0' us acc ∧ I k acc, ⟨_, rfl, Nat.zero_le _, H01, [], [], Go.free g1.wf hD, g1.wf.none hD, upd_same, .nil, i0⟩, ?_⟩
    rintro k m H' ⟨rfl, hk', H0', us, acc, g2, hn, hl, r, p⟩
    have nex : C.ex ≠ some D := (Go.he g1.wf hD).2
    by_cases hlt : k < xs.length
    · refine .inr ⟨wk.go H0' H' k g2.fz g2.wf hlt, fun H3 => ∃ H0' us acc, Go C H01 H1 H0' H3 ∧ H0' D = none ∧ H3 D = some (.dK us) ∧ RpK C.K H0' us acc ∧ I (k + 1) acc, fun H3 h => ⟨_, by omega, rfl, hlt, h⟩, fun v H'' y => ?_⟩
      obtain ⟨H02, z, g3, hz, rz⟩ := wk.yld H0' H' k v H'' g2.fz g2.wf hlt y
      have g23 := g2.trans g3
      have keep : ∀ {A B : Hp}, Go C H02 H'' A B → A D = none ∧ B D = some (.dK us) := fun {A B} gg => by
        have h1 : B D = some (.dK us) := gg.kp D _ nex (g3.kp D _ nex hl)
        refine ⟨?_, h1⟩
        cases e : A D with
        | none => rfl
        | some u =>
          rcases (g3.trans gg).nw D u e with h2 | h2
          · rw [hn] at h2; cases h2
          · rw [hl] at h2; cases h2
      have sw : St C H02 H'' (wipe σ own) (dwipe δ own) := (s.go ((g1.trans g2).trans g3)).wipe own
      have fin := hk v (wipe σ own) H'' _ (hg v z (wipe σ own) (dwipe δ own) H02 H'' _ (fun σ2 H2 => tt σ2 H2 fun b H3 => if b = true then tk σ2 H3 fun y H4 => tv σ2 H4 fun z H5 => ∃ kvs ky, y = kV ky ∧ H5 D = some (.dK kvs) ∧ kvs.length < sizeLine ∧ ∃ H0' us acc', Go C H01 H1 H0' (upd H5 D (.dK (putK kvs ky z))) ∧ H0' D = none ∧ (upd H5 D (.dK (putK kvs ky z))) D = some (.dK us) ∧ RpK C.K H0' us acc' ∧ I (k + 1) acc' else ∃ H0' us acc, Go C H01 H1 H0' H3 ∧ H0' D = none ∧ H3 D = some (.dK us) ∧ RpK C.K H0' us acc ∧ I (k + 1) acc) sw rz (it k z acc hz p) fun σ2 δ2 s2 w2 => ?_)
      · rw [wipe_wipe] at fin
        exact fin
      · refine ht _ _ H02 H'' _ _ s2 w2 fun H04 H4 b g4 w4 => ?_
        cases b with
        | false => exact iteF ⟨H04, us, acc, g23.trans g4, (keep g4).1, (keep g4).2, r.mono (g3.fz.trans g4.fz), by simpa using w4⟩
        | true =>
          refine iteT (hkk _ _ H04 H4 (fun u => dv δ2 fun z => ∃ ky, u = keyD ky ∧ acc.length < sizeLine ∧ I (k + 1) (putE acc ky z)) _ (s2.go g4) (by simpa using w4) fun H05 H5 y' u' g5 r5 w5 => ?_)
          refine hv _ _ H05 H5 (fun z => ∃ ky, u' = keyD ky ∧ acc.length < sizeLine ∧ I (k + 1) (putE acc ky z)) _ ((s2.go g4).go g5) w5 fun H06 H6 y6 z6 g6 r6 ⟨ky, eu, w6, p6⟩ => ?_
          subst eu
          obtain rfl := rp_key r5
          have k6 := keep ((g4.trans g5).trans g6)
          refine ⟨us, ky, rfl, k6.2, by rw [r.length]; exact w6, H06, _, putE acc ky z6, ?_, k6.1, upd_same, (r.mono (g3.fz.trans (g4.fz.trans (g5.fz.trans g6.fz)))).put r6, p6⟩
          have gg := ((g23.trans g4).trans g5).trans g6
          refine ⟨⟨fun b u e => ?_, fun b u n e => ?_, gg.wf.fz, gg.wf.nw, fun c e => ?_⟩, gg.fz, fun b u n e => ?_, gg.nw⟩
          · rw [upd_ne (fun z => by rw [z, k6.1] at e; cases e)]; exact gg.wf.sub b u e
          · rw [upd_ne (fun z => by rw [z, (Go.he g1.wf hD).1] at e; cases e)]; exact gg.wf.kp b u n e
          · exact (gg.wf.dr c e).keep (Same.refl _) (gg.wf.dr c e).no (upd_ne (fun z => nex (by rw [← z]; exact e)))
          · rw [upd_ne (fun z => by rw [z, hD] at e; cases e)]; exact gg.kp b u n e
    · have hk' : k = xs.length := by omega
      refine .inl ⟨wk.stop H0' H' k g2.fz g2.wf (by omega), ?_⟩
      have gg := g1.trans g2
      exact e H0' H' D us acc gg (g1.fresh hD |> fun _ => by
        cases z : H D with
        | none => rfl
        | some u => exact absurd (Go.fresh g1 hD) (by rw [z]; exact fun q => nomatch q)) hn hl r (ie acc (hk' ▸ p))
end
end VL

namespace Toy
open PySem PySem.Spec PyProof.Rows L2 VL
def topS (i : Nat) : Stmt := PySem.Challenge.pw_burnish_k20_graph_of_a_function.main.body.getD i (.Pass ⟨0, 0, 0, 0⟩)
abbrev swalk : Stmt := topS 1
theorem sc_walk : FnScope ["targets", "entered", "left", "parents", "seen", "trail", "row", "target", "node", "slot"] ["targets"] (defScope swalk) := ⟨rfl, rfl, rfl, by decide +kernel, rfl, by decide +kernel, by decide +kernel⟩
abbrev sedges : Stmt := topS 3
theorem sc_edges : FnScope ["end", "case"] ["end"] (defScope sedges) := ⟨rfl, rfl, rfl, by decide +kernel, rfl, by decide +kernel, by decide +kernel⟩
abbrev sgraph_of : Stmt := topS 5
theorem sc_graph_of : FnScope ["function", "rows", "block", "label", "_"] ["function"] (defScope sgraph_of) := ⟨rfl, rfl, rfl, by decide +kernel, rfl, by decide +kernel, by decide +kernel⟩
abbrev snode_targets : Stmt := topS 6
theorem sc_node_targets : FnScope ["graph", "numbers", "number", "target", "_", "targets", "label"] ["graph"] (defScope snode_targets) := ⟨rfl, rfl, rfl, by decide +kernel, rfl, by decide +kernel, by decide +kernel⟩
abbrev sbackwards : Stmt := topS 7
theorem sc_backwards : FnScope ["graph", "found", "label", "targets", "target", "_"] ["graph"] (defScope sbackwards) := ⟨rfl, rfl, rfl, by decide +kernel, rfl, by decide +kernel, by decide +kernel⟩
abbrev sreachable : Stmt := topS 8
theorem sc_reachable : FnScope ["graph"] ["graph"] (defScope sreachable) := ⟨rfl, rfl, rfl, by decide +kernel, rfl, by decide +kernel, by decide +kernel⟩
abbrev sreverse_postorder : Stmt := topS 9
theorem sc_reverse_postorder : FnScope ["graph", "left", "number"] ["graph"] (defScope sreverse_postorder) := ⟨rfl, rfl, rfl, by decide +kernel, rfl, by decide +kernel, by decide +kernel⟩
abbrev scritical_edges : Stmt := topS 10
theorem sc_critical_edges : FnScope ["graph", "counts", "found", "_", "targets", "target", "label", "slot"] ["graph"] (defScope scritical_edges) := ⟨rfl, rfl, rfl, by decide +kernel, rfl, by decide +kernel, by decide +kernel⟩
abbrev s_law_draw : Stmt := topS 12
theorem sc__law_draw : FnScope ["script", "seed", "cell"] ["script"] (defScope s_law_draw) := ⟨rfl, rfl, rfl, by decide +kernel, rfl, by decide +kernel, by decide +kernel⟩
abbrev s_law_take : Stmt := topS 13
theorem sc__law_take : FnScope ["draw", "many", "found"] ["draw", "many"] (defScope s_law_take) := ⟨rfl, rfl, rfl, by decide +kernel, rfl, by decide +kernel, by decide +kernel⟩
abbrev s_law_same : Stmt := topS 14
theorem sc__law_same : FnScope ["one", "two", "k"] ["one", "two"] (defScope s_law_same) := ⟨rfl, rfl, rfl, by decide +kernel, rfl, by decide +kernel, by decide +kernel⟩
abbrev s_law_labels : Stmt := topS 15
theorem sc__law_labels : FnScope ["draw", "many", "first", "gap", "labels", "k"] ["draw"] (defScope s_law_labels) := ⟨rfl, rfl, rfl, by decide +kernel, rfl, by decide +kernel, by decide +kernel⟩
abbrev s_law_graph : Stmt := topS 16
theorem sc__law_graph : FnScope ["draw", "back", "labels", "many", "rows", "k", "targets", "j", "choice", "at"] ["draw", "back"] (defScope s_law_graph) := ⟨rfl, rfl, rfl, by decide +kernel, rfl, by decide +kernel, by decide +kernel⟩
abbrev s_law_targets : Stmt := topS 17
theorem sc__law_targets : FnScope ["graph", "label", "row"] ["graph", "label"] (defScope s_law_targets) := ⟨rfl, rfl, rfl, by decide +kernel, rfl, by decide +kernel, by decide +kernel⟩
abbrev s_law_reached : Stmt := topS 18
theorem sc__law_reached : FnScope ["graph", "first", "cut", "found", "k", "label", "target"] ["graph", "first", "cut"] (defScope s_law_reached) := ⟨rfl, rfl, rfl, by decide +kernel, rfl, by decide +kernel, by decide +kernel⟩
abbrev s_law_end : Stmt := topS 20
theorem sc__law_end : FnScope ["draw", "targets", "k", "edges_v", "cases", "target", "j"] ["draw", "targets", "k"] (defScope s_law_end) := ⟨rfl, rfl, rfl, by decide +kernel, rfl, by decide +kernel, by decide +kernel⟩
abbrev slaw : Stmt := topS 21
theorem sc_law : FnScope ["script", "draw", "graph", "blocks", "sources", "row", "edges_v", "label", "due", "targets", "slot", "k", "other", "target"] ["script"] (defScope slaw) := ⟨rfl, rfl, rfl, by decide +kernel, rfl, by decide +kernel, by decide +kernel⟩
structure Txt (K : PySem.W.Frag) (mg : Str → Option Value) where
  f_walk : Addr
  fd_walk : FuncData
  F_walk : Fun K "walk" "walk" swalk f_walk fd_walk
  g_walk : mg "walk" = some (.ref f_walk)
  b_walk : Binds K fd_walk ["targets"] []
  f_edges : Addr
  fd_edges : FuncData
  F_edges : Fun K "edges" "edges" sedges f_edges fd_edges
  g_edges : mg "edges" = some (.ref f_edges)
  b_edges : Binds K fd_edges ["end"] []
  f_graph_of : Addr
  fd_graph_of : FuncData
  F_graph_of : Fun K "graph_of" "graph_of" sgraph_of f_graph_of fd_graph_of
  g_graph_of : mg "graph_of" = some (.ref f_graph_of)
  b_graph_of : Binds K fd_graph_of ["function"] []
  f_node_targets : Addr
  fd_node_targets : FuncData
  F_node_targets : Fun K "node_targets" "node_targets" snode_targets f_node_targets fd_node_targets
  g_node_targets : mg "node_targets" = some (.ref f_node_targets)
  b_node_targets : Binds K fd_node_targets ["graph"] []
  f_backwards : Addr
  fd_backwards : FuncData
  F_backwards : Fun K "backwards" "backwards" sbackwards f_backwards fd_backwards
  g_backwards : mg "backwards" = some (.ref f_backwards)
  b_backwards : Binds K fd_backwards ["graph"] []
  f_reachable : Addr
  fd_reachable : FuncData
  F_reachable : Fun K "reachable" "reachable" sreachable f_reachable fd_reachable
  g_reachable : mg "reachable" = some (.ref f_reachable)
  b_reachable : Binds K fd_reachable ["graph"] []
  f_reverse_postorder : Addr
  fd_reverse_postorder : FuncData
  F_reverse_postorder : Fun K "reverse_postorder" "reverse_postorder" sreverse_postorder f_reverse_postorder fd_reverse_postorder
  g_reverse_postorder : mg "reverse_postorder" = some (.ref f_reverse_postorder)
  b_reverse_postorder : Binds K fd_reverse_postorder ["graph"] []
  f_critical_edges : Addr
  fd_critical_edges : FuncData
  F_critical_edges : Fun K "critical_edges" "critical_edges" scritical_edges f_critical_edges fd_critical_edges
  g_critical_edges : mg "critical_edges" = some (.ref f_critical_edges)
  b_critical_edges : Binds K fd_critical_edges ["graph"] []
  f__law_draw : Addr
  fd__law_draw : FuncData
  F__law_draw : Fun K "_law_draw" "_law_draw" s_law_draw f__law_draw fd__law_draw
  g__law_draw : mg "_law_draw" = some (.ref f__law_draw)
  b__law_draw : Binds K fd__law_draw ["script"] []
  f__law_take : Addr
  fd__law_take : FuncData
  F__law_take : Fun K "_law_take" "_law_take" s_law_take f__law_take fd__law_take
  g__law_take : mg "_law_take" = some (.ref f__law_take)
  b__law_take : Binds K fd__law_take ["draw", "many"] []
  f__law_same : Addr
  fd__law_same : FuncData
  F__law_same : Fun K "_law_same" "_law_same" s_law_same f__law_same fd__law_same
  g__law_same : mg "_law_same" = some (.ref f__law_same)
  b__law_same : Binds K fd__law_same ["one", "two"] []
  f__law_labels : Addr
  fd__law_labels : FuncData
  F__law_labels : Fun K "_law_labels" "_law_labels" s_law_labels f__law_labels fd__law_labels
  g__law_labels : mg "_law_labels" = some (.ref f__law_labels)
  b__law_labels : Binds K fd__law_labels ["draw"] []
  f__law_graph : Addr
  fd__law_graph : FuncData
  F__law_graph : Fun K "_law_graph" "_law_graph" s_law_graph f__law_graph fd__law_graph
  g__law_graph : mg "_law_graph" = some (.ref f__law_graph)
  b__law_graph : Binds K fd__law_graph ["draw", "back"] []
  f__law_targets : Addr
  fd__law_targets : FuncData
  F__law_targets : Fun K "_law_targets" "_law_targets" s_law_targets f__law_targets fd__law_targets
  g__law_targets : mg "_law_targets" = some (.ref f__law_targets)
  b__law_targets : Binds K fd__law_targets ["graph", "label"] []
  f__law_reached : Addr
  fd__law_reached : FuncData
  F__law_reached : Fun K "_law_reached" "_law_reached" s_law_reached f__law_reached fd__law_reached
  g__law_reached : mg "_law_reached" = some (.ref f__law_reached)
  b__law_reached : Binds K fd__law_reached ["graph", "first", "cut"] []
  f__law_end : Addr
  fd__law_end : FuncData
  F__law_end : Fun K "_law_end" "_law_end" s_law_end f__law_end fd__law_end
  g__law_end : mg "_law_end" = some (.ref f__law_end)
  b__law_end : Binds K fd__law_end ["draw", "targets", "k"] []
  f_law : Addr
  fd_law : FuncData
  F_law : Fun K "law" "law" slaw f_law fd_law
  g_law : mg "law" = some (.ref f_law)
  b_law : Binds K fd_law ["script"] []
  len : mg "len" = none
  tuple : mg "tuple" = none
  enumerate : mg "enumerate" = none
  sorted : mg "sorted" = none
  reversed : mg "reversed" = none
  int : mg "int" = none
  abs : mg "abs" = none
  isinstance : mg "isinstance" = none
  all : mg "all" = none
  bool : mg "bool" = none
  range : mg "range" = none
  min : mg "min" = none
  max : mg "max" = none
  dict : mg "dict" = none
section
variable {P : Program} {w : World} {K : PySem.W.Frag} {mg : Str → Option Value} {base : Heap}
/-! ### the numbers that the law draws -/
theorem seed_ok {x y : Int} (h : 0 ≤ x) (h2 : x < 2147483647) (h3 : 0 ≤ y) : 0 ≤ (x * 48271 + y) % 2147483647 ∧ (x * 48271 + y) % 2147483647 < 2147483647 :=
  ⟨Int.emod_nonneg _ (by decide), Int.emod_lt_of_pos _ (by decide)⟩
theorem G__law_take (T : Txt K mg) : FnOk P w K mg base CX0 1 T.f__law_take T.fd__law_take ["draw", "many"] (toSp K 2 spTake) := by
  refine T.F__law_take.ok sc__law_take (fun vs H Q E h => h.1) (fun cdv A outer s H vs Q E hr h => ?_)
  obtain ⟨_, ex, H0, rs, Φ, wf, ra, ⟨many, rfl, ⟨h0, hm⟩, hΦ⟩, q⟩ := h
  obtain ⟨p, vm, rfl, hp, hvm, hnt⟩ : ∃ p vm, vs = [.ref p, vm] ∧ ex = some p ∧ vm = .int many ∧ ¬ IsTb H p := by
    cases ra with
    | cons a r =>
      cases r with
      | cons b r2 =>
        cases r2
        obtain ⟨p, h1, rfl, h3⟩ := a
        cases b
        exact ⟨p, _, rfl, h1, rfl, h3⟩
  subst hvm
  subst hp
  have hn := (wf.dr p rfl).no
  obtain ⟨c, i, v, sd, cells, hH, hc, hcell, hi, hv, hs0, hs1⟩ := (wf.dr p rfl).draw hnt
  have hcH : H c = some (.lst (cells.map V.int)) := wf.sub _ _ hc
  have hcp : c ≠ p := fun z => by rw [z, hn] at hc; cases hc
  have wr : ∀ (i' v' s' : Int), -1 ≤ i' → 0 ≤ v' → 0 ≤ s' → s' < 2147483647 → Wf ⟨K, some p, H, H0⟩ H0 (upd H p (.lst [.ref c, .int i', .int v', .int s'])) := fun i' v' s' a1 a2 a3 a4 =>
    wf.draw (i := i) (v := v) (s := sd) rfl hH a1 a2 a3 a4
  refine ⟨_, (pss_cons (ps_if (pt_cmpR op_eq (pe_ix ix_list (pv 0) pe_int (fun _ _ => rfl)) pe_int (nomark _)) (pss_cons (ps_asg (pe_op op_add (pe_ix ix_list (pv 0) pe_int (fun _ _ => rfl)) pe_int) (pg_sub (pv 0) pe_int set_list))
 (pss_cons (ps_if (pt_cmpR op_lt (pe_ix ix_list (pv 0) pe_int (fun _ _ => rfl)) (pe_callB call_len_seq (by rfl) T.len PySem.boot_len (pa_cons (pe_ix ix_list (pv 0) pe_int (fun _ _ => rfl)) pa_nil)) (nomark _)) (pss_one (ps_asg (pe_ix ix_list (pe_ix ix_list (pv 0) pe_int (fun _ _ => rfl)) (pe_ix ix_list (pv 0) pe_int (fun _ _ => rfl)) (fun _ _ => rfl)) (pg_sub (pv 0) pe_int set_list))) pss_nil)
 (pss_one (ps_if (pt_cmpR op_eq (pe_ix ix_list (pv 0) pe_int (fun _ _ => rfl)) pe_int (nomark _)) (pss_cons (ps_asg (pe_op op_mod (pe_callTy call_int1 (by rfl) T.int (by decide +kernel) (pa_cons (pe_op op_add (pe_op op_mul (pe_ix ix_list (pv 0) pe_int (fun _ _ => rfl)) pe_int) pe_int) pa_nil)) pe_int) (pg_sub (pv 0) pe_int set_list))
 (pss_one (ps_asg (pe_ix ix_list (pv 0) pe_int (fun _ _ => rfl)) (pg_sub (pv 0) pe_int set_list)))) pss_nil)))) pss_nil)
 (pss_cons (ps_set (i := 2) sc__law_take.nd rfl (Or.inl rfl) (pe_op op_mod (pe_callTy call_int1 (by rfl) T.int (by decide +kernel) (pa_cons (pe_ix ix_list (pv 0) pe_int (fun _ _ => rfl)) pa_nil)) (pv 1)))
 (pss_cons (ps_asg (pe_op op_fdivW (pe_ix ix_list (pv 0) pe_int (fun _ _ => rfl)) (pv 1)) (pg_sub (pv 0) pe_int set_list))
 (pss_one (ps_ret (pv 2)))))), ?_⟩
  -- what stands behind the first test
  have rest : ∀ (i' v' s' : Int), -1 ≤ i' → 0 ≤ v' → 0 ≤ s' → s' < 2147483647 → ∀ H', H' p = some (.lst [.ref c, .int i', .int v', .int s']) → (∀ v2 : Int, upd H' p (.lst [.ref c, .int i', .int v2, .int s']) = upd H p (.lst [.ref c, .int i', .int v2, .int s'])) →
      (∀ D : Ends, D.rt = Q → tSeq (tAsg (tOp (rI (fun _ j => 0 < j) fun i j => .int (i % j)) (tCB (fun xs H Q => (∃ i, xs = [.int i] ∧ Q (.int i) H) ∨ ∃ k, xs = [.bl k] ∧ Q (.int (if k then 1 else 0)) H) (tCons (tOp (rIxL K) (tVar 0) (tC (.int 2))) tNil)) (tVar 1)) (gName 2))
        (tSeq (tAsg (tOp (rI CDivW fun i j => .int (i / j)) (tOp (rIxL K) (tVar 0) (tC (.int 2))) (tVar 1)) (gSub (tVar 0) (tC (.int 2)) rSetL)) (tRet (tVar 2))) D [some (.ref p), some (.int many), none] H') := by
    intro i' v' s' a1 a2 a3 a4 H' hp he D hD
    refine ⟨_, rfl, _, _, _, _, rfl, rfl, SqL.of hp, rfl, .inl ⟨v', rfl, _, rfl, v', many, rfl, rfl, h0, ?_⟩⟩
    refine ⟨_, rfl, _, _, _, _, rfl, rfl, SqL.of hp, rfl, _, rfl, v', many, rfl, rfl, wide_div h0 hm (by decide) (by decide), _, rfl, p, _, 2, 2, rfl, rfl, hp, rfl, ?_⟩
    refine ⟨_, rfl, ?_⟩
    show D.rt (.int (v' % many)) (upd H' p (.lst [.ref c, .int i', .int (v' / many), .int s']))
    rw [hD, he]
    exact q H0 _ _ (.d (.int (v' % many))) (wr i' (v' / many) s' a1 (Int.ediv_nonneg a2 (Int.le_of_lt h0)) a3 a4) (.int _) (hΦ _ (Int.emod_nonneg _ (by omega)) (Int.emod_lt_of_pos _ h0))
  refine ⟨_, rfl, _, _, _, _, rfl, rfl, SqL.of hH, rfl, rfl, _, rfl, ite2 (fun e => ?_) (fun e => rest i v sd hi hv hs0 hs1 H hH (fun _ => rfl) _ rfl)⟩
  -- draw[1] = draw[1] + 1
  refine ⟨_, rfl, _, _, _, _, rfl, rfl, SqL.of hH, rfl, _, _, rfl, rfl, _, rfl, p, _, 1, 1, rfl, rfl, hH, rfl, ?_⟩
  have h1 : (upd H p (.lst [.ref c, .int (i + 1), .int v, .int sd])) p = some (.lst [.ref c, .int (i + 1), .int v, .int sd]) := upd_same
  have h1c : (upd H p (.lst [.ref c, .int (i + 1), .int v, .int sd])) c = some (.lst (cells.map V.int)) := by rw [upd_ne hcp]; exact hcH
  -- the last part: a new number, if there is none
  have last : ∀ (v' : Int), 0 ≤ v' → ∀ (H' : Hp) (D : Ends), H' p = some (.lst [.ref c, .int (i + 1), .int v', .int sd]) → (∀ o, upd H' p o = upd H p o) → (∀ v2 s2, 0 ≤ v2 → 0 ≤ s2 → s2 < 2147483647 → ∀ H2, H2 p = some (.lst [.ref c, .int (i + 1), .int v2, .int s2]) → (∀ o, upd H2 p o = upd H p o) → D.nx [some (.ref p), some (.int many), none] H2) →
      tIfS (tTest (tOp rEq (tOp (rIxL K) (tVar 0) (tC (.int 2))) (tC (.int 0)))) (tSeq (tAsg (tOp (rI (fun _ j => 0 < j) fun i j => .int (i % j)) (tCB (fun xs H Q => (∃ i, xs = [.int i] ∧ Q (.int i) H) ∨ ∃ k, xs = [.bl k] ∧ Q (.int (if k then 1 else 0)) H) (tCons (tOp (rI0 fun i j => .int (i + j)) (tOp (rI CMul fun i j => .int (i * j)) (tOp (rIxL K) (tVar 0) (tC (.int 3))) (tC (.int 48271))) (tC (.int 11))) tNil)) (tC (.int 2147483647))) (gSub (tVar 0) (tC (.int 3)) rSetL))
        (tAsg (tOp (rIxL K) (tVar 0) (tC (.int 3))) (gSub (tVar 0) (tC (.int 2)) rSetL))) tNext D [some (.ref p), some (.int many), none] H' := by
    intro v' hv' H' D hp' ho hD
    refine ⟨_, rfl, _, _, _, _, rfl, rfl, SqL.of hp', rfl, rfl, _, rfl, ite2 (fun e => ?_) (fun e => hD v' sd hv' hs0 hs1 H' hp' ho)⟩
    refine ⟨_, rfl, _, _, _, _, rfl, rfl, SqL.of hp', rfl, _, _, rfl, rfl, .inl ⟨by omega, by omega⟩, _, _, rfl, rfl, .inl ⟨_, rfl, _, _, rfl, rfl, (by show (0 : Int) < 2147483647; decide), _, rfl, p, _, 3, 3, rfl, rfl, hp', rfl, ?_⟩⟩
    obtain ⟨g1, g2⟩ := seed_ok (y := 11) hs0 hs1 (by decide)
    refine ⟨_, rfl, _, _, _, _, rfl, rfl, SqL.of upd_same, rfl, _, rfl, p, _, 2, 2, rfl, rfl, upd_same, rfl, ?_⟩
    refine hD _ _ g1 g1 g2 _ upd_same (fun o => ?_)
    rw [upd_upd, upd_upd, ho]
  -- if draw[1] < len(draw[0])
  refine ⟨_, rfl, _, _, _, _, rfl, rfl, SqL.of h1, rfl, _, rfl, _, _, _, _, rfl, rfl, SqL.of h1, rfl, c, _, rfl, .inl (SqL.of h1c), _, _, rfl, rfl, _, rfl, ite2 (fun e2 => ?_) (fun e2 => ?_)⟩
  · have e3 : i + 1 < (cells.length : Int) := by
      have := of_decide_eq_true e2
      rw [List.length_map] at this
      exact this
    obtain ⟨j, hj⟩ : ∃ j : Nat, i + 1 = (j : Int) := ⟨(i + 1).toNat, by omega⟩
    have hjl : j < cells.length := by omega
    have hx : (cells.map V.int)[j]? = some (.int cells[j]) := by rw [List.getElem?_map, List.getElem?_eq_getElem hjl]; rfl
    refine ⟨_, rfl, _, _, _, _, rfl, rfl, SqL.of h1, rfl, _, rfl, _, _, _, _, rfl, rfl, SqL.of h1, rfl, c, _, _, _, rfl, rfl, SqL.of h1c, (by rw [hj]; exact atI_nat hx), _, rfl, p, _, 2, 2, rfl, rfl, h1, rfl, ?_⟩
    refine last cells[j] (hcell _ (List.getElem_mem _)) _ _ upd_same (fun o => by rw [upd_upd, upd_upd]) (fun v2 s2 b1 b2 b3 H2 hp2 ho2 => ?_)
    exact rest (i + 1) v2 s2 (by omega) b1 b2 b3 H2 hp2 (fun _ => ho2 _) _ rfl
  · refine last v hv _ _ h1 (fun o => by rw [upd_upd]) (fun v2 s2 b1 b2 b3 H2 hp2 ho2 => ?_)
    exact rest (i + 1) v2 s2 (by omega) b1 b2 b3 H2 hp2 (fun _ => ho2 _) _ rfl
theorem len__law_take : ∀ rs Φ, spTake rs Φ → rs.length = 2 := spTake_len
theorem G__law_draw (T : Txt K mg) : FnOk P w K mg base CX0 1 T.f__law_draw T.fd__law_draw ["script"] (spDraw K) := by
  refine T.F__law_draw.ok sc__law_draw (fun vs H Q E h => ?_) (fun cdv A outer s H vs Q E hr h => ?_)
  · obtain ⟨a, ns, rfl, _⟩ := h
    rfl
  · obtain ⟨a, ns, rfl, hS, hlen, k⟩ := h
    refine ⟨_, (pss_cons (ps_set (i := 1) sc__law_draw.nd rfl (Or.inl rfl) pe_int)
 (pss_cons (ps_for PassesOwn.never rfl ((kpi_list (K := K) rfl (pv 0))) (pg_name (i := 2) sc__law_draw.nd rfl (Or.inl rfl)) (pss_one (ps_set (i := 1) sc__law_draw.nd rfl (Or.inl rfl) (pe_op op_mod (pe_callTy call_int1 (by rfl) T.int (by decide +kernel) (pa_cons (pe_op op_add (pe_op op_add (pe_op op_mul (pv 1) pe_int) (pe_op op_mod (pe_callB call_abs (by rfl) T.abs (by decide +kernel) (pa_cons (pe_callTy call_int1 (by rfl) T.int (by decide +kernel) (pa_cons (pv 2) pa_nil)) pa_nil)) pe_int)) pe_int) pa_nil)) pe_int))))
 (pss_one (ps_ret (pe_lst (pa_cons (pe_lc (own := [("cell", 2)]) (g := gName 2) (tt := tYes) rfl sc__law_draw.nd ((kpi_list (K := K) rfl (pv 0))) (blkOk_by (N := ["script", "seed", "cell"]) (sc := defScope s_law_draw) (by decide +kernel)) (fun _ _ _ _ _ => pg_name (i := 2) sc__law_draw.nd rfl (Or.inl rfl)) (fun _ _ _ _ _ => pts_nil) (fun _ _ _ _ _ => (pe_callB call_abs (by rfl) T.abs (by decide +kernel) (pa_cons (pe_callTy call_int1 (by rfl) T.int (by decide +kernel) (pa_cons (pv 2) pa_nil)) pa_nil)))) (pa_cons (pe_un un_neg pe_int) (pa_cons pe_int (pa_cons (pv 1) pa_nil))))))))), ?_⟩
    refine ⟨_, rfl, a, rfl, ⟨_, hS⟩, for_list (K := K) (a := a) (xs := ns.map V.int) (fun i σ H' => ∃ (z : Int) (v : Option V), σ = [some (.ref a), some (.int z), v] ∧ H' = H ∧ 0 ≤ z ∧ z < 2147483647)
      ⟨7, none, rfl, rfl, by decide, by decide⟩ (fun i σ H' _ ⟨_, _, _, e, _⟩ => e ▸ hS) ?_ ?_⟩
    · rintro i y σ H' hi ⟨z, v, rfl, rfl, z0, z1⟩
      obtain ⟨u, rfl⟩ : ∃ u, y = V.int u := by
        rw [List.getElem?_map] at hi
        cases e : ns[i]? with
        | none => rw [e] at hi; cases hi
        | some u => rw [e] at hi; exact ⟨u, (Option.some.inj hi).symm⟩
      refine ⟨_, rfl, _, _, rfl, rfl, .inl ⟨by omega, by omega⟩, _, rfl, .inl ⟨_, rfl, _, rfl, _, _, rfl, rfl, (by show (0 : Int) < 65521; decide), _, _, rfl, rfl, _, _, rfl, rfl, .inl ⟨_, rfl, _, _, rfl, rfl, (by show (0 : Int) < 2147483647; decide), ?_⟩⟩⟩
      exact ⟨_, some (.int u), rfl, rfl, Int.emod_nonneg _ (by decide), Int.emod_lt_of_pos _ (by decide)⟩
    · rintro σ H' ⟨z, v, rfl, rfl, z0, z1⟩
      refine ⟨_, rfl, a, rfl, ⟨_, hS⟩, fun D hD => lc_list (K := K) (a := a) (xs := ns.map V.int) (fun i H2 => ∃ cells : List Int, H2 = upd H' D (.lst (cells.map V.int)) ∧ (∀ x ∈ cells, 0 ≤ x) ∧ cells.length ≤ i)
        ⟨[], rfl, fun _ h => (nomatch h), Nat.le_refl _⟩ (fun i H2 hi ⟨cells, e, _⟩ => ?_) ?_ ?_⟩
      · have sm : Same H' (upd H' D (.lst (cells.map V.int))) := fun b o e => by rw [upd_ne (ne_of_none e hD)]; exact e
        rw [e]
        exact sm.seq hS
      · rintro i y H2 hi ⟨cells, rfl, hc, hl⟩
        have hi63 : i < ns.length := by
          have q := (List.getElem?_eq_some_iff.mp hi).1
          rw [List.length_map] at q
          exact q
        obtain ⟨u, rfl⟩ : ∃ u, y = V.int u := by
          rw [List.getElem?_map] at hi
          cases e : ns[i]? with
          | none => rw [e] at hi; cases hi
          | some u => rw [e] at hi; exact ⟨u, (Option.some.inj hi).symm⟩
        refine ⟨rfl, ?_⟩
        unfold tYes
        dsimp only
        rw [if_pos rfl]
        refine ⟨_, rfl, .inl ⟨_, rfl, _, rfl, cells.map V.int, upd_same, ?_, cells ++ [if u < 0 then -u else u], ?_, ?_, ?_⟩⟩
        · rw [List.length_map]
          exact Nat.lt_of_le_of_lt (Nat.le_trans hl (Nat.le_of_lt (Nat.lt_of_lt_of_le hi63 hlen))) (by decide)
        · rw [upd_upd, List.map_append]
          rfl
        · intro x hx
          rcases List.mem_append.mp hx with hx | hx
          · exact hc x hx
          · rw [List.mem_singleton.mp hx]
            split <;> omega
        · rw [List.length_append]
          exact Nat.add_le_add_right hl 1
      · rintro H2 ⟨cells, rfl, hc, hl⟩
        refine ⟨_, rfl, ?_⟩
        refine ⟨_, rfl, (by show 4 ≤ sizeLine; decide), fun p hp => ?_⟩
        have np : D ≠ p := fun z => by rw [← z, upd_same] at hp; cases hp
        refine k _ p D z cells (fun b o e => ?_) upd_same ?_ np hc z0 z1
        · have e1 : upd H' D (.lst (cells.map V.int)) b = some o := by rw [upd_ne (ne_of_none e hD)]; exact e
          rw [upd_ne (ne_of_none e1 hp)]
          exact e1
        · rw [upd_ne np]
          exact upd_same

/-- the law's own call: how its row is made, then its body by data -/
theorem law_in {Kl : PySem.W.Frag} {a : Addr} {ns : List Int} {H : Hp} {Q : VK} {n : Nat} {t : TS} {d : DS} (hS : SqL Kl H a (ns.map V.int)) (hlen : ns.length ≤ 63) (k : ∀ H', Q (.bl true) H') (hd : ∀ (ex : Option Addr) (He Hf : Hp), SmS ⟨Kl, ex, He, Hf⟩ t d)
    (hp : ∀ raw : V, d { nx := fun _ => False, rt := fun r => r = .d (.bool true) } (some (.raw raw) :: some .drw :: List.replicate n none)) {E : XK} :
    tSeq (tAsg (tCall (spDraw Kl) [] E (tCons (tVar 0) tNil)) (gName 1)) t { nx := fun _ H' => Q .non H', rt := Q } (some (.ref a) :: none :: List.replicate n none) H :=
  ⟨.ref a, rfl, a, ns, rfl, hS, hlen, fun H' p c sd cells sm h1 h2 h3 h4 h5 h6 => law_start h1 h2 h3 h4 h5 h6 hd k hp⟩

/-! ### the law's own comparison of equal data, by a comprehension -/
theorem alc0 {p : PyData → Prop} : ∀ y ∈ ([] : List PyData), p y := fun _ h => nomatch h
theorem alcc {p : PyData → Prop} {a : PyData} {l : List PyData} (h : p a) (k : ∀ y ∈ l, p y) : ∀ y ∈ a :: l, p y := List.forall_mem_cons.mpr ⟨h, k⟩
theorem almm {α : Type} {p : PyData → Prop} {f : α → PyData} {xs : List α} (h : ∀ x ∈ xs, p (f x)) : ∀ y ∈ xs.map f, p y := fun y hy => by
  obtain ⟨x, hx, rfl⟩ := List.mem_map.mp hy
  exact h x hx
theorem okTT {n : Nat} {xs : List PyData} (hl : xs.length ≤ 1000) (h : ∀ y ∈ xs, Okd n y) : Okd (n + 1) (.tuple xs) := .tuple h (by omega)
theorem okd_eqv {n : Nat} {x : PyData} (h : Okd n x) : PyData.eqv x x = true := PySem.SeqAt.eqv_refl x h.lay
theorem all_rep (n : Nat) : (List.replicate n true).all id = true := by
  rw [List.all_eq_true]
  intro x hx
  exact List.eq_of_mem_replicate hx
def vp__law_same (n : Nat) : VSp := fun rs Φ => ∃ x : PyData, rs = [.d x, .d x] ∧ (∃ m, m < n ∧ Okd m x) ∧ Φ (.d (.bool true))
theorem len__law_same {n : Nat} : ∀ rs Φ, vp__law_same n rs Φ → rs.length = 2 := fun rs Φ ⟨_, e, _⟩ => by rw [e]; rfl
theorem same_at {n : Nat} (hn : n ≤ 40) (T : Txt K mg) : FnOk P w K mg base CX0 (n + 1) T.f__law_same T.fd__law_same ["one", "two"] (toSp K 2 (vp__law_same n)) := by
  induction n with
  | zero => exact ⟨fun vs H Q E h => h.1, fun A outer s H args us vs Q E _ _ _ _ h => by
      obtain ⟨_, _, _, _, _, _, _, ⟨x, _, ⟨m, h, _⟩, _⟩, _⟩ := h
      exact absurd h (Nat.not_lt_zero _)⟩
  | succ n ih0 =>
    have ih := ih0 (by omega)
    refine fn_ok T.F__law_same sc__law_same fun cdv A outer s H E hr => ⟨_, (pss_cons (ps_if (PW.pt (pw_and (pt_val (pe_callB (kx_isi (K := K) rfl) (by rfl) T.isinstance (by decide +kernel) (pa_cons (pv 0) (pa_cons (pe_bltn (v := .ty "tuple") (by rfl) T.tuple (by decide +kernel) rfl) pa_nil)))) (pw_and1 (pt_val (pe_callB (kx_isi (K := K) rfl) (by rfl) T.isinstance (by decide +kernel) (pa_cons (pv 1) (pa_cons (pe_bltn (v := .ty "tuple") (by rfl) T.tuple (by decide +kernel) rfl) pa_nil))))))) (pss_cons (ps_if (pt_cmpR op_ne (pe_callB (kx_len (K := K) rfl) (by rfl) T.len PySem.boot_len (pa_cons (pv 0) pa_nil)) (pe_callB (kx_len (K := K) rfl) (by rfl) T.len PySem.boot_len (pa_cons (pv 1) pa_nil)) (nomark _)) (pss_one (ps_ret pe_bl)) pss_nil)
 (pss_one (ps_ret (pe_callB (cr_all rfl) (by rfl) T.all (by decide +kernel) (pa_cons (pe_lc (own := [("k", 2)]) (g := gName 2) (tt := tYes) rfl sc__law_same.nd (pi_range1 rfl T.range (pa_cons (pe_callB (kx_len (K := K) rfl) (by rfl) T.len PySem.boot_len (pa_cons (pv 0) pa_nil)) pa_nil)) (blkOk_by (N := ["one", "two", "k"]) (sc := defScope s_law_same) (by decide +kernel)) (fun _ _ _ _ _ => pg_name (i := 2) sc__law_same.nd rfl (Or.inl rfl)) (fun _ _ _ _ _ => pts_nil) (fun _ _ _ _ _ => (pe_call ih hr (by rfl) T.g__law_same T.F__law_same.kp T.b__law_same .nil pass0 (pa_cons (pe_ix (kx_seq (K := K) rfl) (pv 0) (pv 2) (fun _ _ => rfl)) (pa_cons (pe_ix (kx_seq (K := K) rfl) (pv 1) (pv 2) (fun _ _ => rfl)) pa_nil))))) pa_nil))))) pss_nil)
 (pss_cons (ps_if (PW.pt (pw_or (pt_cmpR op_ne (pe_callB (kx_isi (K := K) rfl) (by rfl) T.isinstance (by decide +kernel) (pa_cons (pv 0) (pa_cons (pe_bltn (v := .ty "bool") (by rfl) T.bool (by decide +kernel) rfl) pa_nil))) (pe_callB (kx_isi (K := K) rfl) (by rfl) T.isinstance (by decide +kernel) (pa_cons (pv 1) (pa_cons (pe_bltn (v := .ty "bool") (by rfl) T.bool (by decide +kernel) rfl) pa_nil))) (nomark _)) (pw_or1 (pt_cmpR op_ne (pe_callB (kx_isi (K := K) rfl) (by rfl) T.isinstance (by decide +kernel) (pa_cons (pv 0) (pa_cons (pe_bltn (v := .ty "tuple") (by rfl) T.tuple (by decide +kernel) rfl) pa_nil))) (pe_callB (kx_isi (K := K) rfl) (by rfl) T.isinstance (by decide +kernel) (pa_cons (pv 1) (pa_cons (pe_bltn (v := .ty "tuple") (by rfl) T.tuple (by decide +kernel) rfl) pa_nil))) (nomark _))))) (pss_one (ps_ret pe_bl)) pss_nil)
 (pss_one (ps_ret (pe_cmpR (kx_eqD (K := K) rfl hr.units) (pv 0) (pv 1) (nomark _)))))), _, fun ex He Hf => (sms_seq (sms_if (smt_and (smt_b (f1 := false) (sm_isi (f1 := false) "tuple" (sm_var 0))) (smt_b (f1 := false) (sm_isi (f1 := false) "tuple" (sm_var 1))))
 (sms_seq (sms_if (smt_t (f1 := false) (sm_op (f1 := false) (f2 := false) opd_ne (sm_cb (f1 := false) cbd_len (sma_cons (sm_var 0) sma_nil)) (sm_cb (f1 := false) cbd_len (sma_cons (sm_var 1) sma_nil))))
 (sms_ret (sm_bl _))
 sms_next)
 (sms_ret (sm_cb (f1 := false) cbd_all (sma_cons (SmO.sm (smo_lc (i := 2) (smi_rng1 (f1 := false) (sm_cb (f1 := false) cbd_len (sma_cons (sm_var 0) sma_nil))) smt_yes (sm_call len__law_same (smq_cons (sm_ix (f2 := false) (sm_var 0) (sm_var 2)) (smq_cons (sm_ix (f2 := false) (sm_var 1) (sm_var 2)) smq_nil))))) sma_nil))))
 sms_next)
 (sms_seq (sms_if (smt_or (smt_t (f1 := false) (sm_op (f1 := false) (f2 := false) opd_ne (sm_isi (f1 := false) "bool" (sm_var 0)) (sm_isi (f1 := false) "bool" (sm_var 1)))) (smt_t (f1 := false) (sm_op (f1 := false) (f2 := false) opd_ne (sm_isi (f1 := false) "tuple" (sm_var 0)) (sm_isi (f1 := false) "tuple" (sm_var 1)))))
 (sms_ret (sm_bl _))
 sms_next)
 (sms_ret (sm_op (f1 := false) (f2 := false) opd_eqD (sm_var 0) (sm_var 1))))), ?_⟩
    rintro rs Φ ⟨x, rfl, ⟨m, hm, hx⟩, h⟩
    have hs := hx.shaped (by omega)
    have he := okd_eqv hx
    cases hx with
    | none => simpa [tyD, startD, hs, he] using h
    | bool b => simpa [tyD, startD, hs, he] using h
    | int i => simpa [tyD, startD, hs, he] using h
    | str t => simpa [tyD, startD, hs, he] using h
    | @list m xs hx hl => simpa [tyD, startD, hs, he] using h
    | @tuple m xs hx hl =>
      simp [tyD, startD]
      refine oLc_nn (n := xs.length) hl (fun Ψ h => by simpa using h) (fun acc => acc = List.replicate acc.length (.bool true)) rfl (fun k acc Ψ hk hl2 ha hΨ => ?_) (fun acc hl2 ha => ?_)
      · have ha2 : atI xs (k : Int) = some xs[k] := atI_nat (List.getElem?_eq_getElem hk)
        simp
        refine ⟨_, ha2, _, ha2, xs[k], rfl, ⟨m, by omega, hx _ (List.getElem_mem _)⟩, hΨ _ ?_⟩
        rw [List.length_append, List.length_singleton, List.replicate_succ', ← ha]
        rfl
      · refine ⟨List.replicate acc.length true, by rw [List.map_replicate]; exact ha, ?_⟩
        rw [all_rep]
        exact h
theorem G__law_same (T : Txt K mg) : FnOk P w K mg base CX0 12 T.f__law_same T.fd__law_same ["one", "two"] (toSp K 2 (vp__law_same 11)) := same_at (by decide) T


/-! ### records as data -/
inductive Opd where
  | int (k : Str) (v : Int) | nul | nam (n : Int) | glo (s : Str)
def Opd.D : Opd → PyData
  | .int k v => .tuple [.str "int", .str k, .int v]
  | .nul => .tuple [.str "null"]
  | .nam n => .tuple [.str "name", .int n]
  | .glo s => .tuple [.str "global", .str s]
def ik : List Str := ["i1", "i8", "i16", "i32", "i64"]
def pk : List Str := ["i1", "i8", "i16", "i32", "i64", "ptr"]
def vk : List Str := ["i1", "i8", "i16", "i32", "i64", "ptr", "void"]
def gls : List Str := ["g", "h2", "zero_", "a"]
def wds : List Int := [1, 8, 16, 32, 64]
def wdOf (k : Str) : Nat := if k = "i1" then 1 else if k = "i8" then 8 else if k = "i16" then 16 else if k = "i32" then 32 else 64
def Opd.ok (span : Int) : Opd → Prop
  | .int k v => k ∈ ik ∧ 0 ≤ v ∧ v < 2 ^ wdOf k
  | .nul => True
  | .nam n => 0 ≤ n ∧ n < span
  | .glo s => s ∈ gls
inductive Dat where
  | non | num (ns : List Int) | wrd (s : Str)
def Dat.D : Dat → List PyData
  | .non => []
  | .num ns => ns.map .int
  | .wrd s => [.str s]
structure Ins where
  nm : Int
  op : Str
  kd : Str
  os : List Opd
  dt : Dat
  pl : Int
def Ins.D (i : Ins) : PyData := .tuple [.int i.nm, .str i.op, .str i.kd, .tuple (i.os.map Opd.D), .tuple i.dt.D, .int i.pl]
structure Edg where
  lb : Int
  as : List Opd
def Edg.D (e : Edg) : PyData := .tuple [.int e.lb, .tuple (e.as.map Opd.D)]
inductive End where
  | br (e : Edg) | con (o : Opd) (e f : Edg) | sw (o : Opd) (cs : List (Int × Edg)) (d : Edg) | retN | ret (o : Opd) | stop (n : Int)
def caseD (c : Int × Edg) : PyData := .tuple [.int c.1, c.2.D]
def End.D : End → PyData
  | .br e => .tuple [.str "br", e.D]
  | .con o e f => .tuple [.str "condbr", o.D, e.D, f.D]
  | .sw o cs d => .tuple [.str "switch", o.D, .tuple (cs.map caseD), d.D]
  | .retN => .tuple [.str "ret", .none]
  | .ret o => .tuple [.str "ret", o.D]
  | .stop n => .tuple [.str "stop", .int n]
structure Blk where
  lb : Int
  ps : List (Int × Str)
  bd : List Ins
  en : End
def parD (p : Int × Str) : PyData := .tuple [.int p.1, .str p.2]
def Blk.D (b : Blk) : PyData := .tuple [.int b.lb, .tuple (b.ps.map parD), .tuple (b.bd.map Ins.D), b.en.D]
structure Fn where
  nm : Str
  kd : Str
  il : Bool
  bs : List Blk
def Fn.D (f : Fn) : PyData := .tuple [.str f.nm, .str f.kd, .bool f.il, .tuple (f.bs.map Blk.D)]


/-! ### the law's graphs -/
abbrev Gr := List (Int × List Int)
def grD (r : Int × List Int) : PyData := .tuple [.int r.1, .tuple (r.2.map .int)]
theorem fz3 {n : Nat} (h : n ≤ 100000) : n ≤ sizeLine := Nat.le_trans h (by decide)
theorem gcut_up {xs : List PyData} {k : Nat} (h : k ≤ xs.length) : cutDt xs none (some (k : Int)) = xs.take k := by
  have e1 : HT.sIx xs.length xs.length (some (k : Int)) = k := (HT.sIx_nat _ _ _).trans (Nat.min_eq_left h)
  have e2 : HT.sIx xs.length 0 none = 0 := rfl
  unfold cutDt
  rw [e1, e2, Nat.sub_zero, List.drop_zero]
theorem gcut_down {xs : List PyData} {k : Nat} (h : k ≤ xs.length) : cutDt xs (some (k : Int)) none = xs.drop k := by
  have e1 : HT.sIx xs.length 0 (some (k : Int)) = k := (HT.sIx_nat _ _ k).trans (Nat.min_eq_left h)
  have e2 : HT.sIx xs.length xs.length none = xs.length := rfl
  unfold cutDt
  rw [e1, e2]
  exact List.take_of_length_le (by rw [List.length_drop]; exact Nat.le_refl _)
theorem int_at {xs : List Int} {k : Nat} {x : Int} (h : xs[k]? = some x) : atI (xs.map PyData.int) (k : Int) = some (.int x) := atI_nat (by rw [List.getElem?_map, h]; rfl)
/-- what the labels are -/
structure Lbs (n : Nat) (ls : List Int) : Prop where
  len : ls.length = n
  nd : ls.Nodup
  bd : ∀ x ∈ ls, 0 ≤ x ∧ x ≤ 300
theorem lbs_line {n : Nat} {f g : Int} (hn : n ≤ 40) (h0 : 0 ≤ f) (h1 : f < 50) (h2 : 0 ≤ g) (h3 : g < 4) : Lbs n ((List.range n).map fun k : Nat => f + (1 + g) * (k : Int)) := by
  refine ⟨by simp, ?_, fun x hx => ?_⟩
  · refine List.Pairwise.map _ (fun a b (hab : a ≠ b) => ?_) List.nodup_range
    intro e
    have e2 : (1 + g) * (a : Int) = (1 + g) * (b : Int) := by omega
    have e3 := Int.eq_of_mul_eq_mul_left (by omega) e2
    exact hab (by omega)
  · obtain ⟨k, hk, rfl⟩ := List.mem_map.mp hx
    have hk := List.mem_range.mp hk
    have a1 : 0 ≤ (1 + g) * (k : Int) := Int.mul_nonneg (by omega) (by omega)
    have a2 : (1 + g) * (k : Int) ≤ 4 * 39 := Int.mul_le_mul (by omega) (by omega) (by omega) (by omega)
    omega
theorem Lbs.rev {n : Nat} {ls : List Int} (h : Lbs n ls) : Lbs n ls.reverse := ⟨by rw [List.length_reverse]; exact h.len, (List.reverse_perm ls).nodup_iff.mpr h.nd, fun x hx => h.bd x (List.mem_reverse.mp hx)⟩
theorem Lbs.rot {n : Nat} {ls : List Int} (h : Lbs n ls) (k : Nat) : Lbs n (ls.drop k ++ ls.take k) := by
  have p : (ls.drop k ++ ls.take k).Perm ls := (List.perm_append_comm).trans (by rw [List.take_append_drop])
  exact ⟨p.length_eq.trans h.len, p.nodup_iff.mpr h.nd, fun x hx => h.bd x (p.mem_iff.mp hx)⟩
def vp__law_labels : VSp := fun rs Φ => rs = [.drw] ∧ ∀ (n : Nat) (ls : List Int), 1 ≤ n → n ≤ 40 → Lbs n ls → Φ (.d (.list (ls.map .int)))
theorem len__law_labels : ∀ rs Φ, vp__law_labels rs Φ → rs.length = 1 := fun rs Φ ⟨e, _⟩ => by rw [e]; rfl
theorem G__law_labels (T : Txt K mg) : FnOk P w K mg base CX0 2 T.f__law_labels T.fd__law_labels ["draw"] (toSp K 1 vp__law_labels) := by
  refine fn_ok T.F__law_labels sc__law_labels fun cdv A outer s H E hr => ⟨_, (pss_cons (ps_set (i := 1) sc__law_labels.nd rfl (Or.inr rfl) (pe_op op_add pe_int (pe_call (G__law_take T) hr (by rfl) T.g__law_take T.F__law_take.kp T.b__law_take .nil pass0 (pa_cons (pv 0) (pa_cons pe_int pa_nil)))))
 (pss_cons (ps_if (pt_cmpR op_eq (pe_call (G__law_take T) hr (by rfl) T.g__law_take T.F__law_take.kp T.b__law_take .nil pass0 (pa_cons (pv 0) (pa_cons pe_int pa_nil))) pe_int (nomark _)) (pss_one (ps_set (i := 1) sc__law_labels.nd rfl (Or.inr rfl) pe_int)) pss_nil)
 (pss_cons (ps_set (i := 2) sc__law_labels.nd rfl (Or.inr rfl) (pe_call (G__law_take T) hr (by rfl) T.g__law_take T.F__law_take.kp T.b__law_take .nil pass0 (pa_cons (pv 0) (pa_cons pe_int pa_nil))))
 (pss_cons (ps_set (i := 3) sc__law_labels.nd rfl (Or.inr rfl) (pe_op op_add pe_int (pe_call (G__law_take T) hr (by rfl) T.g__law_take T.F__law_take.kp T.b__law_take .nil pass0 (pa_cons (pv 0) (pa_cons pe_int pa_nil)))))
 (pss_cons (ps_set (i := 4) sc__law_labels.nd rfl (Or.inr rfl) (pe_lc (own := [("k", 5)]) (g := gName 5) (tt := tYes) rfl sc__law_labels.nd (pi_range1 rfl T.range (pa_cons (pv 1) pa_nil)) (blkOk_by (N := ["draw", "many", "first", "gap", "labels", "k"]) (sc := defScope s_law_labels) (by decide +kernel)) (fun _ _ _ _ _ => pg_name (i := 5) sc__law_labels.nd rfl (Or.inl rfl)) (fun _ _ _ _ _ => pts_nil) (fun _ _ _ _ _ => (pe_op op_add (pv 2) (pe_op op_mul (pv 3) (pv 5))))))
 (pss_cons (ps_if (pt_cmpR op_eq (pe_call (G__law_take T) hr (by rfl) T.g__law_take T.F__law_take.kp T.b__law_take .nil pass0 (pa_cons (pv 0) (pa_cons pe_int pa_nil))) pe_int (nomark _)) (pss_one (ps_set (i := 4) sc__law_labels.nd rfl (Or.inr rfl) (pe_lc (own := [("k", 5)]) (g := gName 5) (tt := tYes) rfl sc__law_labels.nd (pi_range1 rfl T.range (pa_cons (pv 1) pa_nil)) (blkOk_by (N := ["draw", "many", "first", "gap", "labels", "k"]) (sc := defScope s_law_labels) (by decide +kernel)) (fun _ _ _ _ _ => pg_name (i := 5) sc__law_labels.nd rfl (Or.inl rfl)) (fun _ _ _ _ _ => pts_nil) (fun _ _ _ _ _ => (pe_ix (kx_seq (K := K) rfl) (pv 4) (pe_op op_sub (pe_op op_sub (pv 1) pe_int) (pv 5)) (fun _ _ => rfl)))))) pss_nil)
 (pss_cons (ps_if (PW.pt (pw_and (pt_cmpR op_gt (pv 1) pe_int (nomark _)) (pw_and1 (pt_cmpR op_eq (pe_call (G__law_take T) hr (by rfl) T.g__law_take T.F__law_take.kp T.b__law_take .nil pass0 (pa_cons (pv 0) (pa_cons pe_int pa_nil))) pe_int (nomark _))))) (pss_cons (ps_set (i := 5) sc__law_labels.nd rfl (Or.inl rfl) (pe_call (G__law_take T) hr (by rfl) T.g__law_take T.F__law_take.kp T.b__law_take .nil pass0 (pa_cons (pv 0) (pa_cons (pv 1) pa_nil))))
 (pss_one (ps_set (i := 4) sc__law_labels.nd rfl (Or.inr rfl) (pe_op op_cat (pe_slice sl_list (pv 4) (po_some (pv 5)) po_none) (pe_slice sl_list (pv 4) po_none (po_some (pv 5))))))) pss_nil)
 (pss_one (ps_ret (pv 4)))))))))), _, fun ex He Hf => (sms_seq (sms_asg (sm_op (f1 := false) (f2 := false) (opd_I0 (g' := fun i j => .int (i + j)) fun _ _ => rfl) (sm_int _) (sm_call len__law_take (smq_drw 0 (smq_cons (sm_int _) smq_nil)))) (smg_name 1))
 (sms_seq (sms_if (smt_t (f1 := false) (sm_op (f1 := false) (f2 := false) opd_eq (sm_call len__law_take (smq_drw 0 (smq_cons (sm_int _) smq_nil))) (sm_int _)))
 (sms_asg (sm_int _) (smg_name 1))
 sms_next)
 (sms_seq (sms_asg (sm_call len__law_take (smq_drw 0 (smq_cons (sm_int _) smq_nil))) (smg_name 2))
 (sms_seq (sms_asg (sm_op (f1 := false) (f2 := false) (opd_I0 (g' := fun i j => .int (i + j)) fun _ _ => rfl) (sm_int _) (sm_call len__law_take (smq_drw 0 (smq_cons (sm_int _) smq_nil)))) (smg_name 3))
 (sms_seq (sms_asg (SmO.sm (smo_lc (i := 5) (smi_rng1 (f1 := false) (sm_var 1)) smt_yes (sm_op (f1 := false) (f2 := false) (opd_I0 (g' := fun i j => .int (i + j)) fun _ _ => rfl) (sm_var 2) (sm_op (f1 := false) (f2 := false) (opd_I (g' := fun i j => .int (i * j)) fun _ _ => rfl) (sm_var 3) (sm_var 5))))) (smg_name 4))
 (sms_seq (sms_if (smt_t (f1 := false) (sm_op (f1 := false) (f2 := false) opd_eq (sm_call len__law_take (smq_drw 0 (smq_cons (sm_int _) smq_nil))) (sm_int _)))
 (sms_asg (SmO.sm (smo_lc (i := 5) (smi_rng1 (f1 := false) (sm_var 1)) smt_yes (sm_ix (f2 := false) (sm_var 4) (sm_op (f1 := false) (f2 := false) (opd_I0 (g' := fun i j => .int (i - j)) fun _ _ => rfl) (sm_op (f1 := false) (f2 := false) (opd_I0 (g' := fun i j => .int (i - j)) fun _ _ => rfl) (sm_var 1) (sm_int _)) (sm_var 5))))) (smg_name 4))
 sms_next)
 (sms_seq (sms_if (smt_and (smt_t (f1 := false) (sm_op (f1 := false) (f2 := false) (opd_I0 (g' := fun i j => .bool (decide (j < i))) fun _ _ => rfl) (sm_var 1) (sm_int _))) (smt_t (f1 := false) (sm_op (f1 := false) (f2 := false) opd_eq (sm_call len__law_take (smq_drw 0 (smq_cons (sm_int _) smq_nil))) (sm_int _))))
 (sms_seq (sms_asg (sm_call len__law_take (smq_drw 0 (smq_cons (sm_var 1) smq_nil))) (smg_name 5))
 (sms_asg (SmO.sm (smo_cat (SmO.sm (smo_slice (sm_var 4) (smp_some (f1 := false) (sm_var 5)) smp_none)) (SmO.sm (smo_slice (sm_var 4) smp_none (smp_some (f1 := false) (sm_var 5)))))) (smg_name 4)))
 sms_next)
 (sms_ret (sm_var 4))))))))), ?_⟩
  rintro rs Φ ⟨rfl, h⟩
  refine seq_op fun N hN => ?_
  simp
  intro r0 a0 b0
  refine hN _ ?_
  clear hN N
  refine seq_by (fun δ => ∃ n : Nat, 1 ≤ n ∧ n ≤ 40 ∧ δ = [some .drw, some (.d (.int n)), none, none, none, none]) (fun δ hI => ?_) (fun N hN => ?_)
  rotate_left
  · simp
    intro r1 a1 b1
    split
    · exact hN _ ⟨40, by omega, by omega, rfl⟩
    · exact hN _ ⟨(1 + r0).toNat, by omega, by omega, by rw [show ((1 + r0).toNat : Int) = 1 + r0 by omega]⟩
  obtain ⟨n, n1, n2, rfl⟩ := hI
  refine seq_op fun N hN => ?_
  simp
  intro f a2 b2
  refine hN _ ?_
  clear hN N
  refine seq_op fun N hN => ?_
  simp
  intro g a3 b3
  refine hN _ ?_
  clear hN N
  refine seq_by (fun δ => ∃ (ls : List Int) (y : Option R), Lbs n ls ∧ δ = [some .drw, some (.d (.int n)), some (.d (.int f)), some (.d (.int (1 + g))), some (.d (.list (ls.map .int))), y]) (fun δ hI => ?_) (fun N hN => ?_)
  rotate_left
  · simp
    refine oLc_n (n := n) (by omega) (fun Ψ hΨ => by simpa using hΨ) (fun acc => acc = ((List.range acc.length).map fun k : Nat => f + (1 + g) * (k : Int)).map PyData.int) rfl (fun k acc Ψ hk hlen hP hz => ?_) (fun acc hlen hP => ?_)
    · have cm : CMul (1 + g) (k : Int) := .inl ⟨by omega, by omega⟩
      simp [cm]
      refine hz _ ?_
      rw [List.length_append, List.length_singleton, List.range_succ, List.map_append, List.map_append, ← hP, hlen]
      rfl
    · rw [hP, hlen]
      exact hN _ ⟨_, _, lbs_line n2 a2 b2 a3 b3, rfl⟩
  obtain ⟨ls, y, hL, rfl⟩ := hI
  refine seq_by (fun δ => ∃ (ls : List Int) (y : Option R), Lbs n ls ∧ δ = [some .drw, some (.d (.int n)), some (.d (.int f)), some (.d (.int (1 + g))), some (.d (.list (ls.map .int))), y]) (fun δ hI => ?_) (fun N hN => ?_)
  rotate_left
  · simp
    intro r4 a4 b4
    split
    · refine oLc_n (n := n) (by omega) (fun Ψ hΨ => by simpa using hΨ) (fun acc => acc = (ls.reverse.take acc.length).map PyData.int) rfl (fun k acc Ψ hk hlen hP hz => ?_) (fun acc hlen hP => ?_)
      · have hl := hL.len
        have hx : ls.reverse[k]? = some (ls.reverse[k]'(by rw [List.length_reverse, hl]; exact hk)) := List.getElem?_eq_getElem _
        generalize ls.reverse[k]'_ = x at hx
        have hx2 : ls[n - 1 - k]? = some x := by rw [List.getElem?_reverse (by rw [hl]; exact hk), hl] at hx; exact hx
        have ea : atI (ls.map PyData.int) ((n : Int) - 1 - (k : Int)) = some (.int x) := by rw [show (n : Int) - 1 - (k : Int) = ((n - 1 - k : Nat) : Int) by omega]; exact int_at hx2
        simp [ea]
        refine hz _ ?_
        rw [List.length_append, List.length_singleton, List.take_add_one, hlen, hx, List.map_append, ← hlen, ← hP]
        rfl
      · rw [hP, hlen, List.take_of_length_le (by rw [List.length_reverse, hL.len]; exact Nat.le_refl _)]
        exact hN _ ⟨_, _, hL.rev, rfl⟩
    · exact hN _ ⟨_, _, hL, rfl⟩
  clear hL y ls
  obtain ⟨ls, y, hL, rfl⟩ := hI
  refine seq_by (fun δ => ∃ (ls : List Int) (y : Option R), Lbs n ls ∧ δ = [some .drw, some (.d (.int n)), some (.d (.int f)), some (.d (.int (1 + g))), some (.d (.list (ls.map .int))), y]) (fun δ hI => ?_) (fun N hN => ?_)
  rotate_left
  · simp
    by_cases hn : (2 : Int) < n
    · simp [hn]
      intro r4 a4 b4
      split
      · refine ⟨tk_of (by omega) (by omega), fun r5 a5 b5 => ?_⟩
        obtain ⟨k, rfl⟩ : ∃ k : Nat, r5 = (k : Int) := ⟨r5.toNat, by omega⟩
        have hl := hL.len
        rw [gcut_up (by rw [List.length_map]; omega), gcut_down (by rw [List.length_map]; omega), ← List.map_drop, ← List.map_take, ← List.map_append]
        refine ⟨fz3 (by rw [List.length_map, List.length_map, List.length_drop, List.length_take]; omega), hN _ ⟨_, _, hL.rot k, rfl⟩⟩
      · exact hN _ ⟨_, _, hL, rfl⟩
    · simp [hn]
      exact hN _ ⟨_, _, hL, rfl⟩
  clear hL y ls
  obtain ⟨ls, y, hL, rfl⟩ := hI
  simp
  exact h n ls n1 n2 hL

/-! ### a graph -/
/-- labels ls, each row's targets among them; at most ten a row -/
structure GrOk (ls : List Int) (g : Gr) : Prop where
  lbs : g.map (·.1) = ls
  tgt : ∀ r ∈ g, ∀ t ∈ r.2, t ∈ ls
  few : ∀ r ∈ g, r.2.length ≤ 10
def vp__law_graph : VSp := fun rs Φ => ∃ b : Bool, rs = [.drw, .d (.bool b)] ∧ ∀ (n : Nat) (ls : List Int) (g : Gr), 1 ≤ n → n ≤ 40 → Lbs n ls → GrOk ls g → (b = false → ∀ r ∈ g, ∀ t ∈ r.2, ls[0]? ≠ some t) → Φ (.d (.tuple (g.map grD)))
theorem len__law_graph : ∀ rs Φ, vp__law_graph rs Φ → rs.length = 2 := fun rs Φ ⟨_, e, _⟩ => by rw [e]; rfl
theorem G__law_graph (T : Txt K mg) : FnOk P w K mg base CX0 3 T.f__law_graph T.fd__law_graph ["draw", "back"] (toSp K 2 vp__law_graph) := by
  refine fn_ok T.F__law_graph sc__law_graph fun cdv A outer s H E hr => ⟨_, (pss_cons (ps_set (i := 2) sc__law_graph.nd rfl (Or.inl rfl) (pe_call (G__law_labels T) hr (by rfl) T.g__law_labels T.F__law_labels.kp T.b__law_labels .nil pass0 (pa_cons (pv 0) pa_nil)))
 (pss_cons (ps_set (i := 3) sc__law_graph.nd rfl (Or.inl rfl) (pe_callB (kx_len (K := K) rfl) (by rfl) T.len PySem.boot_len (pa_cons (pv 2) pa_nil)))
 (pss_cons (ps_set (i := 4) sc__law_graph.nd rfl (Or.inl rfl) (pe_lst pa_nil))
 (pss_cons (ps_for PassesOwn.never rfl (pi_range1 rfl T.range (pa_cons (pv 3) pa_nil)) (pg_name (i := 5) sc__law_graph.nd rfl (Or.inl rfl)) (pss_cons (ps_set (i := 6) sc__law_graph.nd rfl (Or.inl rfl) (pe_lst pa_nil))
 (pss_cons (ps_for PassesOwn.never rfl (pi_range1 rfl T.range (pa_cons (pe_ix (kx_seq (K := K) rfl) (pe_lst (pa_cons pe_int (pa_cons pe_int (pa_cons pe_int (pa_cons pe_int (pa_cons pe_int (pa_cons pe_int pa_nil))))))) (pe_call (G__law_take T) (hr.mono (by decide)) (by rfl) T.g__law_take T.F__law_take.kp T.b__law_take .nil pass0 (pa_cons (pv 0) (pa_cons pe_int pa_nil))) (fun _ _ => rfl)) pa_nil)) (pg_name (i := 7) sc__law_graph.nd rfl (Or.inl rfl)) (pss_cons (ps_set (i := 8) sc__law_graph.nd rfl (Or.inl rfl) (pe_call (G__law_take T) (hr.mono (by decide)) (by rfl) T.g__law_take T.F__law_take.kp T.b__law_take .nil pass0 (pa_cons (pv 0) (pa_cons pe_int pa_nil))))
 (pss_cons (ps_set (i := 9) sc__law_graph.nd rfl (Or.inl rfl) (pe_call (G__law_take T) (hr.mono (by decide)) (by rfl) T.g__law_take T.F__law_take.kp T.b__law_take .nil pass0 (pa_cons (pv 0) (pa_cons (pv 3) pa_nil))))
 (pss_cons (ps_if (PW.pt (pw_and (pt_cmpR op_lt (pv 8) pe_int (nomark _)) (pw_and1 (pt_cmpR op_lt (pe_op op_add (pv 5) pe_int) (pv 3) (nomark _))))) (pss_one (ps_set (i := 9) sc__law_graph.nd rfl (Or.inl rfl) (pe_callB (call_min2 rfl) (by rfl) T.min (by decide +kernel) (pa_cons (pe_op op_sub (pv 3) pe_int) (pa_cons (pe_op op_add (pe_op op_add (pv 5) pe_int) (pe_call (G__law_take T) (hr.mono (by decide)) (by rfl) T.g__law_take T.F__law_take.kp T.b__law_take .nil pass0 (pa_cons (pv 0) (pa_cons pe_int pa_nil)))) pa_nil))))) (pss_one (ps_if (pt_cmpR op_eq (pv 8) pe_int (nomark _)) (pss_one (ps_set (i := 9) sc__law_graph.nd rfl (Or.inl rfl) (pe_callB (call_max2 rfl) (by rfl) T.max (by decide +kernel) (pa_cons pe_int (pa_cons (pe_op op_sub (pv 5) (pe_call (G__law_take T) (hr.mono (by decide)) (by rfl) T.g__law_take T.F__law_take.kp T.b__law_take .nil pass0 (pa_cons (pv 0) (pa_cons pe_int pa_nil)))) pa_nil))))) pss_nil)))
 (pss_one (ps_if (PW.pt (pw_or (pt_cmpR op_gt (pv 9) pe_int (nomark _)) (pw_or1 (pt_val (pv 1))))) (pss_one (ps_expr (pe_bm PySem.F.plainAttrs_list PySem.F.slot_list_append PySem.F.type_list_append mt_append (pv 6) (pa_cons (pe_ix (kx_seq (K := K) rfl) (pv 2) (pv 9) (fun _ _ => rfl)) pa_nil)))) pss_nil))))))
 (pss_one (ps_expr (pe_bm PySem.F.plainAttrs_list PySem.F.slot_list_append PySem.F.type_list_append mt_append (pv 4) (pa_cons (pe_tup (pa_cons (pe_ix (kx_seq (K := K) rfl) (pv 2) (pv 5) (fun _ _ => rfl)) (pa_cons (pe_callTy (kx_tuple (K := K) rfl) (by rfl) T.tuple (by decide +kernel) (pa_cons (pv 6) pa_nil)) pa_nil))) pa_nil)))))))
 (pss_one (ps_ret (pe_callTy (kx_tuple (K := K) rfl) (by rfl) T.tuple (by decide +kernel) (pa_cons (pv 4) pa_nil)))))))), _, fun ex He Hf => (sms_seq (sms_asg (sm_call len__law_labels (smq_drw 0 smq_nil)) (smg_name 2))
 (sms_seq (sms_asg (sm_cb (f1 := false) cbd_len (sma_cons (sm_var 2) sma_nil)) (smg_name 3))
 (sms_seq (sms_setO 4 (smo_lst sma_nil))
 (sms_seq (sms_for (smi_rng1 (f1 := false) (sm_var 3)) (smg_name 5)
 (sms_seq (sms_setO 6 (smo_lst sma_nil))
 (sms_seq (sms_for (smi_rng1 (f1 := false) (sm_ix (f2 := false) (SmO.sm (smo_lst (sma_cons (sm_int _) (sma_cons (sm_int _) (sma_cons (sm_int _) (sma_cons (sm_int _) (sma_cons (sm_int _) (sma_cons (sm_int _) sma_nil)))))))) (sm_call len__law_take (smq_drw 0 (smq_cons (sm_int _) smq_nil))))) (smg_name 7)
 (sms_seq (sms_asg (sm_call len__law_take (smq_drw 0 (smq_cons (sm_int _) smq_nil))) (smg_name 8))
 (sms_seq (sms_asg (sm_call len__law_take (smq_drw 0 (smq_cons (sm_var 3) smq_nil))) (smg_name 9))
 (sms_seq (sms_if (smt_and (smt_t (f1 := false) (sm_op (f1 := false) (f2 := false) (opd_I0 (g' := fun i j => .bool (decide (i < j))) fun _ _ => rfl) (sm_var 8) (sm_int _))) (smt_t (f1 := false) (sm_op (f1 := false) (f2 := false) (opd_I0 (g' := fun i j => .bool (decide (i < j))) fun _ _ => rfl) (sm_op (f1 := false) (f2 := false) (opd_I0 (g' := fun i j => .int (i + j)) fun _ _ => rfl) (sm_var 5) (sm_int _)) (sm_var 3))))
 (sms_asg (sm_cb (f1 := false) cbd_min (sma_cons (sm_op (f1 := false) (f2 := false) (opd_I0 (g' := fun i j => .int (i - j)) fun _ _ => rfl) (sm_var 3) (sm_int _)) (sma_cons (sm_op (f1 := false) (f2 := false) (opd_I0 (g' := fun i j => .int (i + j)) fun _ _ => rfl) (sm_op (f1 := false) (f2 := false) (opd_I0 (g' := fun i j => .int (i + j)) fun _ _ => rfl) (sm_var 5) (sm_int _)) (sm_call len__law_take (smq_drw 0 (smq_cons (sm_int _) smq_nil)))) sma_nil))) (smg_name 9))
 (sms_if (smt_t (f1 := false) (sm_op (f1 := false) (f2 := false) opd_eq (sm_var 8) (sm_int _)))
 (sms_asg (sm_cb (f1 := false) cbd_max (sma_cons (sm_int _) (sma_cons (sm_op (f1 := false) (f2 := false) (opd_I0 (g' := fun i j => .int (i - j)) fun _ _ => rfl) (sm_var 5) (sm_call len__law_take (smq_drw 0 (smq_cons (sm_int _) smq_nil)))) sma_nil))) (smg_name 9))
 sms_next))
 (sms_if (smt_or (smt_t (f1 := false) (sm_op (f1 := false) (f2 := false) (opd_I0 (g' := fun i j => .bool (decide (j < i))) fun _ _ => rfl) (sm_var 9) (sm_int _))) (smt_b (f1 := false) (sm_var 1)))
 (sms_app 6 (sm_ix (f2 := false) (sm_var 2) (sm_var 9)))
 sms_next)))))
 (sms_frz 6 (sms_app 4 (sm_tup (sma_cons (sm_ix (f2 := false) (sm_var 2) (sm_var 5)) (sma_cons (sm_tuple (sm_var 6)) sma_nil))))))))
 (sms_frz 4 (sms_ret (sm_tuple (sm_var 4)))))))), ?_⟩
  rintro rs Φ ⟨b, rfl, h⟩
  refine seq_op fun N hN => ?_
  simp
  refine ⟨rfl, fun n ls n1 n2 hL => ?_⟩
  simp
  refine hN _ ?_
  clear hN N
  have hl := hL.len
  refine seq_op fun N hN => ?_
  simp
  rw [hl]
  refine hN _ ?_
  clear hN N
  refine seq_op fun N hN => ?_
  simp
  intro o
  refine hN _ ?_
  clear hN N
  obtain ⟨LD, hLD⟩ : ∃ x : PyData, x = .list (ls.map .int) := ⟨_, rfl⟩
  rw [← hLD]
  refine seq_by (fun δ => ∃ (g : Gr) (y5 y6 y7 y8 y9 : Option R), GrOk ls g ∧ (b = false → ∀ r ∈ g, ∀ t ∈ r.2, ls[0]? ≠ some t) ∧ δ = [some .drw, some (.d (.bool b)), some (.d LD), some (.d (.int n)), some (.own o (g.map grD)), y5, y6, y7, y8, y9]) (fun δ hI => ?_) (fun N hN => ?_)
  · obtain ⟨g, y5, y6, y7, y8, y9, k1, k2, rfl⟩ := hI
    simp
    exact h n ls g n1 n2 hL k1 k2
  obtain ⟨I, hI⟩ : ∃ I : Nat → Dl → Prop, ∀ k δ, I k δ ↔ ∃ (g : Gr) (y5 y6 y7 y8 y9 : Option R), g.map (·.1) = ls.take k ∧ (∀ r ∈ g, (∀ t ∈ r.2, t ∈ ls) ∧ r.2.length ≤ 10 ∧ (b = false → ∀ t ∈ r.2, ls[0]? ≠ some t)) ∧ δ = [some .drw, some (.d (.bool b)), some (.d LD), some (.d (.int n)), some (.own o (g.map grD)), y5, y6, y7, y8, y9] := ⟨_, fun _ _ => Iff.rfl⟩
  refine dFor_n (n := n) (by omega) (fun Ψ h => by simpa using h) I ((hI _ _).mpr ⟨[], none, none, none, none, none, rfl, fun _ h => (nomatch h), rfl⟩) (fun k δ hk hJ => ?_) (fun δ hJ => ?_)
  rotate_left
  · obtain ⟨g, y5, y6, y7, y8, y9, k1, k2, rfl⟩ := (hI _ _).mp hJ
    exact hN _ ⟨g, y5, y6, y7, y8, y9, ⟨by rw [k1, ← hl, List.take_length], fun r hr => (k2 r hr).1, fun r hr => (k2 r hr).2.1⟩, fun hb r hr => (k2 r hr).2.2 hb, rfl⟩
  obtain ⟨g, y5, y6, y7, y8, y9, k1, k2, rfl⟩ := (hI _ _).mp hJ
  have gl : g.length = k := by
    have := congrArg List.length k1
    rw [List.length_map, List.length_take, hl] at this
    omega
  refine seq_op fun N hN => ?_
  simp
  intro o2
  refine hN _ ?_
  clear hN N
  refine seq_by (fun δ => ∃ (ts : List Int) (y7 y8 y9 : Option R), ts.length ≤ 10 ∧ (∀ t ∈ ts, t ∈ ls ∧ (b = false → ls[0]? ≠ some t)) ∧ δ = [some .drw, some (.d (.bool b)), some (.d LD), some (.d (.int n)), some (.own o (g.map grD)), some (.d (.int k)), some (.own o2 (ts.map .int)), y7, y8, y9]) (fun δ hK => ?_) (fun N hN => ?_)
  · obtain ⟨ts, y7, y8, y9, t1, t2, rfl⟩ := hK
    have hx : ls[k]? = some (ls[k]'(by omega)) := List.getElem?_eq_getElem _
    generalize ls[k]'_ = x at hx
    simp [hLD, int_at hx, le_size, lt_size, cmul_l, cpow_l, cdiv_l]
    rw [← hLD]
    refine ⟨by rw [gl]; exact Nat.lt_of_lt_of_le (show k < 100000 by omega) (by decide), (hI _ _).mpr ⟨g ++ [(x, ts)], _, _, y7, y8, y9, by rw [List.map_append, k1, List.take_add_one, hx]; rfl, fun r hr => ?_, by simp [grD]; exact ⟨rfl, rfl⟩⟩⟩
    rcases List.mem_append.mp hr with hr | hr
    · exact k2 r hr
    · rw [List.mem_singleton.mp hr]
      exact ⟨fun t ht => (t2 t ht).1, t1, fun hb t ht => (t2 t ht).2 hb⟩
  obtain ⟨J, hJ2⟩ : ∃ J : Nat → Dl → Prop, ∀ j δ, J j δ ↔ ∃ (ts : List Int) (y7 y8 y9 : Option R), ts.length ≤ j ∧ (∀ t ∈ ts, t ∈ ls ∧ (b = false → ls[0]? ≠ some t)) ∧ δ = [some .drw, some (.d (.bool b)), some (.d LD), some (.d (.int n)), some (.own o (g.map grD)), some (.d (.int k)), some (.own o2 (ts.map .int)), y7, y8, y9] := ⟨_, fun _ _ => Iff.rfl⟩
  refine dFor_r (L := 3) (by decide) (fun Ψ h => ?_) J ((hJ2 _ _).mpr ⟨[], y7, y8, y9, Nat.le_refl _, fun _ h => (nomatch h), rfl⟩) (fun j δ hj hJ => ?_) (fun m δ hm hJ => ?_)
  · simp
    refine ⟨fz3 (by decide), fun r r0 r1 => ?_⟩
    have hr : r = 0 ∨ r = 1 ∨ r = 2 ∨ r = 3 ∨ r = 4 ∨ r = 5 := by omega
    rcases hr with rfl | rfl | rfl | rfl | rfl | rfl
    · exact ⟨.int 1, by first | rfl | simp, h 1 (by decide)⟩
    · exact ⟨.int 2, by first | rfl | simp, h 2 (by decide)⟩
    · exact ⟨.int 0, by first | rfl | simp, h 0 (by decide)⟩
    · exact ⟨.int 3, by first | rfl | simp, h 3 (by decide)⟩
    · exact ⟨.int 1, by first | rfl | simp, h 1 (by decide)⟩
    · exact ⟨.int 2, by first | rfl | simp, h 2 (by decide)⟩
  · obtain ⟨ts, y7, y8, y9, t1, t2, rfl⟩ := (hJ2 _ _).mp hJ
    refine seq_op fun N hN => ?_
    simp
    intro c c0 c1
    refine hN _ ?_
    clear hN N
    refine seq_op fun N hN => ?_
    simp
    refine ⟨tk_of (by omega) (by omega), fun a a0 a1 => ?_⟩
    refine hN _ ?_
    clear hN N
    refine seq_by (fun δ => ∃ e : Nat, e < n ∧ δ = [some .drw, some (.d (.bool b)), some (.d LD), some (.d (.int n)), some (.own o (g.map grD)), some (.d (.int k)), some (.own o2 (ts.map .int)), some (.d (.int j)), some (.d (.int c)), some (.d (.int e))]) (fun δ hK => ?_) (fun N hN => ?_)
    · obtain ⟨e, he, rfl⟩ := hK
      have hx : ls[e]? = some (ls[e]'(by omega)) := List.getElem?_eq_getElem _
      generalize ls[e]'_ = x at hx
      have keep : J (j + 1) [some .drw, some (.d (.bool b)), some (.d LD), some (.d (.int n)), some (.own o (g.map grD)), some (.d (.int k)), some (.own o2 (ts.map .int)), some (.d (.int j)), some (.d (.int c)), some (.d (.int e))] := (hJ2 _ _).mpr ⟨ts, _, _, _, by omega, t2, rfl⟩
      have mem : (e = 0 → b = true) → ∀ t ∈ ts ++ [x], t ∈ ls ∧ (b = false → ls[0]? ≠ some t) := fun hb t ht => by
        rcases List.mem_append.mp ht with ht | ht
        · exact t2 t ht
        · rw [List.mem_singleton.mp ht]
          refine ⟨List.mem_of_getElem? hx, fun h0 h1 => ?_⟩
          obtain ⟨p1, q1⟩ := List.getElem?_eq_some_iff.mp h1
          obtain ⟨p2, q2⟩ := List.getElem?_eq_some_iff.mp hx
          have e0 : e = 0 := by
            by_cases z : e = 0
            · exact z
            · exact absurd (q1.trans q2.symm) (List.pairwise_iff_getElem.mp hL.nd 0 e p1 p2 (by omega))
          have := hb e0
          rw [h0] at this
          cases this
      have add : (e = 0 → b = true) → J (j + 1) [some .drw, some (.d (.bool b)), some (.d LD), some (.d (.int n)), some (.own o (g.map grD)), some (.d (.int k)), some (.own o2 ((ts ++ [x]).map .int)), some (.d (.int j)), some (.d (.int c)), some (.d (.int e))] := fun hb =>
        (hJ2 _ _).mpr ⟨ts ++ [x], _, _, _, by rw [List.length_append, List.length_singleton]; omega, mem hb, rfl⟩
      simp [hLD, int_at hx]
      rw [← hLD]
      have tl : ts.length < sizeLine := Nat.lt_of_lt_of_le (show ts.length < 100000 by omega) (by decide)
      rw [List.map_append] at add
      split
      · exact ⟨tl, add fun z => by omega⟩
      · cases b with
        | false => exact .inl ⟨rfl, keep⟩
        | true => exact .inr ⟨rfl, tl, add fun _ => rfl⟩
    · have fin : ∀ e : Int, 0 ≤ e → e < n → N [some .drw, some (.d (.bool b)), some (.d LD), some (.d (.int n)), some (.own o (g.map grD)), some (.d (.int k)), some (.own o2 (ts.map .int)), some (.d (.int j)), some (.d (.int c)), some (.d (.int e))] := fun e q0 q1 =>
        hN _ ⟨e.toNat, by omega, by rw [show (e.toNat : Int) = e by omega]⟩
      simp
      have two : ∀ r : Int, 0 ≤ r → r < 4 → N [some .drw, some (.d (.bool b)), some (.d LD), some (.d (.int n)), some (.own o (g.map grD)), some (.d (.int k)), some (.own o2 (ts.map .int)), some (.d (.int j)), some (.d (.int c)), some (.d (.int (if r < ↑k then ↑k - r else 0)))] := fun r q0 q1 => by
        split
        · exact fin _ (by omega) (by omega)
        · exact fin _ (by omega) (by omega)
      split
      · split
        · intro r q0 q1
          split
          · exact fin _ (by omega) (by omega)
          · exact fin _ (by omega) (by omega)
        · split
          · exact two
          · exact fin _ a0 a1
      · split
        · exact two
        · exact fin _ a0 a1
  · obtain ⟨ts, y7, y8, y9, t1, t2, rfl⟩ := (hJ2 _ _).mp hJ
    exact hN _ ⟨ts, y7, y8, y9, by omega, t2, rfl⟩

def tgtL (g : Gr) (l : Int) : List Int := match g.find? (fun r => decide (r.1 = l)) with
  | some r => r.2
  | none => []
def vp__law_targets : VSp := fun rs Φ => ∃ (g : Gr) (l : Int), rs = [.d (.tuple (g.map grD)), .d (.int l)] ∧ g.length ≤ 1000 ∧ Φ (.d (.tuple ((tgtL g l).map .int)))
theorem len__law_targets : ∀ rs Φ, vp__law_targets rs Φ → rs.length = 2 := fun rs Φ ⟨_, _, e, _⟩ => by rw [e]; rfl
theorem G__law_targets (T : Txt K mg) : FnOk P w K mg base CX0 1 T.f__law_targets T.fd__law_targets ["graph", "label"] (toSp K 2 vp__law_targets) := by
  refine fn_ok T.F__law_targets sc__law_targets fun cdv A outer s H E hr => ⟨_, (pss_cons (ps_for PassesOwn.never rfl ((kpi_tup (K := K) rfl (pv 0))) (pg_name (i := 2) sc__law_targets.nd rfl (Or.inl rfl)) (pss_one (ps_if (pt_cmpR op_eq (pe_ix (kx_seq (K := K) rfl) (pv 2) pe_int (fun _ _ => rfl)) (pv 1) (nomark _)) (pss_one (ps_ret (pe_ix (kx_seq (K := K) rfl) (pv 2) pe_int (fun _ _ => rfl)))) pss_nil)))
 (pss_one (ps_ret (pe_tup pa_nil)))), _, fun ex He Hf => (sms_seq (sms_for (smi_tup (sm_var 0)) (smg_name 2)
 (sms_if (smt_t (f1 := false) (sm_op (f1 := false) (f2 := false) opd_eq (sm_ix (f2 := false) (sm_var 2) (sm_int _)) (sm_var 1)))
 (sms_ret (sm_ix (f2 := false) (sm_var 2) (sm_int _)))
 sms_next))
 (sms_ret (sm_tup sma_nil))), ?_⟩
  rintro rs Φ ⟨g, l, rfl, hl, h⟩
  refine seq_by (fun δ => ∃ y2 : Option R, tgtL g l = [] ∧ δ = [some (.d (.tuple (g.map grD))), some (.d (.int l)), y2]) (fun δ hI => ?_) (fun N hN => ?_)
  · obtain ⟨y2, e, rfl⟩ := hI
    rw [e] at h
    simpa using h
  obtain ⟨GD, hGD⟩ : ∃ x : PyData, x = .tuple (g.map grD) := ⟨_, rfl⟩
  rw [← hGD]
  obtain ⟨I, hI⟩ : ∃ I : Nat → Dl → Prop, ∀ k δ, I k δ ↔ ∃ y2 : Option R, (∀ r ∈ g.take k, r.1 ≠ l) ∧ δ = [some (.d GD), some (.d (.int l)), y2] := ⟨_, fun _ _ => Iff.rfl⟩
  refine dFor_w (xs := g.map grD) (fun Ψ h => by simpa [hGD] using h) I ((hI _ _).mpr ⟨none, by simp, rfl⟩) (fun k y δ hy hJ => ?_) (fun δ hJ => ?_)
  · obtain ⟨y2, h1, rfl⟩ := (hI _ _).mp hJ
    rw [List.getElem?_map] at hy
    obtain ⟨x, hx, rfl⟩ := Option.map_eq_some_iff.mp hy
    have hk : k < g.length := (List.getElem?_eq_some_iff.mp hx).1
    simp [grD]
    split
    · rename_i e
      have ef : tgtL g l = x.2 := by
        have e1 : g = g.take k ++ x :: g.drop (k + 1) := by
          have e2 : g[k] = x := (List.getElem?_eq_some_iff.mp hx).2
          rw [← e2, ← List.drop_eq_getElem_cons hk, List.take_append_drop]
        have e3 : g.find? (fun r => decide (r.1 = l)) = some x := by
          rw [e1, List.find?_append, List.find?_eq_none.mpr fun r hr => by simpa using h1 r hr]
          simp [e]
        unfold tgtL
        rw [e3]
      rw [ef] at h
      exact h
    · rename_i e
      refine (hI _ _).mpr ⟨_, fun r hr => ?_, rfl⟩
      rw [List.take_add_one, hx] at hr
      rcases List.mem_append.mp hr with hr | hr
      · exact h1 r hr
      · have z : r = x := by simpa using hr
        rw [z]
        exact e
  · obtain ⟨y2, h1, rfl⟩ := (hI _ _).mp hJ
    rw [List.length_map, List.take_length] at h1
    refine hN _ ⟨_, ?_, by rw [hGD]⟩
    unfold tgtL
    rw [List.find?_eq_none.mpr fun r hr => by simpa using h1 r hr]

/-! ### what is reached: the law's own walk -/
def addT (cut : Int) (fs : List Int) (t : Int) : List Int := if t ≠ cut ∧ t ∉ fs then fs ++ [t] else fs
def bfs1 (g : Gr) (cut : Int) (fs : List Int) (k : Nat) : List Int := match fs[k]? with
  | some x => (tgtL g x).foldl (addT cut) fs
  | none => fs
def bfs (g : Gr) (cut : Int) (fs : List Int) (n : Nat) : List Int := (List.range n).foldl (bfs1 g cut) fs
theorem bfs_succ (g : Gr) (cut : Int) (fs : List Int) (n : Nat) : bfs g cut fs (n + 1) = bfs1 g cut (bfs g cut fs n) n := by
  unfold bfs
  rw [List.range_succ, List.foldl_append]
  rfl
theorem foldl_add_len {cut : Int} : ∀ (ts fs : List Int), (ts.foldl (addT cut) fs).length ≤ fs.length + ts.length
  | [], fs => Nat.le_refl _
  | t :: ts, fs => by
    have h := foldl_add_len (cut := cut) ts (addT cut fs t)
    have h2 : (addT cut fs t).length ≤ fs.length + 1 := by
      unfold addT
      split
      · simp
      · omega
    rw [List.foldl_cons, List.length_cons]
    omega
theorem inD_int (v : Int) : ∀ vs : List Int, inD (.int v) (vs.map PyData.int) = decide (v ∈ vs)
  | [] => by simp [inD]
  | u :: vs => by
    have ih := inD_int v vs
    have e : inD (.int v) ((u :: vs).map PyData.int) = (PyData.eqv (.int u) (.int v) || inD (.int v) (vs.map PyData.int)) := rfl
    have inj : (u = v) = (v = u) := propext eq_comm
    rw [e, ih, Bool.eq_iff_iff]
    simp [inj]
theorem bfs_len {g : Gr} {cut : Int} {fs : List Int} (h : ∀ x, (tgtL g x).length ≤ 40) : ∀ n, (bfs g cut fs n).length ≤ fs.length + 40 * n
  | 0 => Nat.le_refl _
  | n + 1 => by
    have ih := bfs_len (cut := cut) (fs := fs) h n
    rw [bfs_succ]
    unfold bfs1
    split
    · rename_i x hx
      have := foldl_add_len (cut := cut) (tgtL g x) (bfs g cut fs n)
      have := h x
      omega
    · omega
def vp__law_reached : VSp := fun rs Φ => ∃ (g : Gr) (f : List Int) (cut : Int), rs = [.d (.tuple (g.map grD)), .d (.list (f.map .int)), .d (.int cut)] ∧ g.length ≤ 1000 ∧ f.length ≤ 1000 ∧ (∀ x, (tgtL g x).length ≤ 40) ∧
  ∀ ms : List Int, ms.Perm (bfs g cut (f.filter fun x => decide (x ≠ cut)) g.length) → ms.Pairwise (· ≤ ·) → Φ (.own (ms.map .int))
theorem len__law_reached : ∀ rs Φ, vp__law_reached rs Φ → rs.length = 3 := fun rs Φ ⟨_, _, _, e, _⟩ => by rw [e]; rfl
theorem G__law_reached (T : Txt K mg) : FnOk P w K mg base CX0 2 T.f__law_reached T.fd__law_reached ["graph", "first", "cut"] (toSp K 3 vp__law_reached) := by
  refine fn_ok T.F__law_reached sc__law_reached fun cdv A outer s H E hr => ⟨_, (pss_cons (ps_setLc (i := 3) (own := [("label", 5)]) (g := gName 5) rfl sc__law_reached.nd rfl rfl (sw_true rfl rfl rfl (by decide +kernel)) ((kpi_list (K := K) rfl (pv 1))) (blkOk_by (N := ["graph", "first", "cut", "found", "k", "label", "target"]) (sc := defScope s_law_reached) (by decide +kernel)) (fun _ _ _ _ _ => pg_name (i := 5) sc__law_reached.nd rfl (Or.inl rfl)) (fun _ _ _ _ _ => pts_one (pt_cmpR op_ne (pv 5) (pv 2) (nomark _))) (fun _ _ _ _ _ => (pv 5)))
 (pss_cons (ps_for PassesOwn.never rfl (pi_range1 rfl T.range (pa_cons (pe_callB (kx_len (K := K) rfl) (by rfl) T.len PySem.boot_len (pa_cons (pv 0) pa_nil)) pa_nil)) (pg_name (i := 4) sc__law_reached.nd rfl (Or.inl rfl)) (pss_one (ps_if (pt_cmpR op_lt (pv 4) (pe_callB (kx_len (K := K) rfl) (by rfl) T.len PySem.boot_len (pa_cons (pv 3) pa_nil)) (nomark _)) (pss_one (ps_for PassesOwn.never rfl ((kpi_tup (K := K) rfl (pe_call (G__law_targets T) hr (by rfl) T.g__law_targets T.F__law_targets.kp T.b__law_targets .nil pass0 (pa_cons (pv 0) (pa_cons (pe_ix (kx_seq (K := K) rfl) (pv 3) (pv 4) (fun _ _ => rfl)) pa_nil))))) (pg_name (i := 6) sc__law_reached.nd rfl (Or.inl rfl)) (pss_one (ps_if (PW.pt (pw_and (pt_cmpR op_ne (pv 6) (pv 2) (nomark _)) (pw_and1 (pt_cmpR (kx_notIn (K := K) rfl) (pv 6) (pv 3) (by rfl))))) (pss_one (ps_expr (pe_bm PySem.F.plainAttrs_list PySem.F.slot_list_append PySem.F.type_list_append mt_append (pv 3) (pa_cons (pv 6) pa_nil)))) pss_nil)))) pss_nil)))
 (pss_one (ps_ret (pe_callB (kx_sortedI (K := K) rfl) (by rfl) T.sorted (by decide +kernel) (pa_cons (pv 3) pa_nil)))))), _, fun ex He Hf => (sms_seq (sms_setO 3 (smo_lc (i := 5) (smi_list (sm_var 1)) (smt_t (f1 := false) (sm_op (f1 := false) (f2 := false) opd_ne (sm_var 5) (sm_var 2))) (sm_var 5)))
 (sms_seq (sms_for (smi_rng1 (f1 := false) (sm_cb (f1 := false) cbd_len (sma_cons (sm_var 0) sma_nil))) (smg_name 4)
 (sms_if (smt_t (f1 := false) (sm_op (f1 := false) (f2 := false) (opd_I0 (g' := fun i j => .bool (decide (i < j))) fun _ _ => rfl) (sm_var 4) (sm_cb (f1 := false) cbd_len (sma_cons (sm_varO 3) sma_nil))))
 (sms_for (smi_tup (sm_call len__law_targets (smq_cons (sm_var 0) (smq_cons (sm_ixO (f2 := false) 3 (sm_var 4)) smq_nil)))) (smg_name 6)
 (sms_if (smt_and (smt_t (f1 := false) (sm_op (f1 := false) (f2 := false) opd_ne (sm_var 6) (sm_var 2))) (smt_t (f1 := false) (sm_op (f1 := false) (f2 := false) (opd_in true) (sm_var 6) (sm_varO 3))))
 (sms_app 3 (sm_var 6))
 sms_next))
 sms_next))
 (sms_frz 3 (sms_retNew (smo_sorted (sm_var 3)))))), ?_⟩
  rintro rs Φ ⟨g, f, cut, rfl, hl, hf, ht, h⟩
  refine seq_op fun N hN => ?_
  simp
  refine oLc_filter f PyData.int PyData.int (fun x => decide (x ≠ cut)) (by omega) (fun Ψ hΨ => by simpa using hΨ) (fun k a Ψ ha hΨ => by by_cases c : a = cut <;> simp [c] at hΨ ⊢ <;> exact hΨ) (fun k a Ψ ha _ hΨ => by simpa using hΨ) ?_
  intro o
  refine hN _ ?_
  clear hN N
  obtain ⟨f0, hf0⟩ : ∃ x, x = f.filter fun x => decide (x ≠ cut) := ⟨_, rfl⟩
  have l0 : f0.length ≤ 1000 := by rw [hf0]; exact Nat.le_trans (List.length_filter_le _ _) hf
  rw [← hf0] at h ⊢
  obtain ⟨GD, hGD⟩ : ∃ x : PyData, x = .tuple (g.map grD) := ⟨_, rfl⟩
  obtain ⟨FD, hFD⟩ : ∃ x : PyData, x = .list (f.map .int) := ⟨_, rfl⟩
  rw [← hGD, ← hFD]
  refine seq_by (fun δ => ∃ y4 y5 y6 : Option R, δ = [some (.d GD), some (.d FD), some (.d (.int cut)), some (.own o ((bfs g cut f0 g.length).map .int)), y4, y5, y6]) (fun δ hI => ?_) (fun N hN => ?_)
  · obtain ⟨y4, y5, y6, rfl⟩ := hI
    simp
    exact ⟨_, rfl, h⟩
  obtain ⟨I, hI⟩ : ∃ I : Nat → Dl → Prop, ∀ k δ, I k δ ↔ ∃ y4 y5 y6 : Option R, δ = [some (.d GD), some (.d FD), some (.d (.int cut)), some (.own o ((bfs g cut f0 k).map .int)), y4, y5, y6] := ⟨_, fun _ _ => Iff.rfl⟩
  refine dFor_n (n := g.length) (by omega) (fun Ψ h => by simpa [hGD] using h) I ((hI _ _).mpr ⟨_, _, _, rfl⟩) (fun k δ hk hJ => ?_) (fun δ hJ => ?_)
  rotate_left
  · obtain ⟨y4, y5, y6, rfl⟩ := (hI _ _).mp hJ
    exact hN _ ⟨_, _, _, rfl⟩
  obtain ⟨y4, y5, y6, rfl⟩ := (hI _ _).mp hJ
  have bl := bfs_len (cut := cut) (fs := f0) ht k
  obtain ⟨fs, hfs⟩ : ∃ x, x = bfs g cut f0 k := ⟨_, rfl⟩
  have nx : I (k + 1) = fun δ => ∃ y4 y5 y6 : Option R, δ = [some (.d GD), some (.d FD), some (.d (.int cut)), some (.own o ((bfs1 g cut fs k).map .int)), y4, y5, y6] := by
    funext δ
    rw [hfs, ← bfs_succ]
    exact propext (hI _ _)
  rw [← hfs] at bl ⊢
  by_cases c : k < fs.length
  · have hx : fs[k]? = some fs[k] := List.getElem?_eq_getElem c
    generalize fs[k] = x at hx
    have e1 : bfs1 g cut fs k = (tgtL g x).foldl (addT cut) fs := by unfold bfs1; rw [hx]
    rw [e1] at nx
    simp [c]
    obtain ⟨J, hJ2⟩ : ∃ J : Nat → Dl → Prop, ∀ j δ, J j δ ↔ ∃ y5 y6 : Option R, δ = [some (.d GD), some (.d FD), some (.d (.int cut)), some (.own o ((((tgtL g x).take j).foldl (addT cut) fs).map .int)), some (.d (.int k)), y5, y6] := ⟨_, fun _ _ => Iff.rfl⟩
    refine dFor_w (xs := (tgtL g x).map PyData.int) (fun Ψ h => ?_) J ((hJ2 _ _).mpr ⟨_, _, rfl⟩) (fun j y δ hy hJ => ?_) (fun δ hJ => ?_)
    · simp
      exact ⟨.int x, int_at hx, g, x, by rw [hGD], hl, _, rfl, h⟩
    · obtain ⟨y5, y6, rfl⟩ := (hJ2 _ _).mp hJ
      rw [List.getElem?_map] at hy
      obtain ⟨t, hyt, rfl⟩ := Option.map_eq_some_iff.mp hy
      have fl := foldl_add_len (cut := cut) ((tgtL g x).take j) fs
      have tl := ht x
      have fj : ((tgtL g x).take (j + 1)).foldl (addT cut) fs = addT cut (((tgtL g x).take j).foldl (addT cut) fs) t := by
        rw [List.take_add_one, hyt, List.foldl_append]
        rfl
      have nj : J (j + 1) = fun δ => ∃ y5 y6 : Option R, δ = [some (.d GD), some (.d FD), some (.d (.int cut)), some (.own o ((addT cut (((tgtL g x).take j).foldl (addT cut) fs) t).map .int)), some (.d (.int k)), y5, y6] := by
        funext δ
        rw [← fj]
        exact propext (hJ2 _ _)
      rw [List.length_take] at fl
      generalize ((tgtL g x).take j).foldl (addT cut) fs = L at nj fl ⊢
      have ls : L.length < sizeLine := Nat.lt_of_lt_of_le (show L.length < 100000 by omega) (by decide)
      rw [nj]
      unfold addT
      simp
      by_cases c1 : t = cut
      · simp [c1]
      · by_cases c2 : t ∈ L
        · simp [c1, inD_int, c2]
        · simp [c1, inD_int, c2]
          exact ls
    · obtain ⟨y5, y6, rfl⟩ := (hJ2 _ _).mp hJ
      rw [List.length_map, List.take_length]
      rw [nx]
      exact ⟨_, _, _, rfl⟩
  · have e1 : bfs1 g cut fs k = fs := by unfold bfs1; rw [List.getElem?_eq_none (by omega)]
    rw [e1] at nx
    simp [c]
    rw [nx]
    exact ⟨_, _, _, rfl⟩


/-! ### the edges of an end -/
def End.es : End → List Edg
  | .br e => [e]
  | .con _ e f => [e, f]
  | .sw _ cs d => cs.map (·.2) ++ [d]
  | .retN => []
  | .ret _ => []
  | .stop _ => []
def vp_edges : VSp := fun rs Φ => ∃ e : End, rs = [.d e.D] ∧ e.es.length ≤ 1000 ∧ Φ (.own (e.es.map Edg.D))
theorem len_edges : ∀ rs Φ, vp_edges rs Φ → rs.length = 1 := fun rs Φ ⟨_, e, _⟩ => by rw [e]; rfl
theorem G_edges (T : Txt K mg) : FnOk P w K mg base CX0 1 T.f_edges T.fd_edges ["end"] (toSp K 1 vp_edges) := by
  refine fn_ok T.F_edges sc_edges fun cdv A outer s H E hr => ⟨_, (pss_cons (ps_if (pt_cmpR op_eq (pe_ix (kx_seq (K := K) rfl) (pv 0) pe_int (fun _ _ => rfl)) pe_str (nomark _)) (pss_one (ps_ret (pe_lst (pa_cons (pe_ix (kx_seq (K := K) rfl) (pv 0) pe_int (fun _ _ => rfl)) pa_nil)))) pss_nil)
 (pss_cons (ps_if (pt_cmpR op_eq (pe_ix (kx_seq (K := K) rfl) (pv 0) pe_int (fun _ _ => rfl)) pe_str (nomark _)) (pss_one (ps_ret (pe_lst (pa_cons (pe_ix (kx_seq (K := K) rfl) (pv 0) pe_int (fun _ _ => rfl)) (pa_cons (pe_ix (kx_seq (K := K) rfl) (pv 0) pe_int (fun _ _ => rfl)) pa_nil))))) pss_nil)
 (pss_cons (ps_if (pt_cmpR op_eq (pe_ix (kx_seq (K := K) rfl) (pv 0) pe_int (fun _ _ => rfl)) pe_str (nomark _)) (pss_one (ps_ret (pe_op op_cat (pe_lc (own := [("case", 1)]) (g := gName 1) (tt := tYes) rfl sc_edges.nd ((kpi_tup (K := K) rfl (pe_ix (kx_seq (K := K) rfl) (pv 0) pe_int (fun _ _ => rfl)))) (blkOk_by (N := ["end", "case"]) (sc := defScope sedges) (by decide +kernel)) (fun _ _ _ _ _ => pg_name (i := 1) sc_edges.nd rfl (Or.inl rfl)) (fun _ _ _ _ _ => pts_nil) (fun _ _ _ _ _ => (pe_ix (kx_seq (K := K) rfl) (pv 1) pe_int (fun _ _ => rfl)))) (pe_lst (pa_cons (pe_ix (kx_seq (K := K) rfl) (pv 0) pe_int (fun _ _ => rfl)) pa_nil))))) pss_nil)
 (pss_one (ps_ret (pe_lst pa_nil)))))), _, fun ex He Hf => (sms_seq (sms_if (smt_t (f1 := false) (sm_op (f1 := false) (f2 := false) opd_eq (sm_ix (f2 := false) (sm_var 0) (sm_int _)) (sm_str _)))
 (sms_retNew (smo_lst (sma_cons (sm_ix (f2 := false) (sm_var 0) (sm_int _)) sma_nil)))
 sms_next)
 (sms_seq (sms_if (smt_t (f1 := false) (sm_op (f1 := false) (f2 := false) opd_eq (sm_ix (f2 := false) (sm_var 0) (sm_int _)) (sm_str _)))
 (sms_retNew (smo_lst (sma_cons (sm_ix (f2 := false) (sm_var 0) (sm_int _)) (sma_cons (sm_ix (f2 := false) (sm_var 0) (sm_int _)) sma_nil))))
 sms_next)
 (sms_seq (sms_if (smt_t (f1 := false) (sm_op (f1 := false) (f2 := false) opd_eq (sm_ix (f2 := false) (sm_var 0) (sm_int _)) (sm_str _)))
 (sms_retNew (smo_cat (SmO.sm (smo_lc (i := 1) (smi_tup (sm_ix (f2 := false) (sm_var 0) (sm_int _))) smt_yes (sm_ix (f2 := false) (sm_var 1) (sm_int _)))) (SmO.sm (smo_lst (sma_cons (sm_ix (f2 := false) (sm_var 0) (sm_int _)) sma_nil)))))
 sms_next)
 (sms_retNew (smo_lst sma_nil))))), ?_⟩
  rintro rs Φ ⟨e, rfl, hl, h⟩
  cases e with
  | sw o cs d =>
    simp [End.es] at hl
    simp [End.D, le_size, lt_size, cmul_l, cpow_l, cdiv_l]
    refine oLc_of cs caseD (fun c => c.2.D) (by omega) (fun Ψ hΨ => by simpa using hΨ) (fun k c Ψ hc hΨ => ?_) ?_
    · simpa [caseD] using hΨ
    · simp [End.es] at h
      simp
      exact ⟨fz3 (by omega), h⟩
  | _ => simpa [End.D, End.es, le_size, lt_size, cmul_l, cpow_l, cdiv_l] using h


/-! ### graph_of -/
def edgF : PyData → PyData
  | .tuple [.int l, _] => .int l
  | x => x
def blkR (b : Blk) : Int × List Int := (b.lb, b.en.es.map (·.lb))
def vp_graph_of : VSp := fun rs Φ => ∃ f : Fn, rs = [.d f.D] ∧ f.bs.length ≤ 1000 ∧ (∀ b ∈ f.bs, b.en.es.length ≤ 1000) ∧ Φ (.d (.tuple (f.bs.map fun b => grD (blkR b))))
theorem len_graph_of : ∀ rs Φ, vp_graph_of rs Φ → rs.length = 1 := fun rs Φ ⟨_, e, _⟩ => by rw [e]; rfl
theorem G_graph_of (T : Txt K mg) : FnOk P w K mg base CX0 2 T.f_graph_of T.fd_graph_of ["function"] (toSp K 1 vp_graph_of) := by
  refine fn_ok T.F_graph_of sc_graph_of fun cdv A outer s H E hr => ⟨_, (pss_cons (ps_set (i := 1) sc_graph_of.nd rfl (Or.inl rfl) (pe_lst pa_nil))
 (pss_cons (ps_for PassesOwn.never rfl ((kpi_tup (K := K) rfl (pe_ix (kx_seq (K := K) rfl) (pv 0) pe_int (fun _ _ => rfl)))) (pg_name (i := 2) sc_graph_of.nd rfl (Or.inl rfl)) (pss_one (ps_expr (pe_bm PySem.F.plainAttrs_list PySem.F.slot_list_append PySem.F.type_list_append mt_append (pv 1) (pa_cons (pe_tup (pa_cons (pe_ix (kx_seq (K := K) rfl) (pv 2) pe_int (fun _ _ => rfl)) (pa_cons (pe_callTy (kx_tuple (K := K) rfl) (by rfl) T.tuple (by decide +kernel) (pa_cons (pe_lc (own := [("label", 3), ("_", 4)]) (g := gTup K 2 (gCons (gName 3) (gCons (gName 4) gNil))) (tt := tYes) rfl sc_graph_of.nd ((kpi_list (K := K) rfl (pe_call (G_edges T) hr (by rfl) T.g_edges T.F_edges.kp T.b_edges .nil pass0 (pa_cons (pe_ix (kx_seq (K := K) rfl) (pv 2) pe_int (fun _ _ => rfl)) pa_nil)))) (blkOk_by (N := ["function", "rows", "block", "label", "_"]) (sc := defScope sgraph_of) (by decide +kernel)) (fun _ _ _ _ _ => (pg_tup (n := 2) rfl (pgs_cons (pg_name (i := 3) sc_graph_of.nd rfl (Or.inl rfl)) (pgs_cons (pg_name (i := 4) sc_graph_of.nd rfl (Or.inl rfl)) pgs_nil)))) (fun _ _ _ _ _ => pts_nil) (fun _ _ _ _ _ => (pv 3))) pa_nil)) pa_nil))) pa_nil)))))
 (pss_one (ps_ret (pe_callTy (kx_tuple (K := K) rfl) (by rfl) T.tuple (by decide +kernel) (pa_cons (pv 1) pa_nil)))))), _, fun ex He Hf => (sms_seq (sms_setO 1 (smo_lst sma_nil))
 (sms_seq (sms_for (smi_tup (sm_ix (f2 := false) (sm_var 0) (sm_int _))) (smg_name 2)
 (sms_app 1 (sm_tup (sma_cons (sm_ix (f2 := false) (sm_var 2) (sm_int _)) (sma_cons (sm_tuple (SmO.sm (smo_lcG (own := [3, 4]) (kps_tup (kps_cons (by decide) (kps_cons (by decide) kps_nil))) (smi_list (SmO.sm (smo_call len_edges (smq_cons (sm_ix (f2 := false) (sm_var 2) (sm_int _)) smq_nil)))) (smg_tup (smg_cons (smg_name 3) (smg_cons (smg_name 4) smg_nil))) smt_yes (sm_var 3)))) sma_nil)))))
 (sms_frz 1 (sms_ret (sm_tuple (sm_var 1)))))), ?_⟩
  rintro rs Φ ⟨f, rfl, hl, he, h⟩
  obtain ⟨FD, hFD⟩ : ∃ x : PyData, x = f.D := ⟨_, rfl⟩
  rw [← hFD]
  refine seq_op fun N hN => ?_
  simp
  intro o
  refine hN _ ?_
  clear hN N
  refine seq_by (fun δ => ∃ y2 y3 y4 : Option R, δ = [some (.d FD), some (.own o (f.bs.map fun b => grD (blkR b))), y2, y3, y4]) (fun δ hI => ?_) (fun N hN => ?_)
  · obtain ⟨y2, y3, y4, rfl⟩ := hI
    simp
    exact h
  obtain ⟨I, hI⟩ : ∃ I : Nat → Dl → Prop, ∀ k δ, I k δ ↔ ∃ y2 y3 y4 : Option R, δ = [some (.d FD), some (.own o ((f.bs.take k).map fun b => grD (blkR b))), y2, y3, y4] := ⟨_, fun _ _ => Iff.rfl⟩
  refine dFor_w (xs := f.bs.map Blk.D) (fun Ψ hΨ => by simpa [hFD, Fn.D] using hΨ) I ((hI _ _).mpr ⟨none, none, none, rfl⟩) (fun k y δ hy hJ => ?_) (fun δ hJ => ?_)
  rotate_left
  · obtain ⟨y2, y3, y4, rfl⟩ := (hI _ _).mp hJ
    rw [List.length_map, List.take_length]
    exact hN _ ⟨_, _, _, rfl⟩
  obtain ⟨y2, y3, y4, rfl⟩ := (hI _ _).mp hJ
  rw [List.getElem?_map] at hy
  obtain ⟨b, hb, rfl⟩ := Option.map_eq_some_iff.mp hy
  have hbl := he b (List.mem_of_getElem? hb)
  have hk : k < f.bs.length := (List.getElem?_eq_some_iff.mp hb).1
  simp [Blk.D]
  refine oLcG_map edgF (xs := b.en.es.map Edg.D) (by rw [List.length_map]; omega) (fun Ψ hΨ => ?_) (fun j y Ψ hy hΨ => ?_) ?_
  · simp
    exact ⟨b.en, rfl, hbl, _, rfl, hΨ⟩
  · rw [List.getElem?_map] at hy
    obtain ⟨e, he2, rfl⟩ := Option.map_eq_some_iff.mp hy
    simp [dwipe, Edg.D]
    exact hΨ
  · rw [List.map_map]
    have e : (b.en.es.map (edgF ∘ Edg.D)) = (b.en.es.map (·.lb)).map PyData.int := by rw [List.map_map]; rfl
    have e2 : grD (blkR b) = .tuple [.int b.lb, .tuple (List.map (PyData.int ∘ fun x => x.lb) b.en.es)] := by unfold grD blkR; rw [List.map_map]
    have fin : ∀ y2 y3 y4 : Option R, I (k + 1) [some (.d FD), some (.own o (List.take k (List.map (fun b => grD (blkR b)) f.bs) ++ [grD (blkR b)])), y2, y3, y4] := fun y2 y3 y4 => (hI _ _).mpr ⟨y2, y3, y4, by rw [List.take_add_one, hb, List.map_append, ← List.map_take]; rfl⟩
    rw [e2] at fin
    rw [e]
    simp [le_size, lt_size, cmul_l, cpow_l, cdiv_l]
    exact ⟨Nat.lt_of_le_of_lt (show min k f.bs.length ≤ 100000 by omega) (by decide), fin _ _ _⟩

/-! ### the law's ends -/
def edg0 (t : Int) : Edg := ⟨t, []⟩
def vp__law_end : VSp := fun rs Φ => ∃ (ts : List Int) (k : Nat), rs = [.drw, .d (.tuple (ts.map .int)), .d (.int k)] ∧ ts.length ≤ 10 ∧ k ≤ 1000 ∧ ∀ e : End, e.es.map (·.lb) = ts → Φ (.d e.D)
theorem len__law_end : ∀ rs Φ, vp__law_end rs Φ → rs.length = 3 := fun rs Φ ⟨_, _, e, _⟩ => by rw [e]; rfl
theorem G__law_end (T : Txt K mg) : FnOk P w K mg base CX0 2 T.f__law_end T.fd__law_end ["draw", "targets", "k"] (toSp K 3 vp__law_end) := by
  refine fn_ok T.F__law_end sc__law_end fun cdv A outer s H E hr => ⟨_, (pss_cons (ps_set (i := 3) sc__law_end.nd rfl (Or.inr rfl) (pe_lc (own := [("target", 5)]) (g := gName 5) (tt := tYes) rfl sc__law_end.nd ((kpi_tup (K := K) rfl (pv 1))) (blkOk_by (N := ["draw", "targets", "k", "edges_v", "cases", "target", "j"]) (sc := defScope s_law_end) (by decide +kernel)) (fun _ _ _ _ _ => pg_name (i := 5) sc__law_end.nd rfl (Or.inl rfl)) (fun _ _ _ _ _ => pts_nil) (fun _ _ _ _ _ => (pe_tup (pa_cons (pv 5) (pa_cons (pe_tup pa_nil) pa_nil))))))
 (pss_cons (ps_if (pt_cmpR op_eq (pe_callB (kx_len (K := K) rfl) (by rfl) T.len PySem.boot_len (pa_cons (pv 3) pa_nil)) pe_int (nomark _)) (pss_cons (ps_if (pt_cmpR op_eq (pe_op op_mod (pv 2) pe_int) pe_int (nomark _)) (pss_one (ps_ret (pe_tup (pa_cons pe_str (pa_cons (pe_tup (pa_cons pe_str (pa_cons pe_str (pa_cons (pv 2) pa_nil)))) pa_nil))))) pss_nil)
 (pss_one (ps_ret (pe_tup (pa_cons pe_str (pa_cons (pv 2) pa_nil)))))) pss_nil)
 (pss_cons (ps_if (pt_cmpR op_eq (pe_callB (kx_len (K := K) rfl) (by rfl) T.len PySem.boot_len (pa_cons (pv 3) pa_nil)) pe_int (nomark _)) (pss_cons (ps_if (pt_cmpR op_eq (pe_call (G__law_take T) hr (by rfl) T.g__law_take T.F__law_take.kp T.b__law_take .nil pass0 (pa_cons (pv 0) (pa_cons pe_int pa_nil))) pe_int (nomark _)) (pss_one (ps_ret (pe_tup (pa_cons pe_str (pa_cons (pe_tup (pa_cons pe_str (pa_cons pe_str (pa_cons pe_int pa_nil)))) (pa_cons (pe_tup pa_nil) (pa_cons (pe_ix (kx_seq (K := K) rfl) (pv 3) pe_int (fun _ _ => rfl)) pa_nil))))))) pss_nil)
 (pss_one (ps_ret (pe_tup (pa_cons pe_str (pa_cons (pe_ix (kx_seq (K := K) rfl) (pv 3) pe_int (fun _ _ => rfl)) pa_nil)))))) pss_nil)
 (pss_cons (ps_if (PW.pt (pw_and (pt_cmpR op_eq (pe_callB (kx_len (K := K) rfl) (by rfl) T.len PySem.boot_len (pa_cons (pv 3) pa_nil)) pe_int (nomark _)) (pw_and1 (pt_cmpR op_gt (pe_call (G__law_take T) hr (by rfl) T.g__law_take T.F__law_take.kp T.b__law_take .nil pass0 (pa_cons (pv 0) (pa_cons pe_int pa_nil))) pe_int (nomark _))))) (pss_one (ps_ret (pe_tup (pa_cons pe_str (pa_cons (pe_tup (pa_cons pe_str (pa_cons pe_str (pa_cons pe_int pa_nil)))) (pa_cons (pe_ix (kx_seq (K := K) rfl) (pv 3) pe_int (fun _ _ => rfl)) (pa_cons (pe_ix (kx_seq (K := K) rfl) (pv 3) pe_int (fun _ _ => rfl)) pa_nil))))))) pss_nil)
 (pss_cons (ps_setLc (i := 4) (own := [("j", 6)]) (g := gName 6) (tt := tYes) rfl sc__law_end.nd rfl rfl (sw_true rfl rfl rfl (by decide +kernel)) (pi_range1 rfl T.range (pa_cons (pe_op op_sub (pe_callB (kx_len (K := K) rfl) (by rfl) T.len PySem.boot_len (pa_cons (pv 3) pa_nil)) pe_int) pa_nil)) (blkOk_by (N := ["draw", "targets", "k", "edges_v", "cases", "target", "j"]) (sc := defScope s_law_end) (by decide +kernel)) (fun _ _ _ _ _ => pg_name (i := 6) sc__law_end.nd rfl (Or.inl rfl)) (fun _ _ _ _ _ => pts_nil) (fun _ _ _ _ _ => (pe_tup (pa_cons (pe_op op_add (pe_op op_mul pe_int (pv 6)) (pv 2)) (pa_cons (pe_ix (kx_seq (K := K) rfl) (pv 3) (pv 6) (fun _ _ => rfl)) pa_nil)))))
 (pss_one (ps_ret (pe_tup (pa_cons pe_str (pa_cons (pe_tup (pa_cons pe_str (pa_cons pe_str (pa_cons pe_int pa_nil)))) (pa_cons (pe_callTy (kx_tuple (K := K) rfl) (by rfl) T.tuple (by decide +kernel) (pa_cons (pv 4) pa_nil)) (pa_cons (pe_ix (kx_seq (K := K) rfl) (pv 3) (pe_op op_sub (pe_callB (kx_len (K := K) rfl) (by rfl) T.len PySem.boot_len (pa_cons (pv 3) pa_nil)) pe_int) (fun _ _ => rfl)) pa_nil)))))))))))), _, fun ex He Hf => (sms_seq (sms_asg (SmO.sm (smo_lc (i := 5) (smi_tup (sm_var 1)) smt_yes (sm_tup (sma_cons (sm_var 5) (sma_cons (sm_tup sma_nil) sma_nil))))) (smg_name 3))
 (sms_seq (sms_if (smt_t (f1 := false) (sm_op (f1 := false) (f2 := false) opd_eq (sm_cb (f1 := false) cbd_len (sma_cons (sm_var 3) sma_nil)) (sm_int _)))
 (sms_seq (sms_if (smt_t (f1 := false) (sm_op (f1 := false) (f2 := false) opd_eq (sm_op (f1 := false) (f2 := false) (opd_I (g' := fun i j => .int (i % j)) fun _ _ => rfl) (sm_var 2) (sm_int _)) (sm_int _)))
 (sms_ret (sm_tup (sma_cons (sm_str _) (sma_cons (sm_tup (sma_cons (sm_str _) (sma_cons (sm_str _) (sma_cons (sm_var 2) sma_nil)))) sma_nil))))
 sms_next)
 (sms_ret (sm_tup (sma_cons (sm_str _) (sma_cons (sm_var 2) sma_nil)))))
 sms_next)
 (sms_seq (sms_if (smt_t (f1 := false) (sm_op (f1 := false) (f2 := false) opd_eq (sm_cb (f1 := false) cbd_len (sma_cons (sm_var 3) sma_nil)) (sm_int _)))
 (sms_seq (sms_if (smt_t (f1 := false) (sm_op (f1 := false) (f2 := false) opd_eq (sm_call len__law_take (smq_drw 0 (smq_cons (sm_int _) smq_nil))) (sm_int _)))
 (sms_ret (sm_tup (sma_cons (sm_str _) (sma_cons (sm_tup (sma_cons (sm_str _) (sma_cons (sm_str _) (sma_cons (sm_int _) sma_nil)))) (sma_cons (sm_tup sma_nil) (sma_cons (sm_ix (f2 := false) (sm_var 3) (sm_int _)) sma_nil))))))
 sms_next)
 (sms_ret (sm_tup (sma_cons (sm_str _) (sma_cons (sm_ix (f2 := false) (sm_var 3) (sm_int _)) sma_nil)))))
 sms_next)
 (sms_seq (sms_if (smt_and (smt_t (f1 := false) (sm_op (f1 := false) (f2 := false) opd_eq (sm_cb (f1 := false) cbd_len (sma_cons (sm_var 3) sma_nil)) (sm_int _))) (smt_t (f1 := false) (sm_op (f1 := false) (f2 := false) (opd_I0 (g' := fun i j => .bool (decide (j < i))) fun _ _ => rfl) (sm_call len__law_take (smq_drw 0 (smq_cons (sm_int _) smq_nil))) (sm_int _))))
 (sms_ret (sm_tup (sma_cons (sm_str _) (sma_cons (sm_tup (sma_cons (sm_str _) (sma_cons (sm_str _) (sma_cons (sm_int _) sma_nil)))) (sma_cons (sm_ix (f2 := false) (sm_var 3) (sm_int _)) (sma_cons (sm_ix (f2 := false) (sm_var 3) (sm_int _)) sma_nil))))))
 sms_next)
 (sms_seq (sms_asg (SmO.sm (smo_lc (i := 6) (smi_rng1 (f1 := false) (sm_op (f1 := false) (f2 := false) (opd_I0 (g' := fun i j => .int (i - j)) fun _ _ => rfl) (sm_cb (f1 := false) cbd_len (sma_cons (sm_var 3) sma_nil)) (sm_int _))) smt_yes (sm_tup (sma_cons (sm_op (f1 := false) (f2 := false) (opd_I0 (g' := fun i j => .int (i + j)) fun _ _ => rfl) (sm_op (f1 := false) (f2 := false) (opd_I (g' := fun i j => .int (i * j)) fun _ _ => rfl) (sm_int _) (sm_var 6)) (sm_var 2)) (sma_cons (sm_ix (f2 := false) (sm_var 3) (sm_var 6)) sma_nil))))) (smg_name 4))
 (sms_ret (sm_tup (sma_cons (sm_str _) (sma_cons (sm_tup (sma_cons (sm_str _) (sma_cons (sm_str _) (sma_cons (sm_int _) sma_nil)))) (sma_cons (sm_tuple (sm_var 4)) (sma_cons (sm_ix (f2 := false) (sm_var 3) (sm_op (f1 := false) (f2 := false) (opd_I0 (g' := fun i j => .int (i - j)) fun _ _ => rfl) (sm_cb (f1 := false) cbd_len (sma_cons (sm_var 3) sma_nil)) (sm_int _))) sma_nil))))))))))), ?_⟩
  rintro rs Φ ⟨ts, k, rfl, hl, hk, h⟩
  obtain ⟨TD, hTD⟩ : ∃ x : PyData, x = .tuple (ts.map .int) := ⟨_, rfl⟩
  rw [← hTD]
  refine seq_op fun N hN => ?_
  simp
  refine oLc_of ts PyData.int (fun t => (edg0 t).D) (by omega) (fun Ψ hΨ => by simpa [hTD] using hΨ) (fun j t Ψ ht hΨ => by simpa [Edg.D, edg0, le_size, lt_size, cmul_l, cpow_l, cdiv_l] using hΨ) ?_
  refine hN _ ?_
  clear hN N
  have cse : ts = [] ∨ (∃ t, ts = [t]) ∨ 2 ≤ ts.length := by
    match ts with
    | [] => exact .inl rfl
    | [t] => exact .inr (.inl ⟨t, rfl⟩)
    | t :: u :: l => exact .inr (.inr (by simp))
  obtain ⟨LD, hLD⟩ : ∃ x : PyData, x = .list (ts.map fun t => (edg0 t).D) := ⟨_, rfl⟩
  rw [← hLD]
  rcases cse with rfl | ⟨t, rfl⟩ | h2
  · refine seq_op fun N hN => ?_
    simp [hLD, le_size, lt_size, cmul_l, cpow_l, cdiv_l]
    split
    · exact h (.ret (.int "i32" k)) rfl
    · exact h (.stop k) rfl
  · refine seq_op fun N hN => ?_
    simp [hLD]
    refine hN _ ?_
    clear hN N
    refine seq_op fun N hN => ?_
    simp [le_size, lt_size, cmul_l, cpow_l, cdiv_l]
    intro r r0 r1
    split
    · exact h (.sw (.int "i8" 3) [] (edg0 t)) rfl
    · exact h (.br (edg0 t)) rfl
  · obtain ⟨L, hL⟩ : ∃ L, L = ts.map fun t => (edg0 t).D := ⟨_, rfl⟩
    have hLl : L.length = ts.length := by rw [hL, List.length_map]
    rw [← hL] at hLD
    refine seq_op fun N hN => ?_
    have hnl : L ≠ [] := fun z => by rw [z] at hLl; simp at hLl; omega
    have hne1 : ¬ (L.length : Int) = 1 := by omega
    simp [hLD, hnl]
    refine hN _ ?_
    clear hN N
    refine seq_op fun N hN => ?_
    simp [hne1]
    refine hN _ ?_
    clear hN N
    have hLe : ∀ {j : Nat}, j < ts.length → L[j]? = some (edg0 (ts.getD j 0)).D := fun {j} hj => by
      rw [hL, List.getElem?_map, List.getD_eq_getElem?_getD, List.getElem?_eq_getElem hj]
      rfl
    have hat : ∀ {j : Nat}, j < ts.length → atI L (j : Int) = some (edg0 (ts.getD j 0)).D := fun {j} hj => atI_nat (hLe hj)
    refine seq_by (fun δ => δ = [some .drw, some (.d TD), some (.d (.int k)), some (.d (.list L)), none, none, none]) (fun δ hI => ?_) (fun N hN => ?_)
    rotate_left
    · by_cases c2 : ts.length = 2
      · have h0 := hat (j := 0) (by omega)
        have h1 := hat (j := 1) (by omega)
        simp at h0 h1
        have hL2 : (L.length : Int) = 2 := by omega
        have e2 : ts = [ts.getD 0 0, ts.getD 1 0] := by
          match ts, c2 with
          | [a, b], _ => rfl
        have hc := h (.con (.int "i1" 1) (edg0 (ts.getD 0 0)) (edg0 (ts.getD 1 0))) e2.symm
        simp [hL2, h0, h1, le_size, lt_size, cmul_l, cpow_l, cdiv_l]
        intro r r0 r1
        by_cases c3 : 0 < r
        · simp [c3]
          simpa [End.D, Opd.D] using hc
        · simp [c3]
          exact hN _ rfl
      · have hL2 : ¬ (L.length : Int) = 2 := by omega
        simp [hL2]
        exact hN _ rfl
    subst hI
    refine seq_op fun N hN => ?_
    simp
    refine oLc_n (n := ts.length - 1) (by omega) (fun Ψ hΨ => ?_) (fun acc => ∃ cs : List (Int × Edg), acc = cs.map caseD ∧ cs.map (fun c => c.2) = (ts.take cs.length).map edg0) ⟨[], rfl, rfl⟩ (fun j acc Ψ hj hlen hP hz => ?_) (fun acc hlen hP => ?_)
    · have e : (L.length : Int) - 1 = ((ts.length - 1 : Nat) : Int) := by omega
      simp
      rw [e]
      exact hΨ
    · obtain ⟨cs, rfl, hcs⟩ := hP
      have hjl : j < ts.length := by omega
      have hx : ts[j]? = some (ts.getD j 0) := by rw [List.getD_eq_getElem?_getD, List.getElem?_eq_getElem hjl]; rfl
      have ha := hat hjl
      have cm : CMul 5 (j : Int) := .inl ⟨by omega, by omega⟩
      rw [List.length_map] at hlen
      simp [cm, ha, le_size, lt_size, cmul_l, cpow_l, cdiv_l, -List.getD_eq_getElem?_getD]
      refine hz _ ⟨cs ++ [(5 * (j : Int) + (k : Int), edg0 (ts.getD j 0))], by rw [List.map_append]; rfl, ?_⟩
      rw [List.map_append, hcs, List.length_append, List.length_singleton, List.take_add_one, hlen, hx, List.map_append]
      rfl
    · obtain ⟨cs, rfl, hcs⟩ := hP
      rw [List.length_map] at hlen
      rw [hlen] at hcs
      refine hN _ ?_
      clear hN N
      have hll : ts.length - 1 < ts.length := by omega
      have ha := hat hll
      have e : (L.length : Int) - 1 = ((ts.length - 1 : Nat) : Int) := by omega
      have hx : ts[ts.length - 1]? = some (ts.getD (ts.length - 1) 0) := by rw [List.getD_eq_getElem?_getD, List.getElem?_eq_getElem hll]; rfl
      have hes : (End.sw (.int "i64" 9) cs (edg0 (ts.getD (ts.length - 1) 0))).es.map (·.lb) = ts := by
        have h1 : cs.map (·.2) = (ts.take (ts.length - 1)).map edg0 := hcs
        show (cs.map (·.2) ++ [edg0 (ts.getD (ts.length - 1) 0)]).map (·.lb) = ts
        rw [h1, List.map_append, List.map_map]
        have h2 : (ts.take (ts.length - 1)).map ((fun x : Edg => x.lb) ∘ edg0) = ts.take (ts.length - 1) := by
          conv => rhs; rw [← List.map_id (ts.take (ts.length - 1))]
          rfl
        rw [h2]
        have h3 := List.take_add_one (l := ts) (i := ts.length - 1)
        rw [hx, show ts.length - 1 + 1 = ts.length by omega, List.take_length] at h3
        exact h3.symm
      have hc := h _ hes
      rw [show (End.sw (.int "i64" 9) cs (edg0 (ts.getD (ts.length - 1) 0))).D = PyData.tuple [.str "switch", .tuple [.str "int", .str "i64", .int 9], .tuple (cs.map caseD), (edg0 (ts.getD (ts.length - 1) 0)).D] from rfl] at hc
      simp [e, ha, le_size, lt_size, cmul_l, cpow_l, cdiv_l, -List.getD_eq_getElem?_getD]
      simpa using hc


/-! ### labels numbered -/
def ent (ls : List Int) (k : Nat) : List (Key × PyData) := (List.range k).map fun i => ((.inl (ls.getD i 0) : Key), PyData.int (i : Int))
theorem ent_succ (ls : List Int) (k : Nat) : ent ls (k + 1) = ent ls k ++ [((.inl (ls.getD k 0) : Key), PyData.int (k : Int))] := by
  unfold ent
  rw [List.range_succ, List.map_append]
  rfl
theorem ent_len (ls : List Int) (k : Nat) : (ent ls k).length = k := by simp [ent]
theorem ent_none {ls : List Int} {x : Int} : ∀ {k : Nat}, (∀ i, i < k → ls.getD i 0 ≠ x) → getE (ent ls k) (.inl x) = none
  | 0, _ => rfl
  | k + 1, h => by
    rw [ent_succ, getE_append, ent_none fun i hi => h i (by omega), getE_cons, if_neg (fun e => h k (by omega) (by injection e))]
    rfl
theorem ent_some {ls : List Int} {x : Int} {i : Nat} (nd : ls.Nodup) (hx : ls[i]? = some x) : ∀ {k : Nat}, i < k → k ≤ ls.length → getE (ent ls k) (.inl x) = some (.int (i : Int))
  | 0, h, _ => absurd h (by omega)
  | k + 1, h, hl => by
    rw [ent_succ, getE_append]
    by_cases c : i < k
    · rw [ent_some nd hx c (by omega)]
      rfl
    · obtain rfl : i = k := by omega
      have gx : ls.getD i 0 = x := by rw [List.getD_eq_getElem?_getD, hx]; rfl
      rw [ent_none fun j hj => ?_, getE_cons, gx, if_pos rfl]
      · rfl
      · obtain ⟨p1, q1⟩ := List.getElem?_eq_some_iff.mp hx
        have p2 : j < ls.length := by omega
        have := List.pairwise_iff_getElem.mp nd j i p2 p1 hj
        rw [List.getD_eq_getElem?_getD, List.getElem?_eq_getElem p2, ← q1]
        exact this
def nodeD (ls : List Int) (r : Int × List Int) : PyData := .list (r.2.map fun t => .int (ls.idxOf t))


def nodeF (ls : List Int) : PyData → PyData
  | .tuple [.int _, .tuple ts] => .list (ts.map fun t => match t with
    | .int t => .int (ls.idxOf t)
    | x => x)
  | x => x
def vp_node_targets : VSp := fun rs Φ => ∃ (ls : List Int) (g : Gr), rs = [.d (.tuple (g.map grD))] ∧ ls.Nodup ∧ GrOk ls g ∧ g.length ≤ 1000 ∧ Φ (.own (g.map (nodeD ls)))
theorem len_node_targets : ∀ rs Φ, vp_node_targets rs Φ → rs.length = 1 := fun rs Φ ⟨_, _, e, _⟩ => by rw [e]; rfl
theorem G_node_targets (T : Txt K mg) : FnOk P w K mg base CX0 1 T.f_node_targets T.fd_node_targets ["graph"] (toSp K 1 vp_node_targets) := by
  refine fn_ok T.F_node_targets sc_node_targets fun cdv A outer s H E hr => ⟨_, (pss_cons (ps_set (i := 1) sc_node_targets.nd rfl (Or.inr rfl) (pe_dc (own := [("number", 2), ("label", 6), ("_", 4)]) (g := gTup K 2 (gCons (gName 2) (gCons (gTup K 2 (gCons (gName 6) (gCons (gName 4) gNil))) gNil))) (tt := tYes) rfl sc_node_targets.nd (pi_enumT (by rfl) T.enumerate (pa_cons (pv 0) pa_nil)) (blkOk_by (N := ["graph", "numbers", "number", "target", "_", "targets", "label"]) (sc := defScope snode_targets) (by decide +kernel)) (fun _ _ _ _ _ => (pg_tup (n := 2) rfl (pgs_cons (pg_name (i := 2) sc_node_targets.nd rfl (Or.inl rfl)) (pgs_cons (pg_tup (n := 2) rfl (pgs_cons (pg_name (i := 6) sc_node_targets.nd rfl (Or.inl rfl)) (pgs_cons (pg_name (i := 4) sc_node_targets.nd rfl (Or.inl rfl)) pgs_nil))) pgs_nil)))) (fun _ _ _ _ _ => pts_nil) (fun _ _ _ _ _ => (pv 6)) (fun _ _ _ _ _ => (pv 2))))
 (pss_one (ps_ret (pe_lc (own := [("_", 4), ("targets", 5)]) (g := gTup K 2 (gCons (gName 4) (gCons (gName 5) gNil))) (tt := tYes) rfl sc_node_targets.nd ((kpi_tup (K := K) rfl (pv 0))) (blkOk_by (N := ["graph", "numbers", "number", "target", "_", "targets", "label"]) (sc := defScope snode_targets) (by decide +kernel)) (fun _ _ _ _ _ => (pg_tup (n := 2) rfl (pgs_cons (pg_name (i := 4) sc_node_targets.nd rfl (Or.inl rfl)) (pgs_cons (pg_name (i := 5) sc_node_targets.nd rfl (Or.inl rfl)) pgs_nil)))) (fun _ _ _ _ _ => pts_nil) (fun _ _ _ _ _ => (pe_lc (own := [("target", 3)]) (g := gName 3) (tt := tYes) rfl sc_node_targets.nd ((kpi_tup (K := K) rfl (pv 5))) (blkOk_by (N := ["graph", "numbers", "number", "target", "_", "targets", "label"]) (by rfl)) (fun _ _ _ _ _ => pg_name (i := 3) sc_node_targets.nd rfl (Or.inl rfl)) (fun _ _ _ _ _ => pts_nil) (fun _ _ _ _ _ => (pe_dget (hu_of hr) (pv 1) (pv 3) (fun _ _ => rfl))))))))), _, fun ex He Hf => (sms_seq (sms_setDC (own := [2, 6, 4]) 1 (KpM.kps (kpm_tup (kpm_cons (kpm_name (by decide)) (kpm_cons (kpm_tup (kpm_cons (kpm_name (by decide)) (kpm_cons (kpm_name (by decide)) kpm_nil))) kpm_nil)))) (smi_enumT (sm_var 0)) (smg_tup (smg_cons (smg_name 2) (smg_cons (smg_tup (smg_cons (smg_name 6) (smg_cons (smg_name 4) smg_nil))) smg_nil))) smt_yes (sm_var 6) (sm_var 2))
 (sms_retNew (smo_lcG (own := [4, 5]) (kps_tup (kps_cons (by decide) (kps_cons (by decide) kps_nil))) (smi_tup (sm_var 0)) (smg_tup (smg_cons (smg_name 4) (smg_cons (smg_name 5) smg_nil))) smt_yes (SmO.sm (smo_lc (i := 3) (smi_tup (sm_var 5)) smt_yes (sm_getD (f2 := false) 1 (sm_var 3))))))), ?_⟩
  rintro rs Φ ⟨ls, g, rfl, nd, hG, hn, h⟩
  have gl : ls.length = g.length := by rw [← hG.lbs, List.length_map]
  obtain ⟨GD, hGD⟩ : ∃ x : PyData, x = .tuple (g.map grD) := ⟨_, rfl⟩
  rw [← hGD]
  refine seq_op fun N hN => ?_
  unfold dSetDC
  simp
  rw [hGD]
  refine ⟨_, rfl, fun k acc => acc = ent ls k, rfl, fun k y acc hy hk => ?_, fun acc hk a => ?_⟩
  · have hkl : k < g.length := by
      have := (List.getElem?_eq_some_iff.mp hy).1
      rw [enumD_len, List.length_map] at this
      exact this
    have hx : g[k]? = some g[k] := List.getElem?_eq_getElem hkl
    generalize g[k] = x at hx
    rw [enumD_get (x := grD x) (by rw [List.getElem?_map, hx]; rfl)] at hy
    cases hy
    have hlk : ls[k]? = some x.1 := by rw [← hG.lbs, List.getElem?_map, hx]; rfl
    subst hk
    simp [grD]
    refine ⟨.inl x.1, rfl, by rw [ent_len]; exact Nat.lt_of_lt_of_le (show k < 100000 by omega) (by decide), ?_⟩
    have gx : ls.getD k 0 = x.1 := by rw [List.getD_eq_getElem?_getD, hlk]; rfl
    rw [putE_new _ (ent_none fun j hj => ?_), ent_succ, gx]
    obtain ⟨p1, q1⟩ := List.getElem?_eq_some_iff.mp hlk
    have p2 : j < ls.length := by omega
    have := List.pairwise_iff_getElem.mp nd j k p2 p1 hj
    rw [List.getD_eq_getElem?_getD, List.getElem?_eq_getElem p2, ← q1]
    exact this
  · subst hk
    rw [enumD_len, List.length_map]
    refine hN _ ?_
    clear hN N
    simp
    refine oLcG_map (nodeF ls) (xs := g.map grD) (by rw [List.length_map]; omega) (fun Ψ hΨ => by simpa using hΨ) (fun k y Ψ hy hΨ => ?_) ?_
    · rw [List.getElem?_map] at hy
      obtain ⟨x, hx, rfl⟩ := Option.map_eq_some_iff.mp hy
      have hm := List.mem_of_getElem? hx
      have hf := hG.few x hm
      simp [dwipe, grD]
      refine oLc_of x.2 PyData.int (fun t => .int (ls.idxOf t)) (by omega) (fun Ψ hΨ => by simpa using hΨ) (fun j t Ψ ht hΨ => ?_) ?_
      · have tm := hG.tgt x hm t (List.mem_of_getElem? ht)
        have il : ls.idxOf t < ls.length := List.idxOf_lt_length_iff.mpr tm
        have it : ls[ls.idxOf t]? = some t := by rw [List.getElem?_eq_getElem il, List.getElem_idxOf il]
        simp
        refine ⟨.inl t, rfl, _, ent_some nd it (k := g.length) (by omega) (by omega), hΨ⟩
      · simp [nodeF, grD] at hΨ
        exact hΨ
    · rw [List.map_map]
      have e : (nodeF ls ∘ grD) = nodeD ls := by
        funext r
        simp [nodeF, grD, nodeD]
      rw [e]
      exact h


/-! ### a walk that goes as deep as it can: mathematics -/
structure Wk (α : Type) where
  ent : List α
  left : List α
  log : List (α × α)
  path : List (α × Nat)
def wstep {α : Type} [DecidableEq α] (G : α → List α) (s : Wk α) : Wk α := match s.path with
  | [] => s
  | (x, k) :: rest => match (G x)[k]? with
    | none => { s with left := s.left ++ [x], path := rest }
    | some t => if t ∈ s.ent then { s with path := (x, k + 1) :: rest } else ⟨s.ent ++ [t], s.left, s.log ++ [(t, x)], (t, 0) :: (x, k + 1) :: rest⟩
def wrun {α : Type} [DecidableEq α] (G : α → List α) : Nat → Wk α → Wk α
  | 0, s => s
  | n + 1, s => wrun G n (wstep G s)
def winit {α : Type} (r : α) : Wk α := ⟨[r], [], [], [(r, 0)]⟩
section
variable {α β : Type} [DecidableEq α] [DecidableEq β] {G : α → List α}
theorem wstep_nil {s : Wk α} (h : s.path = []) : wstep G s = s := by unfold wstep; rw [h]
theorem wstep_out {s : Wk α} {x : α} {k : Nat} {rest : List (α × Nat)} (h : s.path = (x, k) :: rest) (e : (G x)[k]? = none) : wstep G s = { s with left := s.left ++ [x], path := rest } := by unfold wstep; rw [h]; simp [e]
theorem wstep_old {s : Wk α} {x t : α} {k : Nat} {rest : List (α × Nat)} (h : s.path = (x, k) :: rest) (e : (G x)[k]? = some t) (m : t ∈ s.ent) : wstep G s = { s with path := (x, k + 1) :: rest } := by unfold wstep; rw [h]; simp [e, m]
theorem wstep_new {s : Wk α} {x t : α} {k : Nat} {rest : List (α × Nat)} (h : s.path = (x, k) :: rest) (e : (G x)[k]? = some t) (m : t ∉ s.ent) : wstep G s = ⟨s.ent ++ [t], s.left, s.log ++ [(t, x)], (t, 0) :: (x, k + 1) :: rest⟩ := by unfold wstep; rw [h]; simp [e, m]
theorem wrun_nil {s : Wk α} (h : s.path = []) : ∀ n, wrun G n s = s
  | 0 => rfl
  | n + 1 => by rw [wrun, wstep_nil h, wrun_nil h n]
theorem wrun_add (s : Wk α) (m : Nat) : ∀ n, wrun G (n + m) s = wrun G m (wrun G n s)
  | 0 => by rw [Nat.zero_add]; rfl
  | n + 1 => by
    rw [Nat.add_right_comm]
    show wrun G (n + m) (wstep G s) = wrun G m (wrun G n (wstep G s))
    exact wrun_add (wstep G s) m n
theorem wrun_succ (s : Wk α) (n : Nat) : wrun G (n + 1) s = wstep G (wrun G n s) := by rw [wrun_add]; rfl
/-- what comes out is one -/
theorem wrun_end {s a b : Wk α} {m n : Nat} (ha : wrun G m s = a) (hb : wrun G n s = b) (pa : a.path = []) (pb : b.path = []) : a = b := by
  rcases Nat.le_total m n with h | h
  · obtain ⟨k, rfl⟩ := Nat.le.dest h
    rw [wrun_add, ha, wrun_nil pa] at hb
    exact hb
  · obtain ⟨k, rfl⟩ := Nat.le.dest h
    rw [wrun_add, hb, wrun_nil pb] at ha
    exact ha.symm
/-! what holds all along -/
inductive Reach (G : α → List α) (r : α) : α → Prop
  | root : Reach G r r
  | next {x y : α} : Reach G r x → y ∈ G x → Reach G r y
structure WOk (G : α → List α) (r : α) (s : Wk α) : Prop where
  nd : s.ent.Nodup
  pm : (s.left ++ s.path.map (·.1)).Perm s.ent
  rt : r ∈ s.ent
  cl : ∀ x ∈ s.left, ∀ y ∈ G x, y ∈ s.ent
  pt : ∀ p ∈ s.path, ∀ y ∈ (G p.1).take p.2, y ∈ s.ent
  rc : ∀ x ∈ s.ent, Reach G r x
theorem wok_init (r : α) : WOk G r (winit r) := ⟨by simp [winit], by simp [winit], by simp [winit], by simp [winit], by simp [winit], by
  intro x hx
  have hx : x ∈ [r] := hx
  rw [List.mem_singleton.mp hx]
  exact .root⟩
theorem wok_step {r : α} {s : Wk α} (h : WOk G r s) : WOk G r (wstep G s) := by
  cases hp : s.path with
  | nil => rw [wstep_nil hp]; exact h
  | cons p rest =>
    obtain ⟨x, k⟩ := p
    have hx : x ∈ s.ent := h.pm.mem_iff.mp (List.mem_append_right _ (by rw [hp]; exact List.mem_cons_self ..))
    have pt := h.pt
    have pm := h.pm
    rw [hp] at pt pm
    cases e : (G x)[k]? with
    | none =>
      rw [wstep_out hp e]
      refine ⟨h.nd, ?_, h.rt, fun y hy z hz => ?_, fun p hpm => pt p (List.mem_cons_of_mem _ hpm), h.rc⟩
      · show ((s.left ++ [x]) ++ rest.map (·.1)).Perm s.ent
        rw [List.append_assoc]
        exact pm
      · rcases List.mem_append.mp hy with hy | hy
        · exact h.cl y hy z hz
        · rw [List.mem_singleton.mp hy] at hz
          refine pt (x, k) (List.mem_cons_self ..) z ?_
          rw [List.take_of_length_le (List.getElem?_eq_none_iff.mp e)]
          exact hz
    | some t =>
      by_cases m : t ∈ s.ent
      · rw [wstep_old hp e m]
        refine ⟨h.nd, ?_, h.rt, h.cl, fun p hpm => ?_, h.rc⟩
        · exact pm
        · rcases List.mem_cons.mp hpm with hpm | hpm
          · subst hpm
            intro y hy
            have hy : y ∈ (G x).take (k + 1) := hy
            rw [List.take_add_one, e] at hy
            rcases List.mem_append.mp hy with hy | hy
            · exact pt (x, k) (List.mem_cons_self ..) y hy
            · have : y = t := by simpa using hy
              rw [this]; exact m
          · exact pt p (List.mem_cons_of_mem _ hpm)
      · rw [wstep_new hp e m]
        refine ⟨?_, ?_, List.mem_append_left _ h.rt, fun y hy z hz => List.mem_append_left _ (h.cl y hy z hz), fun p hpm => ?_, fun y hy => ?_⟩
        · exact List.nodup_append.mpr ⟨h.nd, by simp, fun a ha b hb => by rw [List.mem_singleton.mp hb]; exact fun z => m (by rw [← z]; exact ha)⟩
        · show (s.left ++ t :: x :: rest.map (·.1)).Perm (s.ent ++ [t])
          have p1 : (s.left ++ t :: x :: rest.map (·.1)).Perm (t :: (s.left ++ x :: rest.map (·.1))) := List.perm_middle
          have p2 : (t :: (s.left ++ x :: rest.map (·.1))).Perm (t :: s.ent) := pm.cons t
          exact (p1.trans p2).trans (List.perm_append_comm (l₁ := [t]))
        · rcases List.mem_cons.mp hpm with hpm | hpm
          · subst hpm
            intro y hy
            simp at hy
          · rcases List.mem_cons.mp hpm with hpm | hpm
            · subst hpm
              intro y hy
              have hy : y ∈ (G x).take (k + 1) := hy
              rw [List.take_add_one, e] at hy
              rcases List.mem_append.mp hy with hy | hy
              · exact List.mem_append_left _ (pt (x, k) (List.mem_cons_self ..) y hy)
              · have : y = t := by simpa using hy
                rw [this]; exact List.mem_append_right _ (List.mem_cons_self ..)
            · exact fun y hy => List.mem_append_left _ (pt p (List.mem_cons_of_mem _ hpm) y hy)
        · rcases List.mem_append.mp hy with hy | hy
          · exact h.rc y hy
          · rw [List.mem_singleton.mp hy]
            exact .next (h.rc x hx) (List.mem_of_getElem? e)
theorem wok_run {r : α} : ∀ (n : Nat) {s : Wk α}, WOk G r s → WOk G r (wrun G n s)
  | 0, _, h => h
  | n + 1, _, h => wok_run n (wok_step h)
theorem reach_in {r : α} {S : List α} (h0 : r ∈ S) (hc : ∀ x ∈ S, ∀ y ∈ G x, y ∈ S) : ∀ {x : α}, Reach G r x → x ∈ S := fun h => by
  induction h with
  | root => exact h0
  | next _ e ih => exact hc _ ih _ e
/-- at the end what was entered is what is reached -/
theorem WOk.reached {r : α} {s : Wk α} (h : WOk G r s) (hp : s.path = []) : s.left.Perm s.ent ∧ ∀ x, x ∈ s.ent ↔ Reach G r x := by
  have pm := h.pm
  rw [hp, List.map_nil, List.append_nil] at pm
  exact ⟨pm, fun x => ⟨h.rc x, reach_in h.rt fun x hx y hy => h.cl x (pm.mem_iff.mpr hx) y hy⟩⟩
theorem nodup_le : ∀ {A B : List α}, A.Nodup → (∀ x ∈ A, x ∈ B) → A.length ≤ B.length
  | [], _, _, _ => Nat.zero_le _
  | a :: A, B, nd, h => by
    have nd := List.nodup_cons.mp nd
    have ha := h a (List.mem_cons_self ..)
    have h1 := nodup_le (A := A) (B := B.erase a) nd.2 fun x hx => (List.mem_erase_of_ne fun z => nd.1 (by rw [← z]; exact hx)).mpr (h x (List.mem_cons_of_mem _ hx))
    have h2 := List.length_erase_of_mem ha
    have h3 := List.length_pos_of_mem ha
    rw [List.length_cons]
    omega
/-! how many steps -/
def wgt (G : α → List α) (x : α) : Nat := (G x).length + 1
def wmu (G : α → List α) (N : List α) (s : Wk α) : Nat := ((N.filter fun x => decide (x ∉ s.ent)).map (wgt G)).sum + (s.path.map fun p => (G p.1).length - p.2 + 1).sum
theorem sum_filter_one {N : List α} (nd : N.Nodup) {t : α} (ht : t ∈ N) {E : List α} (m : t ∉ E) (f : α → Nat) : ((N.filter fun x => decide (x ∉ E)).map f).sum = ((N.filter fun x => decide (x ∉ E ++ [t])).map f).sum + f t := by
  induction N with
  | nil => cases ht
  | cons a N ih =>
    have nd2 := List.nodup_cons.mp nd
    by_cases q : a = t
    · subst q
      have e1 : (N.filter fun x => decide (x ∉ E ++ [a])) = N.filter fun x => decide (x ∉ E) := by
        refine List.filter_congr fun x hx => ?_
        have : x ≠ a := fun z => nd2.1 (z ▸ hx)
        simp [this]
      rw [List.filter_cons, List.filter_cons, e1]
      simp [m]
      omega
    · have ht2 : t ∈ N := by
        rcases List.mem_cons.mp ht with z | z
        · exact absurd z.symm q
        · exact z
      have ih := ih nd2.2 ht2
      have hm : decide (a ∉ E ++ [t]) = decide (a ∉ E) := by simp [q]
      rw [List.filter_cons, List.filter_cons, hm]
      split
      · rw [List.map_cons, List.map_cons, List.sum_cons, List.sum_cons]
        omega
      · exact ih
theorem wmu_step {N : List α} (nd : N.Nodup) (hN : ∀ x ∈ N, ∀ y ∈ G x, y ∈ N) {s : Wk α} (hp : ∀ p ∈ s.path, p.1 ∈ N) {p : α × Nat} {rest : List (α × Nat)} (e : s.path = p :: rest) (hk : p.2 ≤ (G p.1).length) : wmu G N (wstep G s) + 1 = wmu G N s := by
  obtain ⟨x, k⟩ := p
  have hx : x ∈ N := hp _ (by rw [e]; exact List.mem_cons_self ..)
  cases q : (G x)[k]? with
  | none =>
    have := List.getElem?_eq_none_iff.mp q
    have hk : k ≤ (G x).length := hk
    rw [wstep_out e q]
    unfold wmu
    simp only [e, List.map_cons, List.sum_cons]
    omega
  | some t =>
    obtain ⟨hlt, _⟩ := List.getElem?_eq_some_iff.mp q
    by_cases m : t ∈ s.ent
    · rw [wstep_old e q m]
      unfold wmu
      simp only [e, List.map_cons, List.sum_cons]
      omega
    · rw [wstep_new e q m]
      unfold wmu
      simp only [e, List.map_cons, List.sum_cons]
      rw [sum_filter_one nd (hN x hx t (List.mem_of_getElem? q)) m]
      unfold wgt
      omega
structure WIn (G : α → List α) (N : List α) (s : Wk α) : Prop where
  ent : ∀ x ∈ s.ent, x ∈ N
  pa : ∀ p ∈ s.path, p.1 ∈ N ∧ p.2 ≤ (G p.1).length
theorem win_init {N : List α} {r : α} (h : r ∈ N) : WIn G N (winit r) := ⟨fun x hx => by rw [List.mem_singleton.mp hx]; exact h, fun p hp => by rw [List.mem_singleton.mp hp]; exact ⟨h, Nat.zero_le _⟩⟩
theorem win_step {N : List α} (hN : ∀ x ∈ N, ∀ y ∈ G x, y ∈ N) {s : Wk α} (h : WIn G N s) : WIn G N (wstep G s) := by
  cases hp : s.path with
  | nil => rw [wstep_nil hp]; exact h
  | cons p rest =>
    obtain ⟨x, k⟩ := p
    have pa := h.pa
    rw [hp] at pa
    have hx := pa (x, k) (List.mem_cons_self ..)
    cases e : (G x)[k]? with
    | none => rw [wstep_out hp e]; exact ⟨h.ent, fun p hpm => pa p (List.mem_cons_of_mem _ hpm)⟩
    | some t =>
      obtain ⟨hlt, _⟩ := List.getElem?_eq_some_iff.mp e
      have up : ∀ p ∈ (x, k + 1) :: rest, p.1 ∈ N ∧ p.2 ≤ (G p.1).length := fun p hpm => by
        rcases List.mem_cons.mp hpm with hpm | hpm
        · subst hpm; exact ⟨hx.1, hlt⟩
        · exact pa p (List.mem_cons_of_mem _ hpm)
      by_cases m : t ∈ s.ent
      · rw [wstep_old hp e m]; exact ⟨h.ent, up⟩
      · rw [wstep_new hp e m]
        have tN := hN x hx.1 t (List.mem_of_getElem? e)
        refine ⟨fun y hy => ?_, fun p hpm => ?_⟩
        · rcases List.mem_append.mp hy with hy | hy
          · exact h.ent y hy
          · rw [List.mem_singleton.mp hy]; exact tN
        · rcases List.mem_cons.mp hpm with hpm | hpm
          · subst hpm; exact ⟨tN, Nat.zero_le _⟩
          · exact up p hpm
theorem win_run {N : List α} (hN : ∀ x ∈ N, ∀ y ∈ G x, y ∈ N) : ∀ (n : Nat) {s : Wk α}, WIn G N s → WIn G N (wrun G n s)
  | 0, _, h => h
  | n + 1, _, h => win_run hN n (win_step hN h)
/-- as many steps as the measure says come to the end -/
theorem wrun_done {N : List α} (nd : N.Nodup) (hN : ∀ x ∈ N, ∀ y ∈ G x, y ∈ N) : ∀ (n : Nat) {s : Wk α}, WIn G N s → wmu G N s ≤ n → (wrun G n s).path = []
  | 0, s, h, hm => by
    cases hp : s.path with
    | nil => exact hp
    | cons p rest =>
      have := h.pa p (by rw [hp]; exact List.mem_cons_self ..)
      have := wmu_step nd hN (fun q hq => (h.pa q hq).1) hp this.2
      omega
  | n + 1, s, h, hm => by
    cases hp : s.path with
    | nil => rw [wrun_nil hp]; exact hp
    | cons p rest =>
      have := h.pa p (by rw [hp]; exact List.mem_cons_self ..)
      have := wmu_step nd hN (fun q hq => (h.pa q hq).1) hp this.2
      exact wrun_done nd hN n (win_step hN h) (by omega)
theorem wmu_init {N : List α} (nd : N.Nodup) {r : α} (h : r ∈ N) : wmu G N (winit r) = (N.map (wgt G)).sum := by
  have e : N.filter (fun x => decide (x ∉ ([] : List α))) = N := List.filter_eq_self.mpr fun x _ => by simp
  have := sum_filter_one nd h (E := []) (by simp) (wgt G)
  rw [e] at this
  unfold wmu winit
  simp only [List.map_cons, List.map_nil, List.sum_cons, List.sum_nil]
  rw [this]
  unfold wgt
  simp
/-! the same walk over other names -/
def wmap (f : α → β) (s : Wk α) : Wk β := ⟨s.ent.map f, s.left.map f, s.log.map fun p => (f p.1, f p.2), s.path.map fun p => (f p.1, p.2)⟩
theorem wmap_step {G' : β → List β} {N : List α} {f : α → β} (fi : ∀ x ∈ N, ∀ y ∈ N, f x = f y → x = y) (hN : ∀ x ∈ N, ∀ y ∈ G x, y ∈ N) (hG : ∀ x ∈ N, G' (f x) = (G x).map f) {s : Wk α} (h : WIn G N s) : wstep G' (wmap f s) = wmap f (wstep G s) := by
  cases hp : s.path with
  | nil => rw [wstep_nil hp, wstep_nil (by show s.path.map _ = []; rw [hp]; rfl)]
  | cons p rest =>
    obtain ⟨x, k⟩ := p
    have hx := (h.pa (x, k) (by rw [hp]; exact List.mem_cons_self ..)).1
    have hp2 : (wmap f s).path = (f x, k) :: rest.map fun p => (f p.1, p.2) := by show s.path.map _ = _; rw [hp]; rfl
    have e2 : (G' (f x))[k]? = ((G x)[k]?).map f := by rw [hG x hx, List.getElem?_map]
    cases e : (G x)[k]? with
    | none =>
      rw [e] at e2
      rw [wstep_out hp e, wstep_out hp2 e2]
      simp [wmap]
    | some t =>
      rw [e] at e2
      have tN := hN x hx t (List.mem_of_getElem? e)
      by_cases m : t ∈ s.ent
      · rw [wstep_old hp e m, wstep_old hp2 e2 (List.mem_map.mpr ⟨t, m, rfl⟩)]
        simp [wmap]
      · rw [wstep_new hp e m, wstep_new hp2 e2 (fun z => ?_)]
        · simp [wmap]
        · obtain ⟨y, hy, ey⟩ := List.mem_map.mp z
          have := fi y (h.ent y hy) t tN ey
          exact m (by rw [← this]; exact hy)
theorem wmap_run {G' : β → List β} {N : List α} {f : α → β} (fi : ∀ x ∈ N, ∀ y ∈ N, f x = f y → x = y) (hN : ∀ x ∈ N, ∀ y ∈ G x, y ∈ N) (hG : ∀ x ∈ N, G' (f x) = (G x).map f) : ∀ (n : Nat) {s : Wk α}, WIn G N s → wrun G' n (wmap f s) = wmap f (wrun G n s)
  | 0, _, _ => rfl
  | n + 1, s, h => by
    rw [wrun, wrun, wmap_step fi hN hG h]
    exact wmap_run fi hN hG n (win_step hN h)
end


/-! ### walk -/
theorem ixn {n j : Nat} (hj : j < n) : ixN n (j : Int) = some j := by unfold ixN; simp [hj]
def wD (G : List (List Nat)) : PyData := .list (G.map fun r => .list (r.map fun t : Nat => .int (t : Int)))
def gN (G : List (List Nat)) (x : Nat) : List Nat := G.getD x []
def niD (xs : List Nat) : List PyData := xs.map fun t : Nat => .int (t : Int)
def tpD (p : Nat × Nat) : PyData := .tuple [.int (p.1 : Int), .int (p.2 : Int)]
def seenD (n : Nat) (E : List Nat) : List PyData := (List.range n).map fun i => .bool (decide (i ∈ E))
def parW (n : Nat) (log : List (Nat × Nat)) : List PyData := log.foldl (fun ps p => ps.set p.1 (.int (p.2 : Int))) (List.replicate n (.int (-1)))
theorem seen_at {n : Nat} {E : List Nat} {i : Nat} (h : i < n) : atI (seenD n E) (i : Int) = some (.bool (decide (i ∈ E))) := atI_nat (by unfold seenD; rw [List.getElem?_map, List.getElem?_range h]; rfl)
theorem seen_set {n : Nat} {E : List Nat} {t : Nat} (h : t < n) : (seenD n E).set t (.bool true) = seenD n (E ++ [t]) := by
  refine List.ext_getElem? fun i => ?_
  unfold seenD
  by_cases q : t = i
  · subst q
    rw [List.getElem?_set_self (by simp; exact h), List.getElem?_map, List.getElem?_range h]
    simp
  · rw [List.getElem?_set_ne q, List.getElem?_map, List.getElem?_map]
    have : ∀ j, (List.range n)[i]? = some j → (PyData.bool (decide (j ∈ E))) = .bool (decide (j ∈ E ++ [t])) := fun j hj => by
      have hji : j = i := by
        obtain ⟨hl, hv⟩ := List.getElem?_eq_some_iff.mp hj
        rw [List.getElem_range] at hv
        exact hv.symm
      have : ¬ j = t := fun z => q (by rw [← z, hji])
      simp [this]
    cases e : (List.range n)[i]? with
    | none => rfl
    | some j => simp only [Option.map_some]; rw [this j e]
theorem seen_init {n : Nat} (h : 0 < n) : (List.replicate n (PyData.bool false)).set 0 (.bool true) = seenD n [0] := by
  have e : List.replicate n (PyData.bool false) = seenD n [] := by
    unfold seenD
    refine List.ext_getElem? fun i => ?_
    rw [List.getElem?_replicate, List.getElem?_map]
    by_cases c : i < n
    · rw [if_pos c, List.getElem?_range c]; rfl
    · rw [if_neg c, List.getElem?_eq_none (by simpa using c)]; rfl
  rw [e, seen_set h]
  rfl
theorem seen_len (n : Nat) (E : List Nat) : (seenD n E).length = n := by simp [seenD]
theorem par_len (n : Nat) : ∀ log : List (Nat × Nat), (parW n log).length = n := by
  intro log
  unfold parW
  have : ∀ (ps : List PyData), (log.foldl (fun ps p => ps.set p.1 (.int (p.2 : Int))) ps).length = ps.length := by
    induction log with
    | nil => intro ps; rfl
    | cons p log ih => intro ps; rw [List.foldl_cons, ih, List.length_set]
  rw [this, List.length_replicate]
theorem par_snoc (n : Nat) (log : List (Nat × Nat)) (t x : Nat) : (parW n log).set t (.int (x : Int)) = parW n (log ++ [(t, x)]) := by unfold parW; rw [List.foldl_append]; rfl
theorem fz4 {n : Nat} (h : n ≤ 100000) : n < sizeLine := Nat.lt_of_le_of_lt h (by decide)
structure GNs (G : List (List Nat)) : Prop where
  pos : 1 ≤ G.length
  few : G.length ≤ 1000
  row : ∀ r ∈ G, r.length ≤ 1000 ∧ ∀ t ∈ r, t < G.length
theorem GNs.tgt {G : List (List Nat)} (h : GNs G) : ∀ x ∈ List.range G.length, ∀ y ∈ gN G x, y ∈ List.range G.length := fun x hx y hy => by
  have hx := List.mem_range.mp hx
  unfold gN at hy
  rw [List.getD_eq_getElem?_getD, List.getElem?_eq_getElem hx] at hy
  exact List.mem_range.mpr ((h.row _ (List.getElem_mem hx)).2 y hy)
theorem GNs.lt {G : List (List Nat)} (h : GNs G) {x : Nat} (hx : x < G.length) : G[x]? = some (gN G x) ∧ (gN G x).length ≤ 1000 := by
  have e : G[x]? = some G[x] := List.getElem?_eq_getElem hx
  have e2 : gN G x = G[x] := by unfold gN; rw [List.getD_eq_getElem?_getD, e]; rfl
  rw [e2]
  exact ⟨e, (h.row _ (List.getElem_mem hx)).1⟩
def vp_walk : VSp := fun rs Φ => ∃ G : List (List Nat), rs = [.d (wD G)] ∧ GNs G ∧ ∀ (n : Nat) (s : Wk Nat), wrun (gN G) n (winit 0) = s → s.path = [] → Φ (.d (.tuple [.list (niD s.ent), .list (niD s.left), .list (parW G.length s.log)]))
theorem len_walk : ∀ rs Φ, vp_walk rs Φ → rs.length = 1 := fun rs Φ ⟨_, e, _⟩ => by rw [e]; rfl
theorem G_walk (T : Txt K mg) : FnOk P w K mg base CX0 1 T.f_walk T.fd_walk ["targets"] (toSp K 1 vp_walk) := by
  refine fn_ok T.F_walk sc_walk fun cdv A outer s H E hr => ⟨_, (pss_cons (ps_set (i := 1) sc_walk.nd rfl (Or.inl rfl) (pe_lst (pa_cons pe_int pa_nil)))
 (pss_cons (ps_set (i := 2) sc_walk.nd rfl (Or.inl rfl) (pe_lst pa_nil))
 (pss_cons (ps_set (i := 3) sc_walk.nd rfl (Or.inl rfl) (pe_op op_rep (pe_lst (pa_cons (pe_un un_neg pe_int) pa_nil)) (pe_callB (kx_len (K := K) rfl) (by rfl) T.len PySem.boot_len (pa_cons (pv 0) pa_nil))))
 (pss_cons (ps_set (i := 4) sc_walk.nd rfl (Or.inl rfl) (pe_op op_rep (pe_lst (pa_cons pe_bl pa_nil)) (pe_callB (kx_len (K := K) rfl) (by rfl) T.len PySem.boot_len (pa_cons (pv 0) pa_nil))))
 (pss_cons (ps_asg pe_bl (pg_sub (pv 4) pe_int set_list))
 (pss_cons (ps_set (i := 5) sc_walk.nd rfl (Or.inl rfl) (pe_lst (pa_cons (pe_tup (pa_cons pe_int (pa_cons pe_int pa_nil))) pa_nil)))
 (pss_cons (ps_while PassesOwn.never (pt_truth (pv 5) (by intro _; rfl)) (pss_cons (ps_asg (pe_bm0 PySem.F.plainAttrs_list PySem.F.slot_list_pop PySem.F.type_list_pop mt_pop (pv 5)) (pg_tup (n := 2) rfl (pgs_cons (pg_name (i := 8) sc_walk.nd rfl (Or.inl rfl)) (pgs_cons (pg_name (i := 9) sc_walk.nd rfl (Or.inl rfl)) pgs_nil))))
 (pss_cons (ps_set (i := 6) sc_walk.nd rfl (Or.inl rfl) (pe_ix (kx_seq (K := K) rfl) (pv 0) (pv 8) (fun _ _ => rfl)))
 (pss_cons (ps_while PassesOwn.never (PW.pt (pw_and (pt_cmpR op_lt (pv 9) (pe_callB (kx_len (K := K) rfl) (by rfl) T.len PySem.boot_len (pa_cons (pv 6) pa_nil)) (nomark _)) (pw_and1 (pt_val (pe_ix (kx_seq (K := K) rfl) (pv 4) (pe_ix (kx_seq (K := K) rfl) (pv 6) (pv 9) (fun _ _ => rfl)) (fun _ _ => rfl)))))) (pss_one (ps_aug (i := 9) sc_walk.nd rfl (Or.inl rfl) pe_int ip_add)))
 (pss_cons (ps_if (pt_cmpR op_eq (pv 9) (pe_callB (kx_len (K := K) rfl) (by rfl) T.len PySem.boot_len (pa_cons (pv 6) pa_nil)) (nomark _)) (pss_cons (ps_expr (pe_bm PySem.F.plainAttrs_list PySem.F.slot_list_append PySem.F.type_list_append mt_append (pv 2) (pa_cons (pv 8) pa_nil)))
 (pss_one ps_continue)) pss_nil)
 (pss_cons (ps_set (i := 7) sc_walk.nd rfl (Or.inl rfl) (pe_ix (kx_seq (K := K) rfl) (pv 6) (pv 9) (fun _ _ => rfl)))
 (pss_cons (ps_asg pe_bl (pg_sub (pv 4) (pv 7) set_list))
 (pss_cons (ps_expr (pe_bm PySem.F.plainAttrs_list PySem.F.slot_list_append PySem.F.type_list_append mt_append (pv 1) (pa_cons (pv 7) pa_nil)))
 (pss_cons (ps_asg (pv 8) (pg_sub (pv 3) (pv 7) set_list))
 (pss_cons (ps_expr (pe_bm PySem.F.plainAttrs_list PySem.F.slot_list_append PySem.F.type_list_append mt_append (pv 5) (pa_cons (pe_tup (pa_cons (pv 8) (pa_cons (pe_op op_add (pv 9) pe_int) pa_nil))) pa_nil)))
 (pss_one (ps_expr (pe_bm PySem.F.plainAttrs_list PySem.F.slot_list_append PySem.F.type_list_append mt_append (pv 5) (pa_cons (pe_tup (pa_cons (pv 7) (pa_cons pe_int pa_nil))) pa_nil))))))))))))))
 (pss_one (ps_ret (pe_tup (pa_cons (pv 1) (pa_cons (pv 2) (pa_cons (pv 3) pa_nil))))))))))))), _, fun ex He Hf => (sms_seq (sms_setO 1 (smo_lst (sma_cons (sm_int _) sma_nil)))
 (sms_seq (sms_setO 2 (smo_lst sma_nil))
 (sms_seq (sms_setO 3 (smo_rep (f2 := false) (SmO.sm (smo_lst (sma_cons (sm_un (f1 := false) (g' := fun i => .int (-i)) (fun _ => rfl) (sm_int _)) sma_nil))) (sm_cb (f1 := false) cbd_len (sma_cons (sm_var 0) sma_nil))))
 (sms_seq (sms_setO 4 (smo_rep (f2 := false) (SmO.sm (smo_lst (sma_cons (sm_bl _) sma_nil))) (sm_cb (f1 := false) cbd_len (sma_cons (sm_var 0) sma_nil))))
 (sms_seq (sms_setI (f2 := false) 4 (sm_bl _) (sm_int _))
 (sms_seq (sms_setO 5 (smo_lst (sma_cons (sm_tup (sma_cons (sm_int _) (sma_cons (sm_int _) sma_nil))) sma_nil)))
 (sms_seq (sms_while (smt_truO 5)
 (sms_seq (sms_pop 5 (smg_tup (smg_cons (smg_name 8) (smg_cons (smg_name 9) smg_nil))))
 (sms_seq (sms_asg (sm_ix (f2 := false) (sm_var 0) (sm_var 8)) (smg_name 6))
 (sms_seq (sms_while (smt_and (smt_t (f1 := false) (sm_op (f1 := false) (f2 := false) (opd_I0 (g' := fun i j => .bool (decide (i < j))) fun _ _ => rfl) (sm_var 9) (sm_cb (f1 := false) cbd_len (sma_cons (sm_var 6) sma_nil)))) (smt_b (f1 := false) (sm_ix (f2 := false) (sm_varO 4) (sm_ix (f2 := false) (sm_var 6) (sm_var 9)))))
 (sms_aug (f1 := false) 9 (sm_int _)))
 (sms_seq (sms_if (smt_t (f1 := false) (sm_op (f1 := false) (f2 := false) opd_eq (sm_var 9) (sm_cb (f1 := false) cbd_len (sma_cons (sm_var 6) sma_nil))))
 (sms_seq (sms_app 2 (sm_var 8))
 sms_cont)
 sms_next)
 (sms_seq (sms_asg (sm_ix (f2 := false) (sm_var 6) (sm_var 9)) (smg_name 7))
 (sms_seq (sms_setI (f2 := false) 4 (sm_bl _) (sm_var 7))
 (sms_seq (sms_app 1 (sm_var 7))
 (sms_seq (sms_setI (f2 := false) 3 (sm_var 8) (sm_var 7))
 (sms_seq (sms_app 5 (sm_tup (sma_cons (sm_var 8) (sma_cons (sm_op (f1 := false) (f2 := false) (opd_I0 (g' := fun i j => .int (i + j)) fun _ _ => rfl) (sm_var 9) (sm_int _)) sma_nil))))
 (sms_app 5 (sm_tup (sma_cons (sm_var 7) (sma_cons (sm_int _) sma_nil))))))))))))))
 (sms_frz 3 (sms_frz 2 (sms_frz 1 (sms_ret (sm_tup (sma_cons (sm_var 1) (sma_cons (sm_var 2) (sma_cons (sm_var 3) sma_nil))))))))))))))), ?_⟩
  rintro rs Φ ⟨G, rfl, hG, h⟩
  have gl := hG.few
  obtain ⟨GD, hGD⟩ : ∃ x : PyData, x = wD G := ⟨_, rfl⟩
  rw [← hGD]
  have gdl : GD = .list (G.map fun r => .list (r.map fun t : Nat => .int (t : Int))) := hGD
  refine seq_op fun N hN => ?_
  simp [le_size, lt_size, cmul_l, cpow_l, cdiv_l]
  intro a1
  refine hN _ ?_
  clear hN N
  refine seq_op fun N hN => ?_
  simp [le_size, lt_size, cmul_l, cpow_l, cdiv_l]
  intro a2
  refine hN _ ?_
  clear hN N
  refine seq_op fun N hN => ?_
  simp [gdl, le_size, lt_size, cmul_l, cpow_l, cdiv_l]
  rw [← gdl]
  have gs : G.length ≤ sizeLine := fz3 (Nat.le_trans gl (by decide))
  refine ⟨by omega, gs, ?_⟩
  intro a3
  refine hN _ ?_
  clear hN N
  refine seq_op fun N hN => ?_
  simp [gdl, le_size, lt_size, cmul_l, cpow_l, cdiv_l]
  rw [← gdl]
  refine ⟨by omega, gs, ?_⟩
  intro a4
  refine hN _ ?_
  clear hN N
  refine seq_op fun N hN => ?_
  have hi0 : ixN G.length (0 : Int) = some 0 := ixn (j := 0) (by have := hG.pos; omega)
  simp [hi0]
  rw [seen_init (by have := hG.pos; omega)]
  refine hN _ ?_
  clear hN N
  refine seq_op fun N hN => ?_
  simp [le_size, lt_size, cmul_l, cpow_l, cdiv_l]
  intro a5
  refine hN _ ?_
  clear hN N
  have hN0 : (0 : Nat) ∈ List.range G.length := List.mem_range.mpr (by have := hG.pos; omega)
  obtain ⟨DLT, hDLT⟩ : ∃ f : Wk Nat → Option R → Option R → Option R → Option R → Dl, ∀ s y6 y7 y8 y9, f s y6 y7 y8 y9 = [some (.d GD), some (.own a1 (niD s.ent)), some (.own a2 (niD s.left)), some (.own a3 (parW G.length s.log)), some (.own a4 (seenD G.length s.ent)), some (.own a5 (s.path.reverse.map tpD)), y6, y7, y8, y9] := ⟨_, fun _ _ _ _ _ => rfl⟩
  obtain ⟨I, hI⟩ : ∃ I : Nat → Dl → Prop, ∀ m δ, I m δ ↔ ∃ (n : Nat) (s : Wk Nat) (y6 y7 y8 y9 : Option R), wrun (gN G) n (winit 0) = s ∧ m = wmu (gN G) (List.range G.length) s ∧ δ = DLT s y6 y7 y8 y9 := ⟨_, fun _ _ => Iff.rfl⟩
  refine seq_op fun N hN => ?_
  refine dWhile_by I ⟨_, (hI _ _).mpr ⟨0, winit 0, none, none, none, none, rfl, rfl, by rw [hDLT]; rfl⟩⟩ fun m δ hJ => ?_
  obtain ⟨n, s, y6, y7, y8, y9, hs, rfl, rfl⟩ := (hI _ _).mp hJ
  have hw : WIn (gN G) (List.range G.length) s := hs ▸ win_run hG.tgt n (win_init hN0)
  have hk := hs ▸ wok_run n (wok_init (G := gN G) 0)
  refine ⟨fun b => b = !s.path.isEmpty, fun Ψ hΨ => ?_, fun hb => ?_, fun hb => ?_⟩
  · rw [hDLT]
    simp
    exact hΨ _ rfl
  · cases hp : s.path with
    | nil => rw [hp] at hb; cases hb
    | cons p rest =>
    obtain ⟨x, k⟩ := p
    have hx := hw.pa (x, k) (by rw [hp]; exact List.mem_cons_self ..)
    have hxl : x < G.length := List.mem_range.mp hx.1
    have hrow := hG.lt hxl
    have hN1 := hG.tgt x hx.1
    have hkl : k ≤ (gN G x).length := hx.2
    generalize hr0 : gN G x = r at hrow hN1 hkl
    refine seq_op fun N hN => ?_
    rw [hDLT, hp]
    simp [tpD]
    refine ⟨_, _, _, ⟨rfl, rfl, rfl⟩, _, rfl, rfl, _, _, rfl, _, _, rfl, rfl, hN _ ?_⟩
    clear hN N
    have er : atI (G.map fun r => PyData.list (r.map fun t : Nat => .int (t : Int))) (x : Int) = some (.list (niD r)) := atI_nat (by rw [List.getElem?_map, hrow.1]; rfl)
    refine seq_op fun N hN => ?_
    simp [gdl, er]
    rw [← gdl]
    refine hN _ ?_
    clear hN N er
    refine seq_op fun N hN => ?_
    have rl : (niD r).length = r.length := by simp [niD]
    have rat : ∀ {j t : Nat}, r[j]? = some t → atI (niD r) (j : Int) = some (.int (t : Int)) := fun {j t} e => atI_nat (by unfold niD; rw [List.getElem?_map, e]; rfl)
    obtain ⟨J, hJ2⟩ : ∃ J : Nat → Dl → Prop, ∀ m δ, J m δ ↔ ∃ (n' k' : Nat), wrun (gN G) n' (winit 0) = { s with path := (x, k') :: rest } ∧ k ≤ k' ∧ k' ≤ r.length ∧ m = r.length - k' ∧ δ = [some (R.d GD), some (R.own a1 (niD s.ent)), some (R.own a2 (niD s.left)), some (R.own a3 (parW G.length s.log)), some (R.own a4 (seenD G.length s.ent)), some (R.own a5 (rest.map tpD).reverse), some (R.d (.list (niD r))), y7, some (R.d (.int (x : Int))), some (R.d (.int (k' : Int)))] := ⟨_, fun _ _ => Iff.rfl⟩
    refine dWhile_by J ⟨_, (hJ2 _ _).mpr ⟨n, k, by rw [hs]; cases s; cases hp; rfl, Nat.le_refl _, hkl, rfl, rfl⟩⟩ fun m2 δ hJ3 => ?_
    obtain ⟨n', k', hs', hk0, hk', rfl, rfl⟩ := (hJ2 _ _).mp hJ3
    refine ⟨fun b => (b = true → ∃ t, r[k']? = some t ∧ t ∈ s.ent) ∧ (b = false → r[k']? = none ∨ ∃ t, r[k']? = some t ∧ t ∉ s.ent), fun Ψ hΨ => ?_, fun hb => ?_, fun hb => ?_⟩
    · simp [rl]
      by_cases c : k' < r.length
      · have e := List.getElem?_eq_getElem c
        generalize r[k'] = t at e
        have tl := hG.tgt x hx.1 t (by rw [hr0]; exact List.mem_of_getElem? e)
        simp [c, rat e, seen_at (List.mem_range.mp tl)]
        by_cases m : t ∈ s.ent
        · exact .inr ⟨m, hΨ _ ⟨fun _ => ⟨t, e, m⟩, fun z => (nomatch z)⟩⟩
        · exact .inl ⟨m, hΨ _ ⟨fun z => (nomatch z), fun _ => .inr ⟨t, e, m⟩⟩⟩
      · simp [c]
        exact hΨ _ ⟨fun z => (nomatch z), fun _ => .inl (List.getElem?_eq_none (by omega))⟩
    · obtain ⟨t, e, m⟩ := hb.1 rfl
      have hlt := (List.getElem?_eq_some_iff.mp e).1
      simp
      refine ⟨_, (by omega : r.length - (k' + 1) < r.length - k'), (hJ2 _ _).mpr ⟨n' + 1, k' + 1, ?_, by omega, hlt, rfl, by simp⟩⟩
      rw [wrun_succ, hs']
      exact wstep_old (G := gN G) (s := { s with path := (x, k') :: rest }) rfl (by rw [hr0]; exact e) m
    · have hb := hb.2 rfl
      have hw' : WIn (gN G) (List.range G.length) { s with path := (x, k') :: rest } := hs' ▸ win_run hG.tgt n' (win_init hN0)
      have hmu : wmu (gN G) (List.range G.length) { s with path := (x, k') :: rest } ≤ wmu (gN G) (List.range G.length) s := by
        unfold wmu
        rw [hp]
        simp only [List.map_cons, List.sum_cons]
        omega
      have hst := wmu_step List.nodup_range hG.tgt (fun q hq => (hw'.pa q hq).1) (s := { s with path := (x, k') :: rest }) rfl (hw'.pa _ (List.mem_cons_self ..)).2
      have hru : wrun (gN G) (n' + 1) (winit 0) = wstep (gN G) { s with path := (x, k') :: rest } := by rw [wrun_succ, hs']
      refine hN _ ?_
      clear hN N
      refine seq_op fun N hN => ?_
      simp [rl]
      rcases hb with e | ⟨t, e, m⟩
      · have hkk : k' = r.length := by have := List.getElem?_eq_none_iff.mp e; omega
        rw [wstep_out (G := gN G) (s := { s with path := (x, k') :: rest }) rfl (by rw [hr0]; exact e)] at hst hru
        simp [hkk]
        have hll : s.left.length ≤ G.length := by
          have h1 := hk.pm.length_eq
          rw [List.length_append] at h1
          have h3 : s.ent.length ≤ (List.range G.length).length := nodup_le hk.nd hw.ent
          rw [List.length_range] at h3
          omega
        refine ⟨fz4 (by simp [niD]; omega), _, ?_, (hI _ _).mpr ⟨n' + 1, _, some (.d (.list (niD r))), y7, some (.d (.int (x : Int))), some (.d (.int (r.length : Int))), hru, rfl, ?_⟩⟩
        · omega
        · rw [hDLT]
          simp [niD]
      · have hkk : ¬ k' = r.length := by have := (List.getElem?_eq_some_iff.mp e).1; omega
        rw [wstep_new (G := gN G) (s := { s with path := (x, k') :: rest }) rfl (by rw [hr0]; exact e) m] at hst hru
        have hki : ¬ (k' : Int) = r.length := by omega
        simp [hki]
        refine hN _ ?_
        clear hN N
        have tl := List.mem_range.mp (hN1 t (List.mem_of_getElem? e))
        have hel : s.ent.length ≤ G.length := by
          have h3 : s.ent.length ≤ (List.range G.length).length := nodup_le hk.nd hw.ent
          rw [List.length_range] at h3
          exact h3
        have hpl : rest.length ≤ G.length := by
          have h1 := hk.pm.length_eq
          rw [List.length_append, hp, List.length_map, List.length_cons] at h1
          omega
        refine seq_op fun N hN => ?_
        simp [rat e]
        refine hN _ ?_
        clear hN N
        refine seq_op fun N hN => ?_
        simp [seen_len, ixn tl]
        rw [seen_set tl]
        refine hN _ ?_
        clear hN N
        refine seq_op fun N hN => ?_
        simp
        refine ⟨fz4 (by simp [niD]; omega), hN _ ?_⟩
        clear hN N
        refine seq_op fun N hN => ?_
        simp [par_len, ixn tl]
        rw [par_snoc]
        refine hN _ ?_
        clear hN N
        refine seq_op fun N hN => ?_
        simp [le_size, lt_size, cmul_l, cpow_l, cdiv_l]
        refine ⟨fz4 (by omega), hN _ ?_⟩
        clear hN N
        simp [le_size, lt_size, cmul_l, cpow_l, cdiv_l]
        refine ⟨fz4 (by omega), _, ?_, (hI _ _).mpr ⟨n' + 1, _, some (.d (.list (niD r))), some (.d (.int (t : Int))), some (.d (.int (x : Int))), some (.d (.int (k' : Int))), hru, rfl, ?_⟩⟩
        · omega
        · rw [hDLT]
          simp [niD, tpD]
  · have hp : s.path = [] := by cases hq : s.path with
    | nil => rfl
    | cons p rest => rw [hq] at hb; cases hb
    refine hN _ ?_
    rw [hDLT]
    simp [le_size, lt_size, cmul_l, cpow_l, cdiv_l]
    exact h n s hs hp


/-! ### nodes and labels -/
def gOf (ls : List Int) (g : Gr) : List (List Nat) := g.map fun r => r.2.map fun t => ls.idxOf t
def labF (ls : List Int) (i : Nat) : Int := ls.getD i 0
theorem lab_at {ls : List Int} {i : Nat} (h : i < ls.length) : ls[i]? = some (labF ls i) := by
  unfold labF
  rw [List.getD_eq_getElem?_getD, List.getElem?_eq_getElem h]
  rfl
theorem lab_idx {ls : List Int} {t : Int} (h : t ∈ ls) : ls.idxOf t < ls.length ∧ labF ls (ls.idxOf t) = t := by
  have il : ls.idxOf t < ls.length := List.idxOf_lt_length_iff.mpr h
  refine ⟨il, ?_⟩
  have := lab_at il
  rw [List.getElem?_eq_getElem il, List.getElem_idxOf il] at this
  exact (Option.some.inj this).symm
theorem lab_inj {ls : List Int} (nd : ls.Nodup) {n : Nat} (hn : n = ls.length) : ∀ x ∈ List.range n, ∀ y ∈ List.range n, labF ls x = labF ls y → x = y := fun x hx y hy e => by
  have hx := List.mem_range.mp hx
  have hy := List.mem_range.mp hy
  subst hn
  have ex := lab_at hx
  have ey := lab_at hy
  rw [e, ← ey, List.getElem?_eq_getElem hx, List.getElem?_eq_getElem hy] at ex
  exact (List.getElem_inj nd).mp (Option.some.inj ex)
theorem tgt_at {ls : List Int} {g : Gr} (nd : ls.Nodup) (hG : GrOk ls g) {i : Nat} {r : Int × List Int} (h : g[i]? = some r) : tgtL g r.1 = r.2 := by
  have hl : g.map (·.1) = ls := hG.lbs
  rw [← hl] at nd
  clear hl hG
  unfold tgtL
  have : g.find? (fun q => decide (q.1 = r.1)) = some r := by
    induction g generalizing i with
    | nil => cases h
    | cons q g ih =>
      rw [List.map_cons] at nd
      have nd := List.nodup_cons.mp nd
      rw [List.find?_cons]
      cases i with
      | zero =>
        cases h
        simp
      | succ i =>
        have h : g[i]? = some r := h
        have ne : ¬ q.1 = r.1 := fun z => nd.1 (List.mem_map.mpr ⟨r, List.mem_of_getElem? h, z.symm⟩)
        simp [ne]
        exact ih (i := i) nd.2 h
  rw [this]
theorem gof_tgt {ls : List Int} {g : Gr} (nd : ls.Nodup) (hG : GrOk ls g) : ∀ x ∈ List.range (gOf ls g).length, tgtL g (labF ls x) = (gN (gOf ls g) x).map (labF ls) := fun x hx => by
  have hx := List.mem_range.mp hx
  have gl : (gOf ls g).length = g.length := by simp [gOf]
  have hxg : x < g.length := by omega
  have e : g[x]? = some g[x] := List.getElem?_eq_getElem hxg
  generalize g[x] = r at e
  have el : ls[x]? = some r.1 := by rw [← hG.lbs, List.getElem?_map, e]; rfl
  have e1 : labF ls x = r.1 := by unfold labF; rw [List.getD_eq_getElem?_getD, el]; rfl
  have e2 : gN (gOf ls g) x = r.2.map fun t => ls.idxOf t := by
    unfold gN gOf
    rw [List.getD_eq_getElem?_getD, List.getElem?_map, e]
    rfl
  rw [e1, tgt_at nd hG e, e2, List.map_map]
  have hm := hG.tgt r (List.mem_of_getElem? e)
  refine (List.map_id' r.2).symm.trans (List.map_congr_left fun t ht => ?_)
  exact ((lab_idx (hm t ht)).2).symm
theorem gof_ok {ls : List Int} {g : Gr} (hG : GrOk ls g) (h1 : 1 ≤ g.length) (h2 : g.length ≤ 1000) : GNs (gOf ls g) := by
  have gl : (gOf ls g).length = g.length := by simp [gOf]
  have ll : ls.length = g.length := by rw [← hG.lbs, List.length_map]
  refine ⟨by omega, by omega, fun r hr => ?_⟩
  obtain ⟨q, hq, rfl⟩ := List.mem_map.mp hr
  refine ⟨by rw [List.length_map]; have := hG.few q hq; omega, fun t ht => ?_⟩
  obtain ⟨u, hu, rfl⟩ := List.mem_map.mp ht
  rw [gl, ← ll]
  exact (lab_idx (hG.tgt q hq u hu)).1
theorem wd_of (ls : List Int) (g : Gr) : PyData.list (g.map (nodeD ls)) = wD (gOf ls g) := by
  unfold wD gOf
  rw [List.map_map]
  congr 1
  refine List.map_congr_left fun r _ => ?_
  simp [nodeD]
/-- the walk over the labels ends as the walk over the numbers does -/
theorem walk_labels {ls : List Int} {g : Gr} (nd : ls.Nodup) (hG : GrOk ls g) (h1 : 1 ≤ g.length) (h2 : g.length ≤ 1000) {n : Nat} {s : Wk Nat} (e : wrun (gN (gOf ls g)) n (winit 0) = s) : wrun (tgtL g) n (winit (labF ls 0)) = wmap (labF ls) s := by
  have gl : (gOf ls g).length = ls.length := by rw [← hG.lbs]; simp [gOf]
  have hk := gof_ok hG h1 h2
  rw [← e]
  exact wmap_run (N := List.range (gOf ls g).length) (f := labF ls) (s := winit 0) (lab_inj nd gl) hk.tgt (gof_tgt nd hG) n (win_init (List.mem_range.mpr (by have := hk.pos; omega)))


def vp_reverse_postorder : VSp := fun rs Φ => ∃ (ls : List Int) (g : Gr), rs = [.d (.tuple (g.map grD))] ∧ ls.Nodup ∧ GrOk ls g ∧ 1 ≤ g.length ∧ g.length ≤ 1000 ∧
  ∀ (n : Nat) (s : Wk Int), wrun (tgtL g) n (winit (labF ls 0)) = s → s.path = [] → Φ (.own (s.left.reverse.map .int))
theorem len_reverse_postorder : ∀ rs Φ, vp_reverse_postorder rs Φ → rs.length = 1 := fun rs Φ ⟨_, _, e, _⟩ => by rw [e]; rfl
theorem G_reverse_postorder (T : Txt K mg) : FnOk P w K mg base CX0 2 T.f_reverse_postorder T.fd_reverse_postorder ["graph"] (toSp K 1 vp_reverse_postorder) := by
  refine fn_ok T.F_reverse_postorder sc_reverse_postorder fun cdv A outer s H E hr => ⟨_, (pss_cons (ps_set (i := 1) sc_reverse_postorder.nd rfl (Or.inl rfl) (pe_ix (kx_seq (K := K) rfl) (pe_call (G_walk T) hr (by rfl) T.g_walk T.F_walk.kp T.b_walk .nil pass0 (pa_cons (pe_call (G_node_targets T) hr (by rfl) T.g_node_targets T.F_node_targets.kp T.b_node_targets .nil pass0 (pa_cons (pv 0) pa_nil)) pa_nil)) pe_int (fun _ _ => rfl)))
 (pss_one (ps_ret (pe_lc (own := [("number", 2)]) (g := gName 2) (tt := tYes) rfl sc_reverse_postorder.nd (pi_reversed (by rfl) T.reversed (pa_cons (pv 1) pa_nil)) (blkOk_by (N := ["graph", "left", "number"]) (sc := defScope sreverse_postorder) (by decide +kernel)) (fun _ _ _ _ _ => pg_name (i := 2) sc_reverse_postorder.nd rfl (Or.inl rfl)) (fun _ _ _ _ _ => pts_nil) (fun _ _ _ _ _ => (pe_ix (kx_seq (K := K) rfl) (pe_ix (kx_seq (K := K) rfl) (pv 0) (pv 2) (fun _ _ => rfl)) pe_int (fun _ _ => rfl))))))), _, fun ex He Hf => (sms_seq (sms_asg (sm_ix (f2 := false) (sm_call len_walk (smq_cons (SmO.sm (smo_call len_node_targets (smq_cons (sm_var 0) smq_nil))) smq_nil)) (sm_int _)) (smg_name 1))
 (sms_retNew (smo_lc (i := 2) (smi_rev (sm_var 1)) smt_yes (sm_ix (f2 := false) (sm_ix (f2 := false) (sm_var 0) (sm_var 2)) (sm_int _))))), ?_⟩
  rintro rs Φ ⟨ls, g, rfl, nd, hG, h1, h2, h⟩
  obtain ⟨GD, hGD⟩ : ∃ x : PyData, x = .tuple (g.map grD) := ⟨_, rfl⟩
  have hll : ls.length = g.length := by rw [← hG.lbs, List.length_map]
  rw [← hGD]
  refine seq_op fun N hN => ?_
  simp
  refine ⟨ls, g, by rw [hGD], nd, hG, h2, _, rfl, ?_⟩
  rw [wd_of]
  refine ⟨gOf ls g, rfl, gof_ok hG h1 h2, fun n s hs hp => ?_⟩
  simp
  refine hN _ ?_
  clear hN N
  have hwl := walk_labels nd hG h1 h2 hs
  have hk := gof_ok hG h1 h2
  have gl : (gOf ls g).length = g.length := by simp [gOf]
  have hw := hs ▸ win_run hk.tgt n (win_init (List.mem_range.mpr (show 0 < (gOf ls g).length by omega)))
  have ho := hs ▸ wok_run n (wok_init (G := gN (gOf ls g)) 0)
  have hpm := (ho.reached hp).1
  have hlf : ∀ x ∈ s.left, x < g.length := fun x hx => by rw [← gl]; exact List.mem_range.mp (hw.ent x (hpm.mem_iff.mp hx))
  have hll2 : s.left.length ≤ 1000 := by
    have := nodup_le ho.nd hw.ent
    rw [List.length_range] at this
    have := hpm.length_eq
    omega
  simp
  refine oLc_of (s.left.reverse) (fun x : Nat => .int (x : Int)) (fun x : Nat => .int (labF ls x)) (by simp; omega) (fun Ψ hΨ => ?_) (fun k a Ψ ha hΨ => ?_) ?_
  · simp [niD]
    simpa using hΨ
  · have ha2 := hlf a (List.mem_reverse.mp (List.mem_of_getElem? ha))
    have e : g[a]? = some g[a] := List.getElem?_eq_getElem ha2
    generalize g[a] = r at e
    have el : ls[a]? = some r.1 := by rw [← hG.lbs, List.getElem?_map, e]; rfl
    have e1 : labF ls a = r.1 := by unfold labF; rw [List.getD_eq_getElem?_getD, el]; rfl
    have ea : atI (g.map grD) (a : Int) = some (grD r) := atI_nat (by rw [List.getElem?_map, e]; rfl)
    simp [hGD, ea, grD]
    rw [← e1]
    exact hΨ
  · have := h n _ hwl (by simp [wmap, hp])
    simp [wmap] at this
    simp
    exact this


/-! ### what the law's rounds reach -/
theorem add_spec {cut : Int} : ∀ (ts F : List Int), F.Nodup → ∃ E, ts.foldl (addT cut) F = F ++ E ∧ (F ++ E).Nodup ∧ (∀ t ∈ ts, t = cut ∨ t ∈ F ++ E) ∧ ∀ x ∈ E, x ∈ ts ∧ x ≠ cut
  | [], F, nd => ⟨[], by simp, by simpa using nd, fun _ h => (nomatch h), fun _ h => (nomatch h)⟩
  | t :: ts, F, nd => by
    rw [List.foldl_cons]
    by_cases c : t ≠ cut ∧ t ∉ F
    · have e : addT cut F t = F ++ [t] := by unfold addT; rw [if_pos c]
      rw [e]
      have nd' : (F ++ [t]).Nodup := List.nodup_append.mpr ⟨nd, by simp, fun a ha b hb => by rw [List.mem_singleton.mp hb]; exact fun z => c.2 (z ▸ ha)⟩
      obtain ⟨E, h1, h2, h3, h4⟩ := add_spec ts (F ++ [t]) nd'
      refine ⟨[t] ++ E, by rw [h1, List.append_assoc], by rw [← List.append_assoc]; exact h2, fun u hu => ?_, fun x hx => ?_⟩
      · rw [← List.append_assoc]
        rcases List.mem_cons.mp hu with rfl | hu
        · exact .inr (by simp)
        · exact h3 u hu
      · rcases List.mem_append.mp hx with hx | hx
        · rw [List.mem_singleton.mp hx]; exact ⟨List.mem_cons_self .., c.1⟩
        · exact ⟨List.mem_cons_of_mem _ (h4 x hx).1, (h4 x hx).2⟩
    · have e : addT cut F t = F := by unfold addT; rw [if_neg c]
      rw [e]
      obtain ⟨E, h1, h2, h3, h4⟩ := add_spec ts F nd
      refine ⟨E, h1, h2, fun u hu => ?_, fun x hx => ⟨List.mem_cons_of_mem _ (h4 x hx).1, (h4 x hx).2⟩⟩
      rcases List.mem_cons.mp hu with rfl | hu
      · by_cases q : u = cut
        · exact .inl q
        · refine .inr (List.mem_append_left _ ?_)
          by_cases q2 : u ∈ F
          · exact q2
          · exact absurd ⟨q, q2⟩ c
      · exact h3 u hu
/-- reached from one of fs, along no cut -/
inductive ReachC (G : Int → List Int) (cut : Int) (fs : List Int) : Int → Prop
  | root {x : Int} : x ∈ fs → x ≠ cut → ReachC G cut fs x
  | next {x y : Int} : ReachC G cut fs x → y ∈ G x → y ≠ cut → ReachC G cut fs y
structure BOk (g : Gr) (cut : Int) (f0 : List Int) (k : Nat) (F : List Int) : Prop where
  nd : F.Nodup
  st : ∀ x ∈ f0, x ∈ F
  nc : cut ∉ F
  cl : ∀ i x, i < k → F[i]? = some x → ∀ y ∈ tgtL g x, y = cut ∨ y ∈ F
  rc : ∀ x ∈ F, ReachC (tgtL g) cut f0 x
theorem bok {g : Gr} {cut : Int} {f0 : List Int} (nd : f0.Nodup) (nc : cut ∉ f0) : ∀ k, BOk g cut f0 k (bfs g cut f0 k)
  | 0 => ⟨nd, fun _ h => h, nc, fun _ _ h => absurd h (by omega), fun x hx => .root hx fun z => nc (z ▸ hx)⟩
  | k + 1 => by
    have ih := bok (g := g) nd nc k
    rw [bfs_succ]
    unfold bfs1
    generalize bfs g cut f0 k = F at ih ⊢
    cases e : F[k]? with
    | none => exact ⟨ih.nd, ih.st, ih.nc, fun i x hi hx => ih.cl i x (by
        by_cases q : i = k
        · rw [q, e] at hx; cases hx
        · omega) hx, ih.rc⟩
    | some z =>
      obtain ⟨E, h1, h2, h3, h4⟩ := add_spec (cut := cut) (tgtL g z) F ih.nd
      simp only
      rw [h1]
      have hz : z ∈ F := List.mem_of_getElem? e
      refine ⟨h2, fun x hx => List.mem_append_left _ (ih.st x hx), fun q => ?_, fun i x hi hx y hy => ?_, fun x hx => ?_⟩
      · rcases List.mem_append.mp q with q | q
        · exact ih.nc q
        · exact (h4 _ q).2 rfl
      · by_cases q : i = k
        · have hx' : x = z := by
            rw [q, List.getElem?_append_left (List.getElem?_eq_some_iff.mp e).1, e] at hx
            exact (Option.some.inj hx).symm
          rw [hx'] at hy
          exact h3 y hy
        · have hi' : i < F.length := by have := (List.getElem?_eq_some_iff.mp e).1; omega
          rw [List.getElem?_append_left hi'] at hx
          rcases ih.cl i x (by omega) hx y hy with h | h
          · exact .inl h
          · exact .inr (List.mem_append_left _ h)
      · rcases List.mem_append.mp hx with hx | hx
        · exact ih.rc x hx
        · exact .next (ih.rc z hz) (h4 x hx).1 (h4 x hx).2
/-- enough rounds reach all -/
theorem bfs_all {g : Gr} {cut : Int} {f0 N : List Int} (nd : f0.Nodup) (nc : cut ∉ f0) (h0 : ∀ x ∈ f0, x ∈ N) (hN : ∀ x ∈ N, ∀ y ∈ tgtL g x, y ∈ N) {k : Nat} (hk : N.length ≤ k) : (bfs g cut f0 k).Nodup ∧ ∀ x, x ∈ bfs g cut f0 k ↔ ReachC (tgtL g) cut f0 x := by
  have h := bok (g := g) nd nc k
  refine ⟨h.nd, fun x => ⟨h.rc x, fun hx => ?_⟩⟩
  have sub : ∀ x, ReachC (tgtL g) cut f0 x → x ∈ N := fun x hx => by
    induction hx with
    | root hx _ => exact h0 _ hx
    | next _ e _ ih => exact hN _ ih _ e
  have hl : (bfs g cut f0 k).length ≤ k := Nat.le_trans (nodup_le h.nd fun x hx => sub x (h.rc x hx)) hk
  induction hx with
  | root hx _ => exact h.st _ hx
  | next _ e n ih =>
    obtain ⟨i, hi⟩ := List.getElem?_of_mem ih
    have := (List.getElem?_eq_some_iff.mp hi).1
    rcases h.cl i _ (by omega) hi _ e with q | q
    · exact absurd q n
    · exact q
theorem reachc_of {G : Int → List Int} {r cut : Int} (hn : ∀ x, Reach G r x → x ≠ cut) (x : Int) : ReachC G cut [r] x ↔ Reach G r x := by
  constructor
  · intro h
    induction h with
    | root hx _ => rw [List.mem_singleton.mp hx]; exact .root
    | next _ e _ ih => exact .next ih e
  · intro h
    induction h with
    | root => exact .root (List.mem_singleton.mpr rfl) (hn _ .root)
    | next h e ih => exact .next ih e (hn _ (.next h e))
/-- two sorted rows of the same numbers -/
theorem sorted_eq {a b : List Int} (h : a.Perm b) (ha : a.Pairwise (· ≤ ·)) (hb : b.Pairwise (· ≤ ·)) : a = b := h.eq_of_pairwise (fun x y _ _ h1 h2 => by have h1 : x ≤ y := h1; have h2 : y ≤ x := h2; omega) ha hb
theorem perm_of_mem {α : Type} [DecidableEq α] {a b : List α} (ha : a.Nodup) (hb : b.Nodup) (h : ∀ x, x ∈ a ↔ x ∈ b) : a.Perm b := (List.perm_ext_iff_of_nodup ha hb).mpr h


/-! ### backwards -/
theorem dFor_via {di : DI} {dg : DG} {db : DS} {E : DEnds} {δ : Dl} {Pre : List PyData → Prop} (h : ∀ Ψ : List PyData → Prop, (∀ xs, Pre xs → Ψ xs) → di δ Ψ) (k : ∀ xs, Pre xs → dFor (fun _ Φ => Φ xs) dg db E δ) : dFor di dg db E δ := h _ k
/-- a region: a dict of lists, a list for each label -/
structure BR (m : Sto) (a : Addr) (bs : List Addr) (ls : List Int) (W : Nat → List Int) : Prop where
  nd : (a :: bs).Nodup
  len : bs.length = ls.length
  top : m.at a = some (.D ((ls.map fun l => (.inl l : Key)).zip (bs.map .r)))
  row : ∀ i b, bs[i]? = some b → m.at b = some (.l (((W i).map PyData.int).map .d))
theorem BR.congr {m : Sto} {a : Addr} {bs : List Addr} {ls : List Int} {W W' : Nat → List Int} (h : BR m a bs ls W) (e : ∀ i, i < bs.length → W i = W' i) : BR m a bs ls W' := ⟨h.nd, h.len, h.top, fun i b hb => by rw [← e i (List.getElem?_eq_some_iff.mp hb).1]; exact h.row i b hb⟩
def updI (W : Nat → List Int) (s : Nat) (x : Int) : Nat → List Int := fun i => if i = s then W i ++ [x] else W i
theorem BR.app {m : Sto} {a b : Addr} {bs : List Addr} {ls : List Int} {W : Nat → List Int} {s : Nat} {x : Int} (h : BR m a bs ls W) (hb : bs[s]? = some b) : BR (m.put b (.l (((W s).map PyData.int).map .d ++ [.d (.int x)]))) a bs ls (updI W s x) := by
  have nd := List.nodup_cons.mp h.nd
  have hr := h.row s b hb
  refine ⟨h.nd, h.len, sat_put_ne hr (fun z => nd.1 (z ▸ List.mem_of_getElem? hb)) h.top, fun i c hc => ?_⟩
  by_cases e : i = s
  · subst e
    rw [hb] at hc
    cases hc
    rw [sat_put_eq hr]
    simp [updI]
  · have : b ≠ c := fun z => by
      subst z
      obtain ⟨h1, e1⟩ := List.getElem?_eq_some_iff.mp hb
      obtain ⟨h2, e2⟩ := List.getElem?_eq_some_iff.mp hc
      exact e ((List.getElem_inj (h₀ := h2) (h₁ := h1) nd.2).mp (e2.trans e1.symm))
    rw [sat_put_ne hr this (h.row i c hc)]
    simp [updI, e]
theorem br_new {a : Addr} {bs : List Addr} {ls : List Int} (nd : (a :: bs).Nodup) (hl : bs.length = ls.length) : BR ((a, .D ((ls.map fun l => (.inl l : Key)).zip (bs.map .r))) :: bs.map fun b => (b, .l [])) a bs ls fun _ => [] := by
  have nd2 := List.nodup_cons.mp nd
  refine ⟨nd, hl, by rw [sat_cons, if_pos rfl], fun v b hv => ?_⟩
  have hbm := List.mem_of_getElem? hv
  rw [sat_cons, if_neg (show ¬ a = b from fun z => nd2.1 (by rw [z]; exact hbm))]
  clear hl nd hv
  induction bs with
  | nil => cases hbm
  | cons c bs ih =>
    rw [List.map_cons, sat_cons]
    by_cases e : c = b
    · rw [if_pos e]; rfl
    · rw [if_neg e]
      rcases List.mem_cons.mp hbm with q | q
      · exact absurd q.symm e
      · exact ih ⟨fun z => nd2.1 (List.mem_cons_of_mem _ z), (List.nodup_cons.mp nd2.2).2⟩ q
theorem br_get {ls : List Int} {bs : List Addr} (nd : ls.Nodup) (hl : bs.length = ls.length) {i : Nat} {l : Int} {b : Addr} (h1 : ls[i]? = some l) (h2 : bs[i]? = some b) : getC ((ls.map fun l => (.inl l : Key)).zip (bs.map .r)) (.inl l) = some (.r b) := by
  unfold getC
  induction ls generalizing bs i with
  | nil => cases h1
  | cons x ls ih =>
    cases bs with
    | nil => cases h2
    | cons c bs =>
      have nd := List.nodup_cons.mp nd
      rw [List.map_cons, List.map_cons, List.zip_cons_cons, List.find?_cons]
      cases i with
      | zero =>
        cases h1
        cases h2
        simp
      | succ i =>
        have h1' : ls[i]? = some l := h1
        have : ¬ (Sum.inl x : Key) = .inl l := fun z => nd.1 (by injection z with z; rw [z]; exact List.mem_of_getElem? h1')
        simp only [this, decide_false]
        exact ih nd.2 (by simpa using hl) h1' h2
def srcE (ls : List Int) (W : Int → List Int) : List (Key × PyData) := ls.map fun l => ((.inl l : Key), PyData.list ((W l).map .int))
/-- the sources of t, one for each edge, row by row -/
def srcs (gs : Gr) (t : Int) : List Int := gs.flatMap fun r => (r.2.filter fun x => decide (x = t)).map fun _ => r.1
theorem srcs_take (gs : Gr) (t : Int) {k : Nat} {r : Int × List Int} (h : gs[k]? = some r) : srcs (gs.take (k + 1)) t = srcs (gs.take k) t ++ (r.2.filter fun x => decide (x = t)).map fun _ => r.1 := by
  unfold srcs
  rw [List.take_add_one, h]
  simp
theorem srcs_few {gs : Gr} (hf : ∀ r ∈ gs, r.2.length ≤ 10) (t : Int) : (srcs gs t).length ≤ 10 * gs.length := by
  induction gs with
  | nil => exact Nat.le_refl _
  | cons r gs ih =>
    have h1 := hf r List.mem_cons_self
    have h2 := ih fun q hq => hf q (List.mem_cons_of_mem _ hq)
    have h3 := List.length_filter_le (fun x => decide (x = t)) r.2
    unfold srcs at h2 ⊢
    rw [List.flatMap_cons, List.length_append, List.length_map, List.length_cons]
    omega
theorem src_get {ls : List Int} {W : Int → List Int} {x : Int} (h : x ∈ ls) : getE (srcE ls W) (.inl x) = some (.list ((W x).map .int)) := by
  unfold srcE
  induction ls with
  | nil => cases h
  | cons y ls ih =>
    rw [List.map_cons, getE_cons]
    by_cases e : y = x
    · subst e; rw [if_pos rfl]
    · rw [if_neg (fun z => e (by injection z))]
      rcases List.mem_cons.mp h with z | z
      · exact absurd z.symm e
      · exact ih z
def vp_backwards : VSp := fun rs Φ => ∃ (ls : List Int) (g : Gr), rs = [.d (.tuple (g.map grD))] ∧ ls.Nodup ∧ GrOk ls g ∧ g.length ≤ 90 ∧ ∀ gs : Gr, gs.Perm g → gs.Pairwise (fun r q => r.1 ≤ q.1) → Φ (.d (.dict (entD (srcE ls (srcs gs)))))
theorem len_backwards : ∀ rs Φ, vp_backwards rs Φ → rs.length = 1 := fun rs Φ ⟨_, _, e, _⟩ => by rw [e]; rfl
theorem G_backwards (T : Txt K mg) : FnOk P w K mg base CX0 1 T.f_backwards T.fd_backwards ["graph"] (toSp K 1 vp_backwards) := by
  refine fn_ok T.F_backwards sc_backwards fun cdv A outer s H E hr => ⟨_, (pss_cons (ps_setDc (i := 1) (own := [("label", 2), ("_", 5)]) (g := gTup K 2 (gCons (gName 2) (gCons (gName 5) gNil))) (tt := tYes) rfl sc_backwards.nd rfl rfl (sw_trueD rfl rfl rfl (by decide +kernel)) ((kpi_tup (K := K) rfl (pv 0))) (blkOk_by (N := ["graph", "found", "label", "targets", "target", "_"]) (sc := defScope sbackwards) (by decide +kernel)) (fun _ _ _ _ _ => (pg_tup (n := 2) rfl (pgs_cons (pg_name (i := 2) sc_backwards.nd rfl (Or.inl rfl)) (pgs_cons (pg_name (i := 5) sc_backwards.nd rfl (Or.inl rfl)) pgs_nil)))) (fun _ _ _ _ _ => pts_nil) (fun _ _ _ _ _ => (pv 2)) (fun _ _ _ _ _ => (pe_lst pa_nil)))
 (pss_cons (ps_for PassesOwn.never rfl ((kpi_list (K := K) rfl (pe_callB (kx_sortedR (K := K) rfl) (by rfl) T.sorted (by decide +kernel) (pa_cons (pv 0) pa_nil)))) (pg_tup (n := 2) rfl (pgs_cons (pg_name (i := 2) sc_backwards.nd rfl (Or.inl rfl)) (pgs_cons (pg_name (i := 3) sc_backwards.nd rfl (Or.inl rfl)) pgs_nil))) (pss_one (ps_for PassesOwn.never rfl ((kpi_tup (K := K) rfl (pv 3))) (pg_name (i := 4) sc_backwards.nd rfl (Or.inl rfl)) (pss_one (ps_expr (pe_bm PySem.F.plainAttrs_list PySem.F.slot_list_append PySem.F.type_list_append mt_append (pe_dget (hu_of hr) (pv 1) (pv 4) (fun _ _ => rfl)) (pa_cons (pv 2) pa_nil)))))))
 (pss_one (ps_frz (ps_ret (pv 1)))))), _, fun ex He Hf => (sms_seq (sms_setND (own := [2, 5]) 1 (KpM.kps (kpm_tup (kpm_cons (kpm_name (by decide)) (kpm_cons (kpm_name (by decide)) kpm_nil)))) (smi_tup (sm_var 0)) (smg_tup (smg_cons (smg_name 2) (smg_cons (smg_name 5) smg_nil))) (sm_var 2))
 (sms_seq (sms_for (smi_list (SmO.sm (smo_sortedR (sm_var 0)))) (smg_tup (smg_cons (smg_name 2) (smg_cons (smg_name 3) smg_nil)))
 (sms_for (smi_tup (sm_var 3)) (smg_name 4)
 (sms_appV 1 (smv_key (f2 := false) 1 (smv_var 1) (sm_var 4)) (SmV.x (Sm.v (sm_var 2))))))
 (sms_settleD 1 (sms_frzD 1 (sms_ret (sm_var 1)))))), ?_⟩
  rintro rs Φ ⟨ls, g, rfl, nd, hG, hn, h⟩
  have gl : ls.length = g.length := by rw [← hG.lbs, List.length_map]
  obtain ⟨GD, hGD⟩ : ∃ x : PyData, x = .tuple (g.map grD) := ⟨_, rfl⟩
  rw [← hGD]
  refine seq_op fun N hN => ?_
  unfold dSetND
  simp
  refine ⟨_, hGD, ls.map .inl, by simp [gl], nd.map _ (fun x y e z => e (by injection z)), by rw [List.length_map]; exact fz4 (by omega), fun k y hy => ?_, fun a bs ha hb hl => hN _ ?_⟩
  · rw [List.getElem?_map] at hy
    obtain ⟨r, hr, rfl⟩ := Option.map_eq_some_iff.mp hy
    simp [grD]
    have e : ls[k]? = some r.1 := by rw [← hG.lbs, List.getElem?_map, hr]; rfl
    exact ⟨.inl r.1, ⟨r.1, e, rfl⟩, rfl⟩
  clear hN N
  have hB := br_new (a := a) (bs := bs) (ls := ls) (List.nodup_cons.mpr ⟨ha, hb⟩) (by rw [hl, List.length_map, gl])
  have hbl := hB.len
  -- the walk over the rows, ascending
  refine seq_by (fun δ => ∃ (m : Sto) (gs : Gr) (y2 y3 y4 : Option R), gs.Perm g ∧ gs.Pairwise (fun r q => r.1 ≤ q.1) ∧ BR m a bs ls (fun i => srcs gs (ls.getD i 0)) ∧ δ = [some (.d GD), some (.reg (.ref a) m), y2, y3, y4, none]) (fun δ hI => ?_) (fun N hN => ?_)
  · obtain ⟨m, gs, y2, y3, y4, hgs, hps, hB, rfl⟩ := hI
    have h := h gs hgs hps
    obtain ⟨W, hW⟩ : ∃ W : Nat → List Int, W = fun i => srcs gs (ls.getD i 0) := ⟨_, rfl⟩
    rw [← hW] at hB
    obtain ⟨rows, hrows⟩ : ∃ rows : List (Key × Addr × List PyData), rows = (List.range ls.length).map fun i => (.inl (ls.getD i 0), bs.getD i 0, (W i).map .int) := ⟨_, rfl⟩
    simp
    refine ⟨rows, ?_, fun p1 p2 p3 hp => ?_, ?_⟩
    · rw [hB.top, hrows, List.map_map]
      congr 2
      refine List.ext_getElem? fun i => ?_
      by_cases c : i < ls.length
      · rw [List.getElem?_map, List.getElem?_range c, List.getElem?_eq_getElem (by simp; omega), List.getElem_zip]
        simp [List.getD_eq_getElem?_getD, List.getElem?_eq_getElem c, List.getElem?_eq_getElem (show i < bs.length by omega)]
      · rw [List.getElem?_eq_none (by simp; omega), List.getElem?_eq_none (by simp; omega)]
    · rw [hrows] at hp
      obtain ⟨i, hi, e⟩ := List.mem_map.mp hp
      injection e with e1 e2
      injection e2 with e2 e3
      subst e2 e3
      have hi := List.mem_range.mp hi
      exact hB.row i _ (by rw [List.getD_eq_getElem?_getD, List.getElem?_eq_getElem (by omega)]; rfl)
    · have := h
      have e : rows.map (fun p => (p.1, PyData.list p.2.2)) = srcE ls (srcs gs) := by
        rw [hrows, List.map_map]
        unfold srcE
        refine List.ext_getElem? fun i => ?_
        by_cases c : i < ls.length
        · rw [List.getElem?_map, List.getElem?_map, List.getElem?_range c, List.getElem?_eq_getElem c, hW]
          simp [List.getD_eq_getElem?_getD, List.getElem?_eq_getElem c]
        · rw [List.getElem?_eq_none (by simp; omega), List.getElem?_eq_none (by simp; omega)]
      rw [e]
      exact this
  -- sorted rows
  have hrw : ∀ gs : List (Int × List Int), (gs.map fun r => (r.1, PyData.tuple (r.2.map .int))).map rowD = gs.map grD := fun gs => by rw [List.map_map]; rfl
  refine dFor_via (Pre := fun xs => ∃ gs : List (Int × List Int), gs.Perm g ∧ gs.Pairwise (fun r q => r.1 ≤ q.1) ∧ xs = gs.map grD) (fun Ψ hΨ => ?_) fun xs ⟨gs, hgs, hps, hxs⟩ => ?_
  · simp
    refine ⟨g.map fun r => (r.1, PyData.tuple (r.2.map .int)), .inl (by rw [hrw, hGD]), by rw [List.map_map]; exact (show (g.map (·.1)).Nodup by rw [hG.lbs]; exact nd), fun ms hms hpw => ?_⟩
    obtain ⟨gs, hgs, rfl⟩ := perm_map_inv hms g rfl
    exact hΨ _ ⟨gs, hgs, (List.pairwise_map (f := fun r : Int × List Int => (r.1, PyData.tuple (r.2.map .int))) (R := fun r q => r.1 ≤ q.1)).mp hpw, hrw gs⟩
  subst hxs
  have hgm : ∀ r, r ∈ gs ↔ r ∈ g := fun r => hgs.mem_iff
  have hgl : gs.length = g.length := hgs.length_eq
  have hfw : ∀ r ∈ gs, r.2.length ≤ 10 := fun r hr => hG.few r ((hgm r).mp hr)
  obtain ⟨I, hI⟩ : ∃ I : Nat → Dl → Prop, ∀ k δ, I k δ ↔ ∃ (m : Sto) (y2 y3 y4 : Option R), BR m a bs ls (fun i => srcs (gs.take k) (ls.getD i 0)) ∧ δ = [some (.d GD), some (.reg (.ref a) m), y2, y3, y4, none] := ⟨_, fun _ _ => Iff.rfl⟩
  refine dFor_w (xs := gs.map grD) (fun Ψ hΨ => hΨ) I ((hI _ _).mpr ⟨_, none, none, none, hB.congr fun i _ => by simp [srcs], rfl⟩) (fun k y δ hy hJ => ?_) (fun δ hJ => ?_)
  rotate_left
  · obtain ⟨m, y2, y3, y4, hB, rfl⟩ := (hI _ _).mp hJ
    rw [List.length_map, List.take_length] at hB
    exact hN _ ⟨m, gs, y2, y3, y4, hgs, hps, hB, rfl⟩
  obtain ⟨m, y2, y3, y4, hB, rfl⟩ := (hI _ _).mp hJ
  rw [List.getElem?_map] at hy
  obtain ⟨r, hr, rfl⟩ := Option.map_eq_some_iff.mp hy
  have hk : k < gs.length := (List.getElem?_eq_some_iff.mp hr).1
  have hrg : r ∈ g := (hgm r).mp (List.mem_of_getElem? hr)
  have hfew := hG.few r hrg
  have hkf : ∀ t, (srcs (gs.take k) t).length ≤ 900 := fun t => by
    have := srcs_few (gs := gs.take k) (fun q hq => hfw q (List.mem_of_mem_take hq)) t
    rw [List.length_take] at this
    omega
  obtain ⟨RD, hRD⟩ : ∃ x : PyData, x = .tuple (r.2.map .int) := ⟨_, rfl⟩
  simp [grD]
  rw [← hRD]
  obtain ⟨J, hJ2⟩ : ∃ J : Nat → Dl → Prop, ∀ j δ, J j δ ↔ ∃ (m : Sto) (y4 : Option R), BR m a bs ls (fun i => srcs (gs.take k) (ls.getD i 0) ++ ((r.2.take j).filter fun x => decide (x = ls.getD i 0)).map fun _ => r.1) ∧ δ = [some (.d GD), some (.reg (.ref a) m), some (.d (.int r.1)), some (.d RD), y4, none] := ⟨_, fun _ _ => Iff.rfl⟩
  refine dFor_w (xs := r.2.map PyData.int) (fun Ψ hΨ => by simpa [hRD] using hΨ) J ((hJ2 _ _).mpr ⟨m, y4, hB.congr fun i _ => by simp, rfl⟩) (fun j y δ hy hJ3 => ?_) (fun δ hJ3 => ?_)
  · obtain ⟨m, y4, hB, rfl⟩ := (hJ2 _ _).mp hJ3
    rw [List.getElem?_map] at hy
    obtain ⟨t, ht, rfl⟩ := Option.map_eq_some_iff.mp hy
    have hj : j < r.2.length := (List.getElem?_eq_some_iff.mp ht).1
    have htl : t ∈ ls := hG.tgt r hrg t (List.mem_of_getElem? ht)
    obtain ⟨i, hi⟩ := List.getElem?_of_mem htl
    have hil : i < ls.length := (List.getElem?_eq_some_iff.mp hi).1
    obtain ⟨b, hb⟩ : ∃ b, bs[i]? = some b := ⟨_, List.getElem?_eq_getElem (by omega)⟩
    have hrow := hB.row i b hb
    have happ := hB.app (x := r.1) hb
    have hgt := br_get nd hbl hi hb
    have hlt : ls.getD i 0 = t := by rw [List.getD_eq_getElem?_getD, hi]; rfl
    have hlen := hkf (ls.getD i 0)
    have hfl := List.length_filter_le (fun x => decide (x = ls.getD i 0)) (r.2.take j)
    rw [List.length_take] at hfl
    simp [-List.map_append, -List.getD_eq_getElem?_getD]
    refine ⟨_, _, _, .inl t, rfl, ⟨rfl, rfl⟩, hB.top, _, hgt, b, rfl, ⟨_, hrow⟩, _, hrow, fz4 (by rw [List.length_map, List.length_map, List.length_append, List.length_map]; omega), (hJ2 _ _).mpr ⟨_, _, happ.congr fun i2 hi2 => ?_, rfl⟩⟩
    rw [List.take_add_one, ht]
    unfold updI
    by_cases c : i2 = i
    · subst c
      rw [if_pos rfl]
      show srcs (List.take k gs) (ls.getD i2 0) ++ (((r.2.take j).filter fun x => decide (x = ls.getD i2 0)).map fun _ => r.1) ++ [r.1] = _
      rw [hlt]
      simp
    · rw [if_neg c]
      by_cases c2 : t = ls.getD i2 0
      · exfalso
        have c3 : i2 < ls.length := by omega
        · have a1 : ls[i2]? = some t := by rw [c2, List.getD_eq_getElem?_getD, List.getElem?_eq_getElem c3]; rfl
          obtain ⟨h1, e1⟩ := List.getElem?_eq_some_iff.mp a1
          obtain ⟨h2, e2⟩ := List.getElem?_eq_some_iff.mp hi
          exact c ((List.getElem_inj (h₀ := h1) (h₁ := h2) nd).mp (e1.trans e2.symm))
      · simp [c2, -List.getD_eq_getElem?_getD]
  · obtain ⟨m, y4, hB, rfl⟩ := (hJ2 _ _).mp hJ3
    rw [List.length_map] at hB
    exact (hI _ _).mpr ⟨m, _, _, y4, hB.congr fun i _ => by rw [srcs_take _ _ hr, List.take_length], rfl⟩


/-! ### critical_edges -/
def cE (ls : List Int) (c : Int → Nat) : List (Key × PyData) := ls.map fun l => ((.inl l : Key), PyData.int ((c l : Nat) : Int))
theorem cE_get {ls : List Int} {c : Int → Nat} {t : Int} (h : t ∈ ls) : getE (cE ls c) (.inl t) = some (.int ((c t : Nat) : Int)) := by
  unfold cE
  induction ls with
  | nil => cases h
  | cons y ls ih =>
    rw [List.map_cons, getE_cons]
    by_cases e : y = t
    · subst e; rw [if_pos rfl]
    · rw [if_neg (fun z => e (by injection z))]
      rcases List.mem_cons.mp h with z | z
      · exact absurd z.symm e
      · exact ih z
theorem cE_none {ls : List Int} {c : Int → Nat} {t : Int} (h : t ∉ ls) : getE (cE ls c) (.inl t) = none := by
  unfold cE
  induction ls with
  | nil => rfl
  | cons y ls ih =>
    rw [List.map_cons, getE_cons, if_neg (fun z => h (by injection z with z; rw [z]; exact List.mem_cons_self))]
    exact ih fun z => h (List.mem_cons_of_mem _ z)
theorem cE_put {ls : List Int} {c c' : Int → Nat} {t : Int} {m : Nat} (h : t ∈ ls) (h1 : c' t = m) (h2 : ∀ l, l ≠ t → c' l = c l) : putE (cE ls c) (.inl t) (.int ((m : Nat) : Int)) = cE ls c' := by
  have e : ((cE ls c).any fun e => decide (e.1 = (.inl t : Key))) = true := by rw [getE_any, cE_get h]; rfl
  unfold putE
  rw [if_pos e]
  unfold cE
  rw [List.map_map]
  refine List.map_congr_left fun l _ => ?_
  show (if (Sum.inl l : Key) = .inl t then ((.inl l : Key), PyData.int ((m : Nat) : Int)) else ((.inl l : Key), PyData.int ((c l : Nat) : Int))) = _
  by_cases e : l = t
  · subst e; rw [if_pos rfl, h1]
  · rw [if_neg (fun z => e (by injection z)), h2 l e]
def critR (c : Int → Nat) (r : Int × List Int) : List (Int × Nat) := ((List.range r.2.length).filter fun s => decide (1 < c (r.2.getD s 0))).map fun s => (r.1, s)
def critO (c : Int → Nat) (r : Int × List Int) : List (Int × Nat) := if 1 < r.2.length then critR c r else []
def crit (c : Int → Nat) (gs : Gr) : List (Int × Nat) := gs.flatMap (critO c)
def edD (p : Int × Nat) : PyData := .tuple [.int p.1, .int ((p.2 : Nat) : Int)]
theorem critO_few {c : Int → Nat} {r : Int × List Int} (h : r.2.length ≤ 10) : (critO c r).length ≤ 10 := by
  unfold critO critR
  split
  · rw [List.length_map]
    exact Nat.le_trans (List.length_filter_le _ _) (by simpa using h)
  · exact Nat.zero_le _
theorem crit_take (c : Int → Nat) (gs : Gr) {k : Nat} {r : Int × List Int} (h : gs[k]? = some r) : crit c (gs.take (k + 1)) = crit c (gs.take k) ++ critO c r := by
  unfold crit
  rw [List.take_add_one, h]
  simp
theorem crit_few {c : Int → Nat} {gs : Gr} (hf : ∀ r ∈ gs, r.2.length ≤ 10) : (crit c gs).length ≤ 10 * gs.length := by
  induction gs with
  | nil => exact Nat.le_refl _
  | cons r gs ih =>
    have h1 := critO_few (c := c) (hf r List.mem_cons_self)
    have h2 := ih fun q hq => hf q (List.mem_cons_of_mem _ hq)
    unfold crit at h2 ⊢
    rw [List.flatMap_cons, List.length_append, List.length_cons]
    omega
def vp_critical_edges : VSp := fun rs Φ => ∃ (ls : List Int) (g : Gr), rs = [.d (.tuple (g.map grD))] ∧ ls.Nodup ∧ GrOk ls g ∧ g.length ≤ 90 ∧ ∀ gs : Gr, gs.Perm g → gs.Pairwise (fun r q => r.1 ≤ q.1) → Φ (.own ((crit (fun t => (srcs g t).length) gs).map edD))
theorem len_critical_edges : ∀ rs Φ, vp_critical_edges rs Φ → rs.length = 1 := fun rs Φ ⟨_, _, e, _⟩ => by rw [e]; rfl
theorem G_critical_edges (T : Txt K mg) : FnOk P w K mg base CX0 1 T.f_critical_edges T.fd_critical_edges ["graph"] (toSp K 1 vp_critical_edges) := by
  refine fn_ok T.F_critical_edges sc_critical_edges fun cdv A outer s H E hr => ⟨_, (pss_cons (ps_set (i := 1) sc_critical_edges.nd rfl (Or.inr rfl) (pe_dc (own := [("label", 6), ("_", 3)]) (g := gTup K 2 (gCons (gName 6) (gCons (gName 3) gNil))) (tt := tYes) rfl sc_critical_edges.nd ((kpi_tup (K := K) rfl (pv 0))) (blkOk_by (N := ["graph", "counts", "found", "_", "targets", "target", "label", "slot"]) (sc := defScope scritical_edges) (by decide +kernel)) (fun _ _ _ _ _ => (pg_tup (n := 2) rfl (pgs_cons (pg_name (i := 6) sc_critical_edges.nd rfl (Or.inl rfl)) (pgs_cons (pg_name (i := 3) sc_critical_edges.nd rfl (Or.inl rfl)) pgs_nil)))) (fun _ _ _ _ _ => pts_nil) (fun _ _ _ _ _ => (pv 6)) (fun _ _ _ _ _ => pe_int)))
 (pss_cons (ps_for PassesOwn.never rfl ((kpi_tup (K := K) rfl (pv 0))) (pg_tup (n := 2) rfl (pgs_cons (pg_name (i := 3) sc_critical_edges.nd rfl (Or.inl rfl)) (pgs_cons (pg_name (i := 4) sc_critical_edges.nd rfl (Or.inl rfl)) pgs_nil))) (pss_one (ps_for PassesOwn.never rfl ((kpi_tup (K := K) rfl (pv 4))) (pg_name (i := 5) sc_critical_edges.nd rfl (Or.inl rfl)) (pss_one (ps_daug (hu_of hr) (pv 1) (pv 5) pe_int in_add (by intros; rfl))))))
 (pss_cons (ps_frz (ps_set (i := 2) sc_critical_edges.nd rfl (Or.inl rfl) (pe_lst pa_nil)))
 (pss_cons (ps_for PassesOwn.never rfl ((kpi_list (K := K) rfl (pe_callB (kx_sortedR (K := K) rfl) (by rfl) T.sorted (by decide +kernel) (pa_cons (pv 0) pa_nil)))) (pg_tup (n := 2) rfl (pgs_cons (pg_name (i := 6) sc_critical_edges.nd rfl (Or.inr rfl)) (pgs_cons (pg_name (i := 4) sc_critical_edges.nd rfl (Or.inl rfl)) pgs_nil))) (pss_one (ps_if (pt_cmpR op_gt (pe_callB (kx_len (K := K) rfl) (by rfl) T.len PySem.boot_len (pa_cons (pv 4) pa_nil)) pe_int (nomark _)) (pss_one (ps_expr (pe_bm PySem.F.plainAttrs_list PySem.F.slot_list_extend PySem.F.type_list_extend mt_extend (pv 2) (pa_cons (pe_lc (own := [("slot", 7), ("target", 5)]) (g := gTup K 2 (gCons (gName 7) (gCons (gName 5) gNil))) rfl sc_critical_edges.nd (pi_enumT (by rfl) T.enumerate (pa_cons (pv 4) pa_nil)) (blkOk_by (N := ["graph", "counts", "found", "_", "targets", "target", "label", "slot"]) (sc := defScope scritical_edges) (by decide +kernel)) (fun _ _ _ _ _ => (pg_tup (n := 2) rfl (pgs_cons (pg_name (i := 7) sc_critical_edges.nd rfl (Or.inl rfl)) (pgs_cons (pg_name (i := 5) sc_critical_edges.nd rfl (Or.inl rfl)) pgs_nil)))) (fun _ _ _ _ _ => pts_one (pt_cmpR op_gt (pe_dget (hu_of hr) (pv 1) (pv 5) (fun _ _ => rfl)) pe_int (nomark _))) (fun _ _ _ _ _ => (pe_tup (pa_cons (pv 6) (pa_cons (pv 7) pa_nil))))) pa_nil)))) pss_nil)))
 (pss_one (ps_ret (pv 2))))))), _, fun ex He Hf => (sms_seq (sms_setDC (own := [6, 3]) 1 (KpM.kps (kpm_tup (kpm_cons (kpm_name (by decide)) (kpm_cons (kpm_name (by decide)) kpm_nil)))) (smi_tup (sm_var 0)) (smg_tup (smg_cons (smg_name 6) (smg_cons (smg_name 3) smg_nil))) smt_yes (sm_var 6) (sm_int _))
 (sms_seq (sms_for (smi_tup (sm_var 0)) (smg_tup (smg_cons (smg_name 3) (smg_cons (smg_name 4) smg_nil)))
 (sms_for (smi_tup (sm_var 4)) (smg_name 5)
 (sms_augD (f1 := false) (f2 := false) 1 (sm_int _) (sm_var 5))))
 (sms_seq (sms_frzD 1 (sms_setO 2 (smo_lst sma_nil)))
 (sms_seq (sms_for (smi_list (SmO.sm (smo_sortedR (sm_var 0)))) (smg_tup (smg_cons (smg_name 6) (smg_cons (smg_name 4) smg_nil)))
 (sms_if (smt_t (f1 := false) (sm_op (f1 := false) (f2 := false) (opd_I0 (g' := fun i j => .bool (decide (j < i))) fun _ _ => rfl) (sm_cb (f1 := false) cbd_len (sma_cons (sm_var 4) sma_nil)) (sm_int _)))
 (sms_ext 2 (SmO.sm (smo_lcG (own := [7, 5]) (kps_tup (kps_cons (by decide) (kps_cons (by decide) kps_nil))) (smi_enumT (sm_var 4)) (smg_tup (smg_cons (smg_name 7) (smg_cons (smg_name 5) smg_nil))) (smt_t (f1 := false) (sm_op (f1 := false) (f2 := false) (opd_I0 (g' := fun i j => .bool (decide (j < i))) fun _ _ => rfl) (sm_getF (f2 := false) (sm_var 1) (sm_var 5)) (sm_int _))) (sm_tup (sma_cons (sm_var 6) (sma_cons (sm_var 7) sma_nil))))))
 sms_next))
 (sms_retO 2))))), ?_⟩
  rintro rs Φ ⟨ls, g, rfl, nd, hG, hn, h⟩
  have gl : ls.length = g.length := by rw [← hG.lbs, List.length_map]
  obtain ⟨GD, hGD⟩ : ∃ x : PyData, x = .tuple (g.map grD) := ⟨_, rfl⟩
  rw [← hGD]
  refine seq_op fun N hN => ?_
  unfold dSetDC
  simp
  refine ⟨_, hGD, fun k acc => acc = cE (ls.take k) fun _ => 0, rfl, fun k y acc hy hk => ?_, fun acc hk a => ?_⟩
  · rw [List.getElem?_map] at hy
    obtain ⟨r, hr, rfl⟩ := Option.map_eq_some_iff.mp hy
    have hkl : k < g.length := (List.getElem?_eq_some_iff.mp hr).1
    have hlk : ls[k]? = some r.1 := by rw [← hG.lbs, List.getElem?_map, hr]; rfl
    subst hk
    simp [grD]
    refine ⟨.inl r.1, rfl, by unfold cE; rw [List.length_map, List.length_take]; exact Nat.lt_of_lt_of_le (show min k ls.length < 100000 by omega) (by decide), ?_⟩
    rw [putE_new _ (cE_none fun hm => ?_), List.take_add_one, hlk]
    · unfold cE
      rw [List.map_append]
      rfl
    · obtain ⟨i, hi⟩ := List.getElem?_of_mem hm
      rw [List.getElem?_take] at hi
      split at hi
      · obtain ⟨p1, q1⟩ := List.getElem?_eq_some_iff.mp hlk
        obtain ⟨p2, q2⟩ := List.getElem?_eq_some_iff.mp hi
        have := (List.getElem_inj (h₀ := p1) (h₁ := p2) nd).mp (q1.trans q2.symm)
        omega
      · cases hi
  subst hk
  rw [List.length_map, ← gl, List.take_length]
  refine hN _ ?_
  clear hN N
  -- counting
  refine seq_by (fun δ => ∃ y3 y4 y5 : Option R, δ = [some (.d GD), some (.dct a (cE ls fun t => (srcs g t).length)), none, y3, y4, y5, none, none]) (fun δ hI => ?_) (fun N hN => ?_)
  rotate_left
  · obtain ⟨I, hI⟩ : ∃ I : Nat → Dl → Prop, ∀ k δ, I k δ ↔ ∃ y3 y4 y5 : Option R, δ = [some (.d GD), some (.dct a (cE ls fun t => (srcs (g.take k) t).length)), none, y3, y4, y5, none, none] := ⟨_, fun _ _ => Iff.rfl⟩
    refine dFor_w (xs := g.map grD) (fun Ψ hΨ => by simpa [hGD] using hΨ) I ((hI _ _).mpr ⟨none, none, none, rfl⟩) (fun k y δ hy hJ => ?_) (fun δ hJ => ?_)
    rotate_left
    · obtain ⟨y3, y4, y5, rfl⟩ := (hI _ _).mp hJ
      rw [List.length_map, List.take_length]
      exact hN _ ⟨_, _, _, rfl⟩
    obtain ⟨y3, y4, y5, rfl⟩ := (hI _ _).mp hJ
    rw [List.getElem?_map] at hy
    obtain ⟨r, hr, rfl⟩ := Option.map_eq_some_iff.mp hy
    have hrg := List.mem_of_getElem? hr
    obtain ⟨RD, hRD⟩ : ∃ x : PyData, x = .tuple (r.2.map .int) := ⟨_, rfl⟩
    simp [grD]
    rw [← hRD]
    obtain ⟨J, hJ2⟩ : ∃ J : Nat → Dl → Prop, ∀ j δ, J j δ ↔ ∃ y5 : Option R, δ = [some (.d GD), some (.dct a (cE ls fun t => (srcs (g.take k) t).length + ((r.2.take j).filter fun x => decide (x = t)).length)), none, some (.d (.int r.1)), some (.d RD), y5, none, none] := ⟨_, fun _ _ => Iff.rfl⟩
    refine dFor_w (xs := r.2.map PyData.int) (fun Ψ hΨ => by simpa [hRD] using hΨ) J ((hJ2 _ _).mpr ⟨y5, by simp⟩) (fun j y δ hy hJ3 => ?_) (fun δ hJ3 => ?_)
    · obtain ⟨y5, rfl⟩ := (hJ2 _ _).mp hJ3
      rw [List.getElem?_map] at hy
      obtain ⟨t, ht, rfl⟩ := Option.map_eq_some_iff.mp hy
      have htl : t ∈ ls := hG.tgt r hrg t (List.mem_of_getElem? ht)
      simp
      refine ⟨.inl t, rfl, _, cE_get htl, by unfold cE; rw [List.length_map]; exact Nat.lt_of_lt_of_le (show ls.length < 100000 by omega) (by decide), (hJ2 _ _).mpr ⟨some (.d (.int t)), ?_⟩⟩
      have e := cE_put (ls := ls) (c := fun t => (srcs (g.take k) t).length + ((r.2.take j).filter fun x => decide (x = t)).length) (c' := fun t => (srcs (g.take k) t).length + ((r.2.take (j + 1)).filter fun x => decide (x = t)).length) (t := t) (m := (srcs (g.take k) t).length + ((r.2.take j).filter fun x => decide (x = t)).length + 1) htl (by rw [List.take_add_one, ht]; simp; omega) (fun l hl => by rw [List.take_add_one, ht]; simp [Ne.symm hl])
      rw [← e]
      rfl
    · obtain ⟨y5, rfl⟩ := (hJ2 _ _).mp hJ3
      rw [List.length_map, List.take_length]
      refine (hI _ _).mpr ⟨some (.d (.int r.1)), some (.d RD), y5, ?_⟩
      have e : (fun t => (srcs (g.take (k + 1)) t).length) = fun t => (srcs (g.take k) t).length + (r.2.filter fun x => decide (x = t)).length := by
        funext t
        rw [srcs_take _ _ hr, List.length_append, List.length_map]
      rw [e]
  obtain ⟨y3, y4, y5, rfl⟩ := hI
  obtain ⟨c, hc⟩ : ∃ c : Int → Nat, c = fun t => (srcs g t).length := ⟨_, rfl⟩
  rw [← hc] at h ⊢
  refine seq_op fun N hN => ?_
  simp
  intro o
  refine hN _ ?_
  clear hN N
  obtain ⟨CD, hCD⟩ : ∃ x : PyData, x = .dict (entD (cE ls c)) := ⟨_, rfl⟩
  rw [← hCD]
  refine seq_by (fun δ => ∃ (gs : Gr) (y3 y4 y5 y6 y7 : Option R), gs.Perm g ∧ gs.Pairwise (fun r q => r.1 ≤ q.1) ∧ δ = [some (.d GD), some (.d CD), some (.own o ((crit c gs).map edD)), y3, y4, y5, y6, y7]) (fun δ hI => ?_) (fun N hN => ?_)
  · obtain ⟨gs, y3, y4, y5, y6, y7, h1, h2, rfl⟩ := hI
    simp
    exact h gs h1 h2
  have hrw : ∀ gs : List (Int × List Int), (gs.map fun r => (r.1, PyData.tuple (r.2.map .int))).map rowD = gs.map grD := fun gs => by rw [List.map_map]; rfl
  refine dFor_via (Pre := fun xs => ∃ gs : List (Int × List Int), gs.Perm g ∧ gs.Pairwise (fun r q => r.1 ≤ q.1) ∧ xs = gs.map grD) (fun Ψ hΨ => ?_) fun xs ⟨gs, hgs, hps, hxs⟩ => ?_
  · simp
    refine ⟨g.map fun r => (r.1, PyData.tuple (r.2.map .int)), .inl (by rw [hrw, hGD]), by rw [List.map_map]; exact (show (g.map (·.1)).Nodup by rw [hG.lbs]; exact nd), fun ms hms hpw => ?_⟩
    obtain ⟨gs, hgs, rfl⟩ := perm_map_inv hms g rfl
    exact hΨ _ ⟨gs, hgs, (List.pairwise_map (f := fun r : Int × List Int => (r.1, PyData.tuple (r.2.map .int))) (R := fun r q => r.1 ≤ q.1)).mp hpw, hrw gs⟩
  subst hxs
  have hgl : gs.length = g.length := hgs.length_eq
  have hfw : ∀ r ∈ gs, r.2.length ≤ 10 := fun r hr => hG.few r (hgs.mem_iff.mp hr)
  obtain ⟨I, hI⟩ : ∃ I : Nat → Dl → Prop, ∀ k δ, I k δ ↔ ∃ y3 y4 y5 y6 y7 : Option R, δ = [some (.d GD), some (.d CD), some (.own o ((crit c (gs.take k)).map edD)), y3, y4, y5, y6, y7] := ⟨_, fun _ _ => Iff.rfl⟩
  refine dFor_w (xs := gs.map grD) (fun Ψ hΨ => hΨ) I ((hI _ _).mpr ⟨_, _, _, _, _, rfl⟩) (fun k y δ hy hJ => ?_) (fun δ hJ => ?_)
  rotate_left
  · obtain ⟨y3, y4, y5, y6, y7, rfl⟩ := (hI _ _).mp hJ
    rw [List.length_map, List.take_length]
    exact hN _ ⟨gs, _, _, _, _, _, hgs, hps, rfl⟩
  obtain ⟨y3, y4, y5, y6, y7, rfl⟩ := (hI _ _).mp hJ
  rw [List.getElem?_map] at hy
  obtain ⟨r, hr, rfl⟩ := Option.map_eq_some_iff.mp hy
  have hk : k < gs.length := (List.getElem?_eq_some_iff.mp hr).1
  have hrm := List.mem_of_getElem? hr
  have hfew := hfw r hrm
  have hcf := crit_few (c := c) (gs := gs.take k) fun q hq => hfw q (List.mem_of_mem_take hq)
  rw [List.length_take] at hcf
  have fin : ∀ (zs : List (Int × Nat)) (y3 y4 y5 y6 y7 : Option R), zs = critO c r → I (k + 1) [some (.d GD), some (.d CD), some (.own o ((crit c (gs.take k)).map edD ++ zs.map edD)), y3, y4, y5, y6, y7] := fun zs y3 y4 y5 y6 y7 e => (hI _ _).mpr ⟨y3, y4, y5, y6, y7, by subst e; rw [crit_take c gs hr, List.map_append]⟩
  obtain ⟨RD, hRD⟩ : ∃ x : PyData, x = .tuple (r.2.map .int) := ⟨_, rfl⟩
  simp [grD]
  rw [← hRD]
  by_cases c1 : 1 < r.2.length
  · have eO : critO c r = critR c r := by unfold critO; rw [if_pos c1]
    have c1' : (1 : Int) < (r.2.length : Int) := by omega
    rw [if_pos c1']
    obtain ⟨cz, hcz⟩ : ∃ cz : Nat → List PyData, ∀ j, cz j = ((((List.range j).filter fun s => decide (1 < c (r.2.getD s 0))).map fun s => (r.1, s)).map edD) := ⟨_, fun _ => rfl⟩
    unfold oLcG
    simp [hRD]
    refine ⟨fun j acc => acc = cz j, (hcz 0).symm, fun j y acc hy hA => ?_, fun acc hA => ?_⟩
    · have hj : j < r.2.length := by
        have := (List.getElem?_eq_some_iff.mp hy).1
        rw [enumD_len, List.length_map] at this
        exact this
      have hx : r.2[j]? = some (r.2.getD j 0) := by rw [List.getD_eq_getElem?_getD, List.getElem?_eq_getElem hj]; rfl
      rw [enumD_get (x := .int (r.2.getD j 0)) (by rw [List.getElem?_map, hx]; rfl)] at hy
      cases hy
      have htl : r.2.getD j 0 ∈ ls := hG.tgt r (hgs.mem_iff.mp hrm) _ (List.mem_of_getElem? hx)
      have hal : acc.length ≤ j := by
        rw [hA, hcz, List.length_map, List.length_map]
        exact Nat.le_trans (List.length_filter_le _ _) (by simp)
      have hnx : cz (j + 1) = if 1 < c (r.2.getD j 0) then acc ++ [.tuple [.int r.1, .int (j : Int)]] else acc := by
        rw [hcz, List.range_succ, List.filter_append, List.map_append, List.map_append, ← hcz, ← hA]
        by_cases q : 1 < c (r.2.getD j 0)
        · rw [if_pos q]; simp [q, edD, -List.getD_eq_getElem?_getD]
        · rw [if_neg q]; simp [q, -List.getD_eq_getElem?_getD]
      have hg := cE_get (c := c) htl
      generalize r.2.getD j 0 = t at htl hg hnx ⊢
      simp [dwipe, hCD]
      refine ⟨_, rfl, .inl t, rfl, _, hg, _, rfl, ?_⟩
      rw [hnx]
      by_cases q : 1 < c t
      · have q' : (1 : Int) < ((c t : Nat) : Int) := by omega
        rw [if_pos q', if_pos q]
        exact ⟨fz3 (by decide), fz4 (by omega), rfl⟩
      · have q' : ¬ (1 : Int) < ((c t : Nat) : Int) := by omega
        rw [if_neg q', if_neg q]
    · rw [enumD_len, List.length_map] at hA
      have e : acc = (critO c r).map edD := by rw [eO, hA, hcz]; rfl
      have hol := critO_few (c := c) hfew
      subst e
      rw [← hRD]
      refine ⟨?_, fin _ _ _ _ _ _ rfl⟩
      rw [List.length_map]
      exact Nat.le_of_lt (fz4 (by omega))
  · have c1' : ¬ (1 : Int) < (r.2.length : Int) := by omega
    rw [if_neg c1']
    have := fin [] y3 (some (.d RD)) y5 (some (.d (.int r.1))) y7 (by unfold critO; rw [if_neg c1])
    simpa using this

/-! ### reachable -/
theorem tgt_in {ls : List Int} {g : Gr} (nd : ls.Nodup) (hG : GrOk ls g) : ∀ x ∈ ls, (∀ y ∈ tgtL g x, y ∈ ls) ∧ (tgtL g x).length ≤ 10 := fun x hx => by
  rw [← hG.lbs] at hx
  obtain ⟨r, hr, rfl⟩ := List.mem_map.mp hx
  obtain ⟨i, hi⟩ := List.getElem?_of_mem hr
  rw [tgt_at nd hG hi]
  exact ⟨hG.tgt r hr, hG.few r hr⟩
theorem okd_ints {xs : List Int} (h : xs.length ≤ 1000000) : Okd 1 (.list (xs.map .int)) := .list (fun y hy => by obtain ⟨i, _, rfl⟩ := List.mem_map.mp hy; exact .int i) (by rw [List.length_map]; exact h)
theorem tgt_few {ls : List Int} {g : Gr} (nd : ls.Nodup) (hG : GrOk ls g) (x : Int) : (tgtL g x).length ≤ 10 := by
  by_cases c : x ∈ ls
  · exact (tgt_in nd hG x c).2
  · have : g.find? (fun q => decide (q.1 = x)) = none := List.find?_eq_none.mpr fun q hq => by
      have : ¬ q.1 = x := fun z => c (by rw [← z, ← hG.lbs]; exact List.mem_map.mpr ⟨q, hq, rfl⟩)
      simp [this]
    unfold tgtL
    rw [this]
    exact Nat.zero_le _
/-- what the walk lists is what the rounds reach -/
theorem walk_bfs {ls : List Int} {g : Gr} (nd : ls.Nodup) (hG : GrOk ls g) (hb : ∀ x ∈ ls, 0 ≤ x) {r : Int} (hr : r ∈ ls) {nw : Nat} {s : Wk Int} (hs : wrun (tgtL g) nw (winit r) = s) (hp : s.path = []) : s.left.Perm (bfs g (-1) ([r].filter fun x => decide (x ≠ -1)) g.length) := by
  have hll : ls.length = g.length := by rw [← hG.lbs, List.length_map]
  have hcl := fun x hx => (tgt_in nd hG x hx).1
  have hin := hs ▸ win_run hcl nw (win_init (G := tgtL g) hr)
  have hok := hs ▸ wok_run nw (wok_init (G := tgtL g) r)
  have hrd := hok.reached hp
  have r0 := hb r hr
  have e : [r].filter (fun x => decide (x ≠ -1)) = [r] := by
    have : ¬ r = -1 := by omega
    simp [this]
  rw [e]
  have hB := bfs_all (g := g) (cut := -1) (f0 := [r]) (N := ls) (k := g.length) (by simp) (by simp; omega) (fun x hx => by rw [List.mem_singleton.mp hx]; exact hr) hcl (by omega)
  refine hrd.1.trans (perm_of_mem hok.nd hB.1 fun x => ?_)
  have hn : ∀ x, Reach (tgtL g) r x → x ≠ -1 := fun x hx => by
    have := hb x (reach_in hr hcl hx)
    omega
  rw [hrd.2, hB.2, reachc_of hn]

def vp_reachable : VSp := fun rs Φ => ∃ (ls : List Int) (g : Gr), rs = [.d (.tuple (g.map grD))] ∧ ls.Nodup ∧ GrOk ls g ∧ 1 ≤ g.length ∧ g.length ≤ 1000 ∧ (∀ x ∈ ls, 0 ≤ x) ∧
  ∀ ms : List Int, ms.Perm (bfs g (-1) ([labF ls 0].filter fun x => decide (x ≠ -1)) g.length) → ms.Pairwise (· ≤ ·) → Φ (.own (ms.map .int))
theorem len_reachable : ∀ rs Φ, vp_reachable rs Φ → rs.length = 1 := fun rs Φ ⟨_, _, e, _⟩ => by rw [e]; rfl
theorem G_reachable (T : Txt K mg) : FnOk P w K mg base CX0 3 T.f_reachable T.fd_reachable ["graph"] (toSp K 1 vp_reachable) := by
  refine fn_ok T.F_reachable sc_reachable fun cdv A outer s H E hr => ⟨_, (pss_one (ps_ret (pe_callB (kx_sortedI (K := K) rfl) (by rfl) T.sorted (by decide +kernel) (pa_cons (pe_call (G_reverse_postorder T) hr (by rfl) T.g_reverse_postorder T.F_reverse_postorder.kp T.b_reverse_postorder .nil pass0 (pa_cons (pv 0) pa_nil)) pa_nil)))), _, fun ex He Hf => (sms_retNew (smo_sorted (SmO.sm (smo_call len_reverse_postorder (smq_cons (sm_var 0) smq_nil))))), ?_⟩
  rintro rs Φ ⟨ls, g, rfl, nd, hG, h1, h2, hb, h⟩
  simp
  have hll : ls.length = g.length := by rw [← hG.lbs, List.length_map]
  refine ⟨ls, g, rfl, nd, hG, h1, h2, fun n s hs hp => ?_⟩
  refine ⟨_, rfl, s.left.reverse, rfl, fun ms hm hps => h ms ?_ hps⟩
  exact (hm.trans (List.reverse_perm _)).trans (walk_bfs nd hG hb (List.mem_of_getElem? (lab_at (by omega : 0 < ls.length))) hs hp)


/-! ### graphs are data -/
theorem grD_okd {g : Gr} (hf : ∀ r ∈ g, r.2.length ≤ 10) (hl : g.length ≤ 1000) : Okd 3 (.tuple (g.map grD)) := by
  refine .tuple (fun y hy => ?_) (by rw [List.length_map]; omega)
  obtain ⟨r, hr, rfl⟩ := List.mem_map.mp hy
  refine .tuple (fun z hz => ?_) (by simp)
  rcases List.mem_cons.mp hz with rfl | hz
  · exact .int _
  · rw [List.mem_singleton.mp hz]
    refine .tuple (fun u hu => ?_) (by rw [List.length_map]; have := hf r hr; omega)
    obtain ⟨i, _, rfl⟩ := List.mem_map.mp hu
    exact .int i


/-! ### the law -/
theorem srcs_map {g gs : Gr} {ms : List Int} (hm : gs.map (·.1) = ms) (ht : ∀ r ∈ gs, tgtL g r.1 = r.2) (t : Int) (k : Nat) : ((ms.take k).flatMap fun l => ((tgtL g l).filter fun x => decide (x = t)).map fun _ => l) = srcs (gs.take k) t := by
  subst hm
  unfold srcs
  rw [← List.map_take, List.flatMap_map]
  have : ∀ l : Gr, (∀ r ∈ l, r ∈ gs) → (l.flatMap fun r => ((tgtL g r.1).filter fun x => decide (x = t)).map fun _ => r.1) = l.flatMap fun r => (r.2.filter fun x => decide (x = t)).map fun _ => r.1 := fun l hl => by
    induction l with
    | nil => rfl
    | cons r l ih => rw [List.flatMap_cons, List.flatMap_cons, ih fun q hq => hl q (List.mem_cons_of_mem _ hq), ht r (hl r List.mem_cons_self)]
  exact this _ fun r hr => List.mem_of_mem_take hr
theorem ok_law (T : Txt K mg) : FnOk P w K mg base CX0 13 T.f_law T.fd_law ["script"] (spLaw K) := by
  refine T.F_law.ok sc_law (fun vs H Q E h => ?_) (fun cdv A outer s H vs Q E hr h => ?_)
  · obtain ⟨a, ns, rfl, _⟩ := h
    rfl
  obtain ⟨a, ns, rfl, hS, hlen, k⟩ := h
  refine ⟨_, (pss_cons (ps_set (i := 1) sc_law.nd rfl (Or.inr rfl) (pe_call (G__law_draw T) (hr.mono (by decide)) (by rfl) T.g__law_draw T.F__law_draw.kp T.b__law_draw .nil pass0 (pa_cons (pv 0) pa_nil)))
 (pss_cons (ps_set (i := 2) sc_law.nd rfl (Or.inr rfl) (pe_call (G__law_graph T) (hr.mono (by decide)) (by rfl) T.g__law_graph T.F__law_graph.kp T.b__law_graph .nil pass0 (pa_cons (pv 1) (pa_cons pe_bl pa_nil))))
 (pss_cons (ps_setLc (i := 3) (own := [("k", 11)]) (g := gName 11) (tt := tYes) rfl sc_law.nd rfl rfl (sw_true rfl rfl rfl (by decide +kernel)) (pi_range1 rfl T.range (pa_cons (pe_callB (kx_len (K := K) rfl) (by rfl) T.len PySem.boot_len (pa_cons (pv 2) pa_nil)) pa_nil)) (blkOk_by (N := ["script", "draw", "graph", "blocks", "sources", "row", "edges_v", "label", "due", "targets", "slot", "k", "other", "target"]) (sc := defScope slaw) (by decide +kernel)) (fun _ _ _ _ _ => pg_name (i := 11) sc_law.nd rfl (Or.inl rfl)) (fun _ _ _ _ _ => pts_nil) (fun _ _ _ _ _ => (pe_tup (pa_cons (pe_ix (kx_seq (K := K) rfl) (pe_ix (kx_seq (K := K) rfl) (pv 2) (pv 11) (fun _ _ => rfl)) pe_int (fun _ _ => rfl)) (pa_cons (pe_tup pa_nil) (pa_cons (pe_tup pa_nil) (pa_cons (pe_call (G__law_end T) (hr.mono (by decide)) (by rfl) T.g__law_end T.F__law_end.kp T.b__law_end .nil pass0 (pa_cons (pv 1) (pa_cons (pe_ix (kx_seq (K := K) rfl) (pe_ix (kx_seq (K := K) rfl) (pv 2) (pv 11) (fun _ _ => rfl)) pe_int (fun _ _ => rfl)) (pa_cons (pv 11) pa_nil)))) pa_nil)))))))
 (pss_cons (ps_if (pt_not (pt_val (pe_call (G__law_same T) hr (by rfl) T.g__law_same T.F__law_same.kp T.b__law_same .nil pass0 (pa_cons (pe_call (G_graph_of T) (hr.mono (by decide)) (by rfl) T.g_graph_of T.F_graph_of.kp T.b_graph_of .nil pass0 (pa_cons (pe_tup (pa_cons pe_str (pa_cons pe_str (pa_cons pe_bl (pa_cons (pe_callTy (kx_tuple (K := K) rfl) (by rfl) T.tuple (by decide +kernel) (pa_cons (pv 3) pa_nil)) pa_nil))))) pa_nil)) (pa_cons (pv 2) pa_nil))))) (pss_one (ps_ret pe_bl)) pss_nil)
 (pss_cons (ps_set (i := 4) sc_law.nd rfl (Or.inl rfl) (pe_call (G_backwards T) (hr.mono (by decide)) (by rfl) T.g_backwards T.F_backwards.kp T.b_backwards .nil pass0 (pa_cons (pv 2) pa_nil)))
 (pss_cons (ps_if (PW.pt (pw_or (pt_not (pt_val (pe_callB (kx_isi (K := K) rfl) (by rfl) T.isinstance (by decide +kernel) (pa_cons (pv 4) (pa_cons (pe_bltn (v := .ty "dict") (by rfl) T.dict (by decide +kernel) rfl) pa_nil))))) (pw_or1 (pt_cmpR (kx_neD (K := K) rfl hr.units) (pe_callB (vcall_sortedDI rfl) (by rfl) T.sorted (by decide +kernel) (pa_cons (pv 4) pa_nil)) (pe_callB (kx_sortedI (K := K) rfl) (by rfl) T.sorted (by decide +kernel) (pa_cons (pe_lc (own := [("row", 5)]) (g := gName 5) (tt := tYes) rfl sc_law.nd ((kpi_tup (K := K) rfl (pv 2))) (blkOk_by (N := ["script", "draw", "graph", "blocks", "sources", "row", "edges_v", "label", "due", "targets", "slot", "k", "other", "target"]) (sc := defScope slaw) (by decide +kernel)) (fun _ _ _ _ _ => pg_name (i := 5) sc_law.nd rfl (Or.inl rfl)) (fun _ _ _ _ _ => pts_nil) (fun _ _ _ _ _ => (pe_ix (kx_seq (K := K) rfl) (pv 5) pe_int (fun _ _ => rfl)))) pa_nil)) (nomark _))))) (pss_one (ps_ret pe_bl)) pss_nil)
 (pss_cons (ps_for PassesOwn.never rfl ((kpi_tup (K := K) rfl (pv 2))) (pg_name (i := 5) sc_law.nd rfl (Or.inr rfl)) (pss_cons (ps_set (i := 8) sc_law.nd rfl (Or.inl rfl) (pe_lst pa_nil))
 (pss_cons (ps_for PassesOwn.never rfl ((kpi_list (K := K) rfl (pe_callB (kx_sortedI (K := K) rfl) (by rfl) T.sorted (by decide +kernel) (pa_cons (pe_lc (own := [("other", 12)]) (g := gName 12) (tt := tYes) rfl sc_law.nd ((kpi_tup (K := K) rfl (pv 2))) (blkOk_by (N := ["script", "draw", "graph", "blocks", "sources", "row", "edges_v", "label", "due", "targets", "slot", "k", "other", "target"]) (sc := defScope slaw) (by decide +kernel)) (fun _ _ _ _ _ => pg_name (i := 12) sc_law.nd rfl (Or.inl rfl)) (fun _ _ _ _ _ => pts_nil) (fun _ _ _ _ _ => (pe_ix (kx_seq (K := K) rfl) (pv 12) pe_int (fun _ _ => rfl)))) pa_nil)))) (pg_name (i := 7) sc_law.nd rfl (Or.inr rfl)) (pss_one (ps_set (i := 8) sc_law.nd rfl (Or.inl rfl) (pe_op op_cat (pv 8) (pe_lc (own := [("target", 13)]) (g := gName 13) rfl sc_law.nd ((kpi_tup (K := K) rfl (pe_call (G__law_targets T) (hr.mono (by decide)) (by rfl) T.g__law_targets T.F__law_targets.kp T.b__law_targets .nil pass0 (pa_cons (pv 2) (pa_cons (pv 7) pa_nil))))) (blkOk_by (N := ["script", "draw", "graph", "blocks", "sources", "row", "edges_v", "label", "due", "targets", "slot", "k", "other", "target"]) (sc := defScope slaw) (by decide +kernel)) (fun _ _ _ _ _ => pg_name (i := 13) sc_law.nd rfl (Or.inl rfl)) (fun _ _ _ _ _ => pts_one (pt_cmpR op_eq (pv 13) (pe_ix (kx_seq (K := K) rfl) (pv 5) pe_int (fun _ _ => rfl)) (nomark _))) (fun _ _ _ _ _ => (pv 7)))))))
 (pss_one (ps_if (pt_cmpR (kx_neD (K := K) rfl hr.units) (pe_dget (hu_of hr) (pv 4) (pe_ix (kx_seq (K := K) rfl) (pv 5) pe_int (fun _ _ => rfl)) (fun _ _ => rfl)) (pv 8) (nomark _)) (pss_one (ps_ret pe_bl)) pss_nil)))))
 (pss_cons (ps_set (i := 6) sc_law.nd rfl (Or.inl rfl) (pe_lst pa_nil))
 (pss_cons (ps_for PassesOwn.never rfl ((kpi_list (K := K) rfl (pe_callB (kx_sortedI (K := K) rfl) (by rfl) T.sorted (by decide +kernel) (pa_cons (pe_lc (own := [("row", 5)]) (g := gName 5) (tt := tYes) rfl sc_law.nd ((kpi_tup (K := K) rfl (pv 2))) (blkOk_by (N := ["script", "draw", "graph", "blocks", "sources", "row", "edges_v", "label", "due", "targets", "slot", "k", "other", "target"]) (sc := defScope slaw) (by decide +kernel)) (fun _ _ _ _ _ => pg_name (i := 5) sc_law.nd rfl (Or.inl rfl)) (fun _ _ _ _ _ => pts_nil) (fun _ _ _ _ _ => (pe_ix (kx_seq (K := K) rfl) (pv 5) pe_int (fun _ _ => rfl)))) pa_nil)))) (pg_name (i := 7) sc_law.nd rfl (Or.inr rfl)) (pss_cons (ps_set (i := 9) sc_law.nd rfl (Or.inl rfl) (pe_call (G__law_targets T) (hr.mono (by decide)) (by rfl) T.g__law_targets T.F__law_targets.kp T.b__law_targets .nil pass0 (pa_cons (pv 2) (pa_cons (pv 7) pa_nil))))
 (pss_one (ps_for PassesOwn.never rfl (pi_range1 rfl T.range (pa_cons (pe_callB (kx_len (K := K) rfl) (by rfl) T.len PySem.boot_len (pa_cons (pv 9) pa_nil)) pa_nil)) (pg_name (i := 10) sc_law.nd rfl (Or.inl rfl)) (pss_one (ps_if (PW.pt (pw_and (pt_cmpR op_gt (pe_callB (kx_len (K := K) rfl) (by rfl) T.len PySem.boot_len (pa_cons (pv 9) pa_nil)) pe_int (nomark _)) (pw_and1 (pt_cmpR op_gt (pe_callB (kx_len (K := K) rfl) (by rfl) T.len PySem.boot_len (pa_cons (pe_dget (hu_of hr) (pv 4) (pe_ix (kx_seq (K := K) rfl) (pv 9) (pv 10) (fun _ _ => rfl)) (fun _ _ => rfl)) pa_nil)) pe_int (nomark _))))) (pss_one (ps_expr (pe_bm PySem.F.plainAttrs_list PySem.F.slot_list_append PySem.F.type_list_append mt_append (pv 6) (pa_cons (pe_tup (pa_cons (pv 7) (pa_cons (pv 10) pa_nil))) pa_nil)))) pss_nil))))))
 (pss_cons (ps_if (pt_cmpR (kx_neD (K := K) rfl hr.units) (pe_call (G_critical_edges T) (hr.mono (by decide)) (by rfl) T.g_critical_edges T.F_critical_edges.kp T.b_critical_edges .nil pass0 (pa_cons (pv 2) pa_nil)) (pv 6) (nomark _)) (pss_one (ps_ret pe_bl)) pss_nil)
 (pss_one (ps_ret (pe_cmpR (kx_eqD (K := K) rfl hr.units) (pe_call (G_reachable T) (hr.mono (by decide)) (by rfl) T.g_reachable T.F_reachable.kp T.b_reachable .nil pass0 (pa_cons (pv 2) pa_nil)) (pe_call (G__law_reached T) (hr.mono (by decide)) (by rfl) T.g__law_reached T.F__law_reached.kp T.b__law_reached .nil pass0 (pa_cons (pv 2) (pa_cons (pe_lst (pa_cons (pe_ix (kx_seq (K := K) rfl) (pe_ix (kx_seq (K := K) rfl) (pv 2) pe_int (fun _ _ => rfl)) pe_int (fun _ _ => rfl)) pa_nil)) (pa_cons (pe_un un_neg pe_int) pa_nil)))) (nomark _)))))))))))))), ?_⟩
  refine law_in (n := 12) hS hlen k (fun ex He Hf => (sms_seq (sms_asg (sm_call len__law_graph (smq_drw 1 (smq_cons (sm_bl _) smq_nil))) (smg_name 2))
 (sms_seq (sms_asg (SmO.sm (smo_lc (i := 11) (smi_rng1 (f1 := false) (sm_cb (f1 := false) cbd_len (sma_cons (sm_var 2) sma_nil))) smt_yes (sm_tup (sma_cons (sm_ix (f2 := false) (sm_ix (f2 := false) (sm_var 2) (sm_var 11)) (sm_int _)) (sma_cons (sm_tup sma_nil) (sma_cons (sm_tup sma_nil) (sma_cons (sm_call len__law_end (smq_drw 1 (smq_cons (sm_ix (f2 := false) (sm_ix (f2 := false) (sm_var 2) (sm_var 11)) (sm_int _)) (smq_cons (sm_var 11) smq_nil)))) sma_nil))))))) (smg_name 3))
 (sms_seq (sms_if (smt_not (smt_b (f1 := false) (sm_call len__law_same (smq_cons (sm_call len_graph_of (smq_cons (sm_tup (sma_cons (sm_str _) (sma_cons (sm_str _) (sma_cons (sm_bl _) (sma_cons (sm_tuple (sm_var 3)) sma_nil))))) smq_nil)) (smq_cons (sm_var 2) smq_nil)))))
 (sms_ret (sm_bl _))
 sms_next)
 (sms_seq (sms_asg (sm_call len_backwards (smq_cons (sm_var 2) smq_nil)) (smg_name 4))
 (sms_seq (sms_if (smt_or (smt_not (smt_b (f1 := false) (sm_isi (f1 := false) "dict" (sm_var 4)))) (smt_t (f1 := false) (sm_op (f1 := false) (f2 := false) opd_neD (SmO.sm (smo_sortedD (f := false) (sm_var 4))) (SmO.sm (smo_sorted (SmO.sm (smo_lc (i := 5) (smi_tup (sm_var 2)) smt_yes (sm_ix (f2 := false) (sm_var 5) (sm_int _)))))))))
 (sms_ret (sm_bl _))
 sms_next)
 (sms_seq (sms_for (smi_tup (sm_var 2)) (smg_name 5)
 (sms_seq (sms_asg (SmO.sm (smo_lst sma_nil)) (smg_name 8))
 (sms_seq (sms_for (smi_list (SmO.sm (smo_sorted (SmO.sm (smo_lc (i := 12) (smi_tup (sm_var 2)) smt_yes (sm_ix (f2 := false) (sm_var 12) (sm_int _))))))) (smg_name 7)
 (sms_asg (SmO.sm (smo_cat (sm_var 8) (SmO.sm (smo_lc (i := 13) (smi_tup (sm_call len__law_targets (smq_cons (sm_var 2) (smq_cons (sm_var 7) smq_nil)))) (smt_t (f1 := false) (sm_op (f1 := false) (f2 := false) opd_eq (sm_var 13) (sm_ix (f2 := false) (sm_var 5) (sm_int _)))) (sm_var 7))))) (smg_name 8)))
 (sms_if (smt_t (f1 := false) (sm_op (f1 := false) (f2 := false) opd_neD (sm_getF (f2 := false) (sm_var 4) (sm_ix (f2 := false) (sm_var 5) (sm_int _))) (sm_var 8)))
 (sms_ret (sm_bl _))
 sms_next))))
 (sms_seq (sms_setO 6 (smo_lst sma_nil))
 (sms_seq (sms_for (smi_list (SmO.sm (smo_sorted (SmO.sm (smo_lc (i := 5) (smi_tup (sm_var 2)) smt_yes (sm_ix (f2 := false) (sm_var 5) (sm_int _))))))) (smg_name 7)
 (sms_seq (sms_asg (sm_call len__law_targets (smq_cons (sm_var 2) (smq_cons (sm_var 7) smq_nil))) (smg_name 9))
 (sms_for (smi_rng1 (f1 := false) (sm_cb (f1 := false) cbd_len (sma_cons (sm_var 9) sma_nil))) (smg_name 10)
 (sms_if (smt_and (smt_t (f1 := false) (sm_op (f1 := false) (f2 := false) (opd_I0 (g' := fun i j => .bool (decide (j < i))) fun _ _ => rfl) (sm_cb (f1 := false) cbd_len (sma_cons (sm_var 9) sma_nil)) (sm_int _))) (smt_t (f1 := false) (sm_op (f1 := false) (f2 := false) (opd_I0 (g' := fun i j => .bool (decide (j < i))) fun _ _ => rfl) (sm_cb (f1 := false) cbd_len (sma_cons (sm_getF (f2 := false) (sm_var 4) (sm_ix (f2 := false) (sm_var 9) (sm_var 10))) sma_nil)) (sm_int _))))
 (sms_app 6 (sm_tup (sma_cons (sm_var 7) (sma_cons (sm_var 10) sma_nil))))
 sms_next))))
 (sms_seq (sms_if (smt_t (f1 := false) (sm_op (f1 := false) (f2 := false) opd_neD (SmO.sm (smo_call len_critical_edges (smq_cons (sm_var 2) smq_nil))) (sm_varO 6)))
 (sms_ret (sm_bl _))
 sms_next)
 (sms_ret (sm_op (f1 := false) (f2 := false) opd_eqD (SmO.sm (smo_call len_reachable (smq_cons (sm_var 2) smq_nil))) (SmO.sm (smo_call len__law_reached (smq_cons (sm_var 2) (smq_cons (SmO.sm (smo_lst (sma_cons (sm_ix (f2 := false) (sm_ix (f2 := false) (sm_var 2) (sm_int _)) (sm_int _)) sma_nil))) (smq_cons (sm_un (f1 := false) (g' := fun i => .int (-i)) (fun _ => rfl) (sm_int _)) smq_nil))))))))))))))))) fun raw => ?_
  refine seq_op fun N hN => ?_
  simp
  refine ⟨false, rfl, fun n ls g n1 n2 hL hG _ => hN _ ?_⟩
  clear hN N
  have hgl : g.length = n := by rw [← hL.len, ← hG.lbs, List.length_map]
  have nd := hL.nd
  have h1 : 1 ≤ g.length := by omega
  have h2 : g.length ≤ 40 := by omega
  have hbd := hL.bd
  clear hL hgl n1 n2 n
  have hll : ls.length = g.length := by rw [← hG.lbs, List.length_map]
  obtain ⟨GD, hGD⟩ : ∃ x : PyData, x = .tuple (g.map grD) := ⟨_, rfl⟩
  rw [← hGD]
  -- blocks
  have hga : ∀ {k : Nat} {r : Int × List Int}, g[k]? = some r → atI (g.map grD) (k : Int) = some (.tuple [.int r.1, .tuple (r.2.map .int)]) := fun {k r} e => atI_nat (by rw [List.getElem?_map, e]; rfl)
  refine seq_op fun N hN => ?_
  simp
  refine oLc_n (n := g.length) (by omega) (fun Ψ hΨ => by simpa [hGD] using hΨ) (fun acc => ∃ bs : List Blk, acc = bs.map Blk.D ∧ bs.map blkR = g.take bs.length) ⟨[], rfl, rfl⟩ (fun j acc Ψ hj hlen hP hz => ?_) (fun acc hlen hP => ?_)
  · obtain ⟨bs, rfl, hbs⟩ := hP
    rw [List.length_map] at hlen
    have hr : g[j]? = some g[j] := List.getElem?_eq_getElem hj
    generalize g[j] = r at hr
    have ha := hga hr
    have hfew := hG.few r (List.mem_of_getElem? hr)
    simp [hGD, ha]
    refine ⟨r.2, j, rfl, hfew, by omega, fun e he => ?_⟩
    simp [le_size, lt_size, cmul_l, cpow_l, cdiv_l]
    refine hz _ ⟨bs ++ [⟨r.1, [], [], e⟩], by rw [List.map_append]; rfl, ?_⟩
    rw [List.map_append, hbs, List.length_append, List.length_singleton, List.take_add_one, hlen, hr]
    show _ ++ [(r.1, e.es.map (·.lb))] = _
    rw [he]
    rfl
  obtain ⟨bs, rfl, hbs⟩ := hP
  rw [List.length_map] at hlen
  rw [hlen, List.take_length] at hbs
  refine hN _ ?_
  clear hN N
  obtain ⟨BD, hBD⟩ : ∃ x : PyData, x = .list (bs.map Blk.D) := ⟨_, rfl⟩
  rw [← hBD]
  -- graph_of
  refine seq_op fun N hN => ?_
  simp [hBD, le_size, lt_size, cmul_l, cpow_l, cdiv_l]
  refine ⟨⟨"main", "i32", false, bs⟩, rfl, by show bs.length ≤ 1000; omega, fun b hb => ?_, ?_⟩
  · have hm : blkR b ∈ g := by rw [← hbs]; exact List.mem_map.mpr ⟨b, hb, rfl⟩
    have := hG.few _ hm
    have e : (blkR b).2.length = b.en.es.length := by simp [blkR]
    omega
  have e1 : bs.map (fun b => grD (blkR b)) = g.map grD := by rw [← hbs, List.map_map]; rfl
  rw [e1]
  simp only [data_d]
  refine ⟨.tuple (g.map grD), by rw [hGD], ⟨3, by omega, grD_okd hG.few (by omega)⟩, ?_⟩
  simp
  refine hN _ ?_
  clear hN N
  rw [← hBD]
  -- backwards
  refine seq_op fun N hN => ?_
  simp
  refine ⟨ls, g, by rw [hGD], nd, hG, by omega, fun gs hgs hps => hN _ ?_⟩
  clear hN N
  simp only [data_d]
  obtain ⟨SD, hSD⟩ : ∃ x : PyData, x = .dict (entD (srcE ls (srcs gs))) := ⟨_, rfl⟩
  rw [← hSD]
  have hgl : gs.length = g.length := hgs.length_eq
  have hfw : ∀ r ∈ gs, r.2.length ≤ 10 := fun r hr => hG.few r (hgs.mem_iff.mp hr)
  have hgt : ∀ r ∈ gs, tgtL g r.1 = r.2 := fun r hr => by
    obtain ⟨i, hi⟩ := List.getElem?_of_mem (hgs.mem_iff.mp hr)
    exact tgt_at nd hG hi
  have hgp : (gs.map (·.1)).Perm ls := by rw [← hG.lbs]; exact hgs.map _
  have hgsrt : (gs.map (·.1)).Pairwise (· ≤ ·) := List.pairwise_map.mpr hps
  have hlab : ∀ ms : List Int, ms.Perm ls → ms.Pairwise (· ≤ ·) → ms = gs.map (·.1) := fun ms h1 h2 => sorted_eq (h1.trans hgp.symm) h2 hgsrt
  have e1 : g.map (fun r => PyData.int r.1) = ls.map .int := by rw [← hG.lbs, List.map_map]; rfl
  refine seq_op fun N hN => ?_
  refine dIfS_two (fun b => b = false) (fun Ψ hΨ => ?_) (fun hb => nomatch hb) (fun _ => ?_)
  · simp [hSD, tyD, kitB]
    refine ⟨_, rfl, ls, by unfold srcE; rw [List.map_map]; rfl, by omega, fun ms hm hps1 => ?_⟩
    refine oLc_of g grD (fun r => .int r.1) (by omega) (fun Ψ hΨ => by simpa [hGD] using hΨ) (fun j r Ψ hr hΨ => by simpa [grD] using hΨ) ?_
    rw [e1]
    exact ⟨ls, rfl, fun ms2 hm2 hps2 => .inl ⟨(hlab ms hm hps1).trans (hlab ms2 hm2 hps2).symm, hΨ _ rfl⟩⟩
  simp
  refine hN _ ?_
  clear hN N
  -- the sources of each
  refine seq_by (fun δ => ∃ y5 y7 y8 y12 y13 : Option R, δ = [some (.raw raw), some .drw, some (.d GD), some (.d BD), some (.d SD), y5, none, y7, y8, none, none, none, y12, y13]) (fun δ hI => ?_) (fun N hN => ?_)
  rotate_left
  · obtain ⟨I, hI⟩ : ∃ I : Nat → Dl → Prop, ∀ k δ, I k δ ↔ ∃ y5 y7 y8 y12 y13 : Option R, δ = [some (.raw raw), some .drw, some (.d GD), some (.d BD), some (.d SD), y5, none, y7, y8, none, none, none, y12, y13] := ⟨_, fun _ _ => Iff.rfl⟩
    refine dFor_w (xs := g.map grD) (fun Ψ hΨ => by simpa [hGD] using hΨ) I ((hI _ _).mpr ⟨none, none, none, none, none, rfl⟩) (fun k y δ hy hJ => ?_) (fun δ hJ => ?_)
    rotate_left
    · obtain ⟨y5, y7, y8, y12, y13, rfl⟩ := (hI _ _).mp hJ
      exact hN _ ⟨_, _, _, _, _, rfl⟩
    obtain ⟨y5, y7, y8, y12, y13, rfl⟩ := (hI _ _).mp hJ
    rw [List.getElem?_map] at hy
    obtain ⟨r, hr, rfl⟩ := Option.map_eq_some_iff.mp hy
    have hrl : r.1 ∈ ls := by rw [← hG.lbs]; exact List.mem_map.mpr ⟨r, List.mem_of_getElem? hr, rfl⟩
    obtain ⟨RD, hRD⟩ : ∃ x : PyData, x = grD r := ⟨_, rfl⟩
    rw [← hRD]
    have hr0 : RD = .tuple [.int r.1, .tuple (r.2.map .int)] := hRD
    refine seq_op fun N2 hN2 => ?_
    simp
    refine hN2 _ ?_
    clear hN2 N2
    refine seq_by (fun δ => ∃ y7 y12 y13 : Option R, δ = [some (.raw raw), some .drw, some (.d GD), some (.d BD), some (.d SD), some (.d RD), none, y7, some (.d (.list ((srcs gs r.1).map .int))), none, none, none, y12, y13]) (fun δ hK => ?_) (fun N2 hN2 => ?_)
    · obtain ⟨y7, y12, y13, rfl⟩ := hK
      refine dIfS_two (fun b => b = false) (fun Ψ hΨ => ?_) (fun hb => nomatch hb) (fun _ => ?_)
      · have hsg := src_get (W := srcs gs) hrl
        have hsf := srcs_few (gs := gs) hfw r.1
        have hok := okd_ints (xs := srcs gs r.1) (by omega)
        simp [hSD, hr0]
        exact ⟨_, rfl, .inl r.1, rfl, _, hsg, hok.shaped (by decide), .inl ⟨okd_eqv hok, hΨ _ rfl⟩⟩
      · simp
        exact (hI _ _).mpr ⟨_, _, _, _, _, rfl⟩
    refine dFor_via (Pre := fun xs => xs = (gs.map (·.1)).map .int) (fun Ψ hΨ => ?_) fun xs hxs => ?_
    · simp
      refine oLc_of g grD (fun r => .int r.1) (by omega) (fun Ψ hΨ => by simpa [hGD] using hΨ) (fun j r Ψ hr hΨ => by simpa [grD] using hΨ) ?_
      rw [e1]
      exact ⟨ls, rfl, fun ms2 hm2 hps2 => hΨ _ (by rw [hlab ms2 hm2 hps2])⟩
    subst hxs
    obtain ⟨J, hJ2⟩ : ∃ J : Nat → Dl → Prop, ∀ j δ, J j δ ↔ ∃ y7 y12 y13 : Option R, δ = [some (.raw raw), some .drw, some (.d GD), some (.d BD), some (.d SD), some (.d RD), none, y7, some (.d (.list ((srcs (gs.take j) r.1).map .int))), none, none, none, y12, y13] := ⟨_, fun _ _ => Iff.rfl⟩
    refine dFor_w (xs := (gs.map (·.1)).map .int) (fun Ψ hΨ => hΨ) J ((hJ2 _ _).mpr ⟨_, _, _, rfl⟩) (fun j y δ hy hJ3 => ?_) (fun δ hJ3 => ?_)
    rotate_left
    · obtain ⟨y7, y12, y13, rfl⟩ := (hJ2 _ _).mp hJ3
      rw [List.length_map, List.length_map, List.take_length]
      exact hN2 _ ⟨_, _, _, rfl⟩
    obtain ⟨y7, y12, y13, rfl⟩ := (hJ2 _ _).mp hJ3
    rw [List.getElem?_map, List.getElem?_map] at hy
    obtain ⟨l, hl, rfl⟩ := Option.map_eq_some_iff.mp hy
    obtain ⟨q, hq, rfl⟩ := Option.map_eq_some_iff.mp hl
    have hqm := List.mem_of_getElem? hq
    have hqt := hgt q hqm
    have hqf := hfw q hqm
    have hjl : j < gs.length := (List.getElem?_eq_some_iff.mp hq).1
    have hsf := srcs_few (gs := gs.take j) (fun q hq => hfw q (List.mem_of_mem_take hq)) r.1
    rw [List.length_take] at hsf
    simp
    refine oLc_filter q.2 PyData.int (fun _ => .int q.1) (fun x => decide (x = r.1)) (by omega) (fun Ψ hΨ => ?_) (fun j a Ψ ha hΨ => ?_) (fun j a Ψ ha _ hΨ => by simpa using hΨ) ?_
    · simp
      exact ⟨g, q.1, by rw [hGD], by omega, _, by rw [hqt]; rfl, hΨ⟩
    · simp [hr0]
      by_cases c : a = r.1 <;> simp [c] at hΨ ⊢ <;> exact hΨ
    · have hfl := List.length_filter_le (fun x => decide (x = r.1)) q.2
      refine ⟨fz3 (by rw [List.length_map]; omega), (hJ2 _ _).mpr ⟨some (.d (.int q.1)), y12, y13, ?_⟩⟩
      rw [srcs_take _ _ hq, List.map_append, List.map_map]
      rfl
  obtain ⟨y5, y7, y8, y12, y13, rfl⟩ := hI
  refine seq_op fun N hN => ?_
  simp
  intro o
  refine hN _ ?_
  clear hN N
  -- critical edges
  obtain ⟨c, hc⟩ : ∃ c : Int → Nat, c = fun t => (srcs g t).length := ⟨_, rfl⟩
  have hcs : ∀ t, (srcs gs t).length = c t := fun t => by
    rw [hc]
    unfold srcs
    exact (List.Perm.flatMap_right _ hgs).length_eq
  refine seq_by (fun δ => ∃ y5 y7 y9 y10 y12 : Option R, δ = [some (.raw raw), some .drw, some (.d GD), some (.d BD), some (.d SD), y5, some (.own o ((crit c gs).map edD)), y7, y8, y9, y10, none, y12, y13]) (fun δ hI => ?_) (fun N hN => ?_)
  rotate_left
  · refine dFor_via (Pre := fun xs => xs = (gs.map (·.1)).map .int) (fun Ψ hΨ => ?_) fun xs hxs => ?_
    · simp
      refine oLc_of g grD (fun r => .int r.1) (by omega) (fun Ψ hΨ => by simpa [hGD] using hΨ) (fun j r Ψ hr hΨ => by simpa [grD] using hΨ) ?_
      rw [e1]
      exact ⟨ls, rfl, fun ms2 hm2 hps2 => hΨ _ (by rw [hlab ms2 hm2 hps2])⟩
    subst hxs
    obtain ⟨I, hI⟩ : ∃ I : Nat → Dl → Prop, ∀ k δ, I k δ ↔ ∃ y7 y9 y10 : Option R, δ = [some (.raw raw), some .drw, some (.d GD), some (.d BD), some (.d SD), y5, some (.own o ((crit c (gs.take k)).map edD)), y7, y8, y9, y10, none, y12, y13] := ⟨_, fun _ _ => Iff.rfl⟩
    refine dFor_w (xs := (gs.map (·.1)).map .int) (fun Ψ hΨ => hΨ) I ((hI _ _).mpr ⟨_, _, _, rfl⟩) (fun k y δ hy hJ => ?_) (fun δ hJ => ?_)
    rotate_left
    · obtain ⟨y7, y9, y10, rfl⟩ := (hI _ _).mp hJ
      rw [List.length_map, List.length_map, List.take_length]
      exact hN _ ⟨_, _, _, _, _, rfl⟩
    obtain ⟨y7, y9, y10, rfl⟩ := (hI _ _).mp hJ
    rw [List.getElem?_map, List.getElem?_map] at hy
    obtain ⟨l, hl, rfl⟩ := Option.map_eq_some_iff.mp hy
    obtain ⟨q, hq, rfl⟩ := Option.map_eq_some_iff.mp hl
    have hqm := List.mem_of_getElem? hq
    have hqt := hgt q hqm
    have hqf := hfw q hqm
    have hkl : k < gs.length := (List.getElem?_eq_some_iff.mp hq).1
    have hcf := crit_few (c := c) (gs := gs.take k) fun q hq => hfw q (List.mem_of_mem_take hq)
    rw [List.length_take] at hcf
    refine seq_op fun N2 hN2 => ?_
    simp
    refine ⟨g, q.1, by rw [hGD], by omega, hN2 _ ?_⟩
    clear hN2 N2
    rw [hqt]
    obtain ⟨QD, hQD⟩ : ∃ x : PyData, x = .tuple (q.2.map .int) := ⟨_, rfl⟩
    simp only [data_d]
    rw [← hQD]
    obtain ⟨cz, hcz⟩ : ∃ cz : Nat → List (Int × Nat), ∀ j, cz j = if 1 < q.2.length then ((List.range j).filter fun s => decide (1 < c (q.2.getD s 0))).map fun s => (q.1, s) else [] := ⟨_, fun _ => rfl⟩
    have czl : ∀ j, (cz j).length ≤ j := fun j => by
      rw [hcz]
      split
      · rw [List.length_map]
        exact Nat.le_trans (List.length_filter_le _ _) (by simp)
      · exact Nat.zero_le _
    obtain ⟨J, hJ2⟩ : ∃ J : Nat → Dl → Prop, ∀ j δ, J j δ ↔ ∃ y10 : Option R, δ = [some (.raw raw), some .drw, some (.d GD), some (.d BD), some (.d SD), y5, some (.own o ((crit c (gs.take k)).map edD ++ (cz j).map edD)), some (.d (.int q.1)), y8, some (.d QD), y10, none, y12, y13] := ⟨_, fun _ _ => Iff.rfl⟩
    refine dFor_n (n := q.2.length) (by omega) (fun Ψ hΨ => by simpa [hQD] using hΨ) J ((hJ2 _ _).mpr ⟨y10, by rw [hcz]; simp⟩) (fun j δ hj hJ3 => ?_) (fun δ hJ3 => ?_)
    rotate_left
    · obtain ⟨y10, rfl⟩ := (hJ2 _ _).mp hJ3
      refine (hI _ _).mpr ⟨some (.d (.int q.1)), some (.d QD), y10, ?_⟩
      rw [crit_take c gs hq, List.map_append, hcz]
      rfl
    obtain ⟨y10, rfl⟩ := (hJ2 _ _).mp hJ3
    have hx : q.2[j]? = some (q.2.getD j 0) := by rw [List.getD_eq_getElem?_getD, List.getElem?_eq_getElem hj]; rfl
    have hxl : q.2.getD j 0 ∈ ls := hG.tgt q (hgs.mem_iff.mp hqm) _ (List.mem_of_getElem? hx)
    have hsg := src_get (W := srcs gs) hxl
    have hnx : cz (j + 1) = if 1 < q.2.length ∧ 1 < c (q.2.getD j 0) then cz j ++ [(q.1, j)] else cz j := by
      rw [hcz, hcz]
      by_cases q1 : 1 < q.2.length
      · rw [if_pos q1, if_pos q1, List.range_succ, List.filter_append, List.map_append]
        by_cases q2 : 1 < c (q.2.getD j 0)
        · rw [if_pos ⟨q1, q2⟩]; simp [q2, -List.getD_eq_getElem?_getD]
        · rw [if_neg fun z => q2 z.2]; simp [q2, -List.getD_eq_getElem?_getD]
      · rw [if_neg q1, if_neg q1, if_neg fun z => q1 z.1]
    generalize q.2.getD j 0 = t at hx hxl hsg hnx
    have hcl := czl j
    refine dIfS_two (fun b => b = decide (1 < q.2.length ∧ 1 < c t)) (fun Ψ hΨ => ?_) (fun hb => ?_) (fun hb => ?_)
    · have hxa := int_at hx
      simp [hQD, hSD]
      by_cases q1 : 1 < q.2.length
      · have q1' : (1 : Int) < (q.2.length : Int) := by omega
        rw [if_pos q1']
        refine ⟨_, hxa, _, rfl, .inl t, rfl, _, hsg, ?_⟩
        have e : decide ((1 : Int) < (((srcs gs t).map PyData.int).length : Int)) = decide (1 < q.2.length ∧ 1 < c t) := decide_eq_decide.mpr (by
          rw [List.length_map]
          have := hcs t
          omega)
        show Ψ (decide ((1 : Int) < (((srcs gs t).map PyData.int).length : Int)))
        rw [e]
        exact hΨ _ rfl
      · have q1' : ¬ (1 : Int) < (q.2.length : Int) := by omega
        rw [if_neg q1']
        exact hΨ _ (by simp [q1])
    · have hb := of_decide_eq_true hb.symm
      rw [if_pos hb] at hnx
      simp
      refine ⟨fz3 (by decide), ?_, (hJ2 _ _).mpr ⟨some (.d (.int (j : Int))), ?_⟩⟩
      · exact fz4 (by omega)
      · rw [hnx]
        simp [edD]
    · have hb := of_decide_eq_false hb.symm
      rw [if_neg hb] at hnx
      simp
      refine (hJ2 _ _).mpr ⟨some (.d (.int (j : Int))), ?_⟩
      rw [hnx]
  obtain ⟨y5, y7, y9, y10, y12, rfl⟩ := hI
  have hcr := crit_few (c := c) (gs := gs) hfw
  have hshp : Okd 2 (.list ((crit c gs).map edD)) := .list (fun y hy => by
    obtain ⟨p, _, rfl⟩ := List.mem_map.mp hy
    refine .tuple (fun z hz => ?_) (by simp)
    rcases List.mem_cons.mp hz with rfl | hz
    · exact .int _
    · rw [List.mem_singleton.mp hz]; exact .int _) (by rw [List.length_map]; omega)
  have hsp := hshp.shaped (by decide)
  refine seq_op fun N hN => ?_
  refine dIfS_two (fun b => b = false) (fun Ψ hΨ => ?_) (fun hb => nomatch hb) (fun _ => ?_)
  · simp
    refine ⟨ls, g, by rw [hGD], nd, hG, by omega, fun gs2 h3 h4 => ?_⟩
    have hg2 : gs2 = gs := (h3.trans hgs.symm).eq_of_pairwise (fun x y hx hy a1 a2 => by
      have a1 : x.1 ≤ y.1 := a1
      have a2 : y.1 ≤ x.1 := a2
      have e : x.1 = y.1 := by omega
      have t1 := hgt x (hgs.mem_iff.mpr (h3.mem_iff.mp hx))
      have t2 := hgt y hy
      rw [e] at t1
      exact Prod.ext e (t1.symm.trans t2)) h4 hps
    subst hg2
    rw [← hc]
    exact ⟨_, rfl, hsp, hsp, .inl ⟨okd_eqv hshp, hΨ _ rfl⟩⟩
  simp
  refine hN _ ?_
  clear hN N
  -- reachable
  obtain ⟨r0, hr0⟩ : ∃ r, g[0]? = some r := ⟨g[0], List.getElem?_eq_getElem h1⟩
  have el0 : labF ls 0 = r0.1 := by unfold labF; rw [List.getD_eq_getElem?_getD, ← hG.lbs, List.getElem?_map, hr0]; rfl
  have ea0 : atI (g.map grD) 0 = some (grD r0) := (atI_nat (by rw [List.getElem?_map, hr0]; rfl) : atI (g.map grD) ((0 : Nat) : Int) = some (grD r0))
  simp
  refine ⟨ls, g, by rw [hGD], nd, hG, h1, by omega, fun x hx => (hbd x hx).1, fun ms hm hsrt => ?_⟩
  refine ⟨_, rfl, ?_⟩
  simp [hGD, ea0, grD, le_size, lt_size, cmul_l, cpow_l, cdiv_l]
  rw [← el0]
  refine ⟨g, [labF ls 0], -1, rfl, by omega, by simp, fun x => Nat.le_trans (tgt_few nd hG x) (by decide), fun ms2 hm2 hsrt2 => ?_⟩
  have e2 : ms = ms2 := sorted_eq (hm.trans hm2.symm) hsrt hsrt2
  subst e2
  refine ⟨_, rfl, ?_⟩
  have hlm : ms.length ≤ 10000 := by
    have hle := bfs_len (g := g) (cut := -1) (fs := [labF ls 0].filter fun x => decide (x ≠ -1)) (fun x => Nat.le_trans (tgt_few nd hG x) (by decide)) g.length
    have h5 := hm.length_eq
    have h6 := List.length_filter_le (fun x : Int => decide (x ≠ -1)) [labF ls 0]
    have h7 : [labF ls 0].length = 1 := rfl
    omega
  have hok := okd_ints (xs := ms) (by omega)
  exact ⟨hok.shaped (by decide), okd_eqv hok⟩


end
theorem all_mk {l : PySem.W.OpenLaw} {w : World} {K : PySem.W.Frag} {h : Heap} {mg : Str → Option Value} {fa : Addr} (X : K.In h) (G : h.Ns mainGlobals mg) (hfa : mg "law" = some (.ref fa))
    {f0 : Addr} {od0 an0 : Option Addr} {sl0 : Array (Option Value)} {oc0 kV0 dc0 pm0 cd0 ct0 : Value}
    {f1 : Addr} {od1 an1 : Option Addr} {sl1 : Array (Option Value)} {oc1 kV1 dc1 pm1 cd1 ct1 : Value}
    {f2 : Addr} {od2 an2 : Option Addr} {sl2 : Array (Option Value)} {oc2 kV2 dc2 pm2 cd2 ct2 : Value}
    {f3 : Addr} {od3 an3 : Option Addr} {sl3 : Array (Option Value)} {oc3 kV3 dc3 pm3 cd3 ct3 : Value}
    {f4 : Addr} {od4 an4 : Option Addr} {sl4 : Array (Option Value)} {oc4 kV4 dc4 pm4 cd4 ct4 : Value}
    {f5 : Addr} {od5 an5 : Option Addr} {sl5 : Array (Option Value)} {oc5 kV5 dc5 pm5 cd5 ct5 : Value}
    {f6 : Addr} {od6 an6 : Option Addr} {sl6 : Array (Option Value)} {oc6 kV6 dc6 pm6 cd6 ct6 : Value}
    {f7 : Addr} {od7 an7 : Option Addr} {sl7 : Array (Option Value)} {oc7 kV7 dc7 pm7 cd7 ct7 : Value}
    {f8 : Addr} {od8 an8 : Option Addr} {sl8 : Array (Option Value)} {oc8 kV8 dc8 pm8 cd8 ct8 : Value}
    {f9 : Addr} {od9 an9 : Option Addr} {sl9 : Array (Option Value)} {oc9 kV9 dc9 pm9 cd9 ct9 : Value}
    {f10 : Addr} {od10 an10 : Option Addr} {sl10 : Array (Option Value)} {oc10 kV10 dc10 pm10 cd10 ct10 : Value}
    {f11 : Addr} {od11 an11 : Option Addr} {sl11 : Array (Option Value)} {oc11 kV11 dc11 pm11 cd11 ct11 : Value}
    {f12 : Addr} {od12 an12 : Option Addr} {sl12 : Array (Option Value)} {oc12 kV12 dc12 pm12 cd12 ct12 : Value}
    {f13 : Addr} {od13 an13 : Option Addr} {sl13 : Array (Option Value)} {oc13 kV13 dc13 pm13 cd13 ct13 : Value}
    {f14 : Addr} {od14 an14 : Option Addr} {sl14 : Array (Option Value)} {oc14 kV14 dc14 pm14 cd14 ct14 : Value}
    {f15 : Addr} {od15 an15 : Option Addr} {sl15 : Array (Option Value)} {oc15 kV15 dc15 pm15 cd15 ct15 : Value}
    {f16 : Addr} {od16 an16 : Option Addr} {sl16 : Array (Option Value)} {oc16 kV16 dc16 pm16 cd16 ct16 : Value}
    (a0 : PySem.W.nsIn K mainGlobals "walk" = some (some (.ref f0))) (l0 : K.lookup f0 = some ⟨oc0, od0, .func (PySem.W.fnOf "walk" "walk" (defArgs swalk) (defBody swalk) (defScope swalk) .none kV0 dc0 pm0 an0 cd0 ct0), sl0⟩) (c0 : PySem.W.codeIn K cd0 "walk" = true) (k0 : PySem.W.keepIn K (.ref f0) = true)
    (a1 : PySem.W.nsIn K mainGlobals "edges" = some (some (.ref f1))) (l1 : K.lookup f1 = some ⟨oc1, od1, .func (PySem.W.fnOf "edges" "edges" (defArgs sedges) (defBody sedges) (defScope sedges) .none kV1 dc1 pm1 an1 cd1 ct1), sl1⟩) (c1 : PySem.W.codeIn K cd1 "edges" = true) (k1 : PySem.W.keepIn K (.ref f1) = true)
    (a2 : PySem.W.nsIn K mainGlobals "graph_of" = some (some (.ref f2))) (l2 : K.lookup f2 = some ⟨oc2, od2, .func (PySem.W.fnOf "graph_of" "graph_of" (defArgs sgraph_of) (defBody sgraph_of) (defScope sgraph_of) .none kV2 dc2 pm2 an2 cd2 ct2), sl2⟩) (c2 : PySem.W.codeIn K cd2 "graph_of" = true) (k2 : PySem.W.keepIn K (.ref f2) = true)
    (a3 : PySem.W.nsIn K mainGlobals "node_targets" = some (some (.ref f3))) (l3 : K.lookup f3 = some ⟨oc3, od3, .func (PySem.W.fnOf "node_targets" "node_targets" (defArgs snode_targets) (defBody snode_targets) (defScope snode_targets) .none kV3 dc3 pm3 an3 cd3 ct3), sl3⟩) (c3 : PySem.W.codeIn K cd3 "node_targets" = true) (k3 : PySem.W.keepIn K (.ref f3) = true)
    (a4 : PySem.W.nsIn K mainGlobals "backwards" = some (some (.ref f4))) (l4 : K.lookup f4 = some ⟨oc4, od4, .func (PySem.W.fnOf "backwards" "backwards" (defArgs sbackwards) (defBody sbackwards) (defScope sbackwards) .none kV4 dc4 pm4 an4 cd4 ct4), sl4⟩) (c4 : PySem.W.codeIn K cd4 "backwards" = true) (k4 : PySem.W.keepIn K (.ref f4) = true)
    (a5 : PySem.W.nsIn K mainGlobals "reachable" = some (some (.ref f5))) (l5 : K.lookup f5 = some ⟨oc5, od5, .func (PySem.W.fnOf "reachable" "reachable" (defArgs sreachable) (defBody sreachable) (defScope sreachable) .none kV5 dc5 pm5 an5 cd5 ct5), sl5⟩) (c5 : PySem.W.codeIn K cd5 "reachable" = true) (k5 : PySem.W.keepIn K (.ref f5) = true)
    (a6 : PySem.W.nsIn K mainGlobals "reverse_postorder" = some (some (.ref f6))) (l6 : K.lookup f6 = some ⟨oc6, od6, .func (PySem.W.fnOf "reverse_postorder" "reverse_postorder" (defArgs sreverse_postorder) (defBody sreverse_postorder) (defScope sreverse_postorder) .none kV6 dc6 pm6 an6 cd6 ct6), sl6⟩) (c6 : PySem.W.codeIn K cd6 "reverse_postorder" = true) (k6 : PySem.W.keepIn K (.ref f6) = true)
    (a7 : PySem.W.nsIn K mainGlobals "critical_edges" = some (some (.ref f7))) (l7 : K.lookup f7 = some ⟨oc7, od7, .func (PySem.W.fnOf "critical_edges" "critical_edges" (defArgs scritical_edges) (defBody scritical_edges) (defScope scritical_edges) .none kV7 dc7 pm7 an7 cd7 ct7), sl7⟩) (c7 : PySem.W.codeIn K cd7 "critical_edges" = true) (k7 : PySem.W.keepIn K (.ref f7) = true)
    (a8 : PySem.W.nsIn K mainGlobals "_law_draw" = some (some (.ref f8))) (l8 : K.lookup f8 = some ⟨oc8, od8, .func (PySem.W.fnOf "_law_draw" "_law_draw" (defArgs s_law_draw) (defBody s_law_draw) (defScope s_law_draw) .none kV8 dc8 pm8 an8 cd8 ct8), sl8⟩) (c8 : PySem.W.codeIn K cd8 "_law_draw" = true) (k8 : PySem.W.keepIn K (.ref f8) = true)
    (a9 : PySem.W.nsIn K mainGlobals "_law_take" = some (some (.ref f9))) (l9 : K.lookup f9 = some ⟨oc9, od9, .func (PySem.W.fnOf "_law_take" "_law_take" (defArgs s_law_take) (defBody s_law_take) (defScope s_law_take) .none kV9 dc9 pm9 an9 cd9 ct9), sl9⟩) (c9 : PySem.W.codeIn K cd9 "_law_take" = true) (k9 : PySem.W.keepIn K (.ref f9) = true)
    (a10 : PySem.W.nsIn K mainGlobals "_law_same" = some (some (.ref f10))) (l10 : K.lookup f10 = some ⟨oc10, od10, .func (PySem.W.fnOf "_law_same" "_law_same" (defArgs s_law_same) (defBody s_law_same) (defScope s_law_same) .none kV10 dc10 pm10 an10 cd10 ct10), sl10⟩) (c10 : PySem.W.codeIn K cd10 "_law_same" = true) (k10 : PySem.W.keepIn K (.ref f10) = true)
    (a11 : PySem.W.nsIn K mainGlobals "_law_labels" = some (some (.ref f11))) (l11 : K.lookup f11 = some ⟨oc11, od11, .func (PySem.W.fnOf "_law_labels" "_law_labels" (defArgs s_law_labels) (defBody s_law_labels) (defScope s_law_labels) .none kV11 dc11 pm11 an11 cd11 ct11), sl11⟩) (c11 : PySem.W.codeIn K cd11 "_law_labels" = true) (k11 : PySem.W.keepIn K (.ref f11) = true)
    (a12 : PySem.W.nsIn K mainGlobals "_law_graph" = some (some (.ref f12))) (l12 : K.lookup f12 = some ⟨oc12, od12, .func (PySem.W.fnOf "_law_graph" "_law_graph" (defArgs s_law_graph) (defBody s_law_graph) (defScope s_law_graph) .none kV12 dc12 pm12 an12 cd12 ct12), sl12⟩) (c12 : PySem.W.codeIn K cd12 "_law_graph" = true) (k12 : PySem.W.keepIn K (.ref f12) = true)
    (a13 : PySem.W.nsIn K mainGlobals "_law_targets" = some (some (.ref f13))) (l13 : K.lookup f13 = some ⟨oc13, od13, .func (PySem.W.fnOf "_law_targets" "_law_targets" (defArgs s_law_targets) (defBody s_law_targets) (defScope s_law_targets) .none kV13 dc13 pm13 an13 cd13 ct13), sl13⟩) (c13 : PySem.W.codeIn K cd13 "_law_targets" = true) (k13 : PySem.W.keepIn K (.ref f13) = true)
    (a14 : PySem.W.nsIn K mainGlobals "_law_reached" = some (some (.ref f14))) (l14 : K.lookup f14 = some ⟨oc14, od14, .func (PySem.W.fnOf "_law_reached" "_law_reached" (defArgs s_law_reached) (defBody s_law_reached) (defScope s_law_reached) .none kV14 dc14 pm14 an14 cd14 ct14), sl14⟩) (c14 : PySem.W.codeIn K cd14 "_law_reached" = true) (k14 : PySem.W.keepIn K (.ref f14) = true)
    (a15 : PySem.W.nsIn K mainGlobals "_law_end" = some (some (.ref f15))) (l15 : K.lookup f15 = some ⟨oc15, od15, .func (PySem.W.fnOf "_law_end" "_law_end" (defArgs s_law_end) (defBody s_law_end) (defScope s_law_end) .none kV15 dc15 pm15 an15 cd15 ct15), sl15⟩) (c15 : PySem.W.codeIn K cd15 "_law_end" = true) (k15 : PySem.W.keepIn K (.ref f15) = true)
    (a16 : PySem.W.nsIn K mainGlobals "law" = some (some (.ref f16))) (l16 : K.lookup f16 = some ⟨oc16, od16, .func (PySem.W.fnOf "law" "law" (defArgs slaw) (defBody slaw) (defScope slaw) .none kV16 dc16 pm16 an16 cd16 ct16), sl16⟩) (c16 : PySem.W.codeIn K cd16 "law" = true) (k16 : PySem.W.keepIn K (.ref f16) = true)
    (z_len : PySem.W.nsIn K mainGlobals "len" = some none)
    (z_tuple : PySem.W.nsIn K mainGlobals "tuple" = some none)
    (z_enumerate : PySem.W.nsIn K mainGlobals "enumerate" = some none)
    (z_sorted : PySem.W.nsIn K mainGlobals "sorted" = some none)
    (z_reversed : PySem.W.nsIn K mainGlobals "reversed" = some none)
    (z_int : PySem.W.nsIn K mainGlobals "int" = some none)
    (z_abs : PySem.W.nsIn K mainGlobals "abs" = some none)
    (z_isinstance : PySem.W.nsIn K mainGlobals "isinstance" = some none)
    (z_all : PySem.W.nsIn K mainGlobals "all" = some none)
    (z_bool : PySem.W.nsIn K mainGlobals "bool" = some none)
    (z_range : PySem.W.nsIn K mainGlobals "range" = some none)
    (z_min : PySem.W.nsIn K mainGlobals "min" = some none)
    (z_max : PySem.W.nsIn K mainGlobals "max" = some none)
    (z_dict : PySem.W.nsIn K mainGlobals "dict" = some none)
    : ∃ fd : FuncData, (∀ (s : Shared) (v : Value), BindsTo s fd ⟨[v], []⟩ [("script", v)]) ∧ ∀ base : Heap, K.In base → base.Ns mainGlobals mg → FnOk l.prog w K mg base CX0 13 fa fd ["script"] (spLaw K) := by
  have e := hfa.symm.trans (PySem.W.mg_of X G a16)
  cases e
  have F0 := fun_mk (st := swalk) l0 c0 k0
  have b0 := F0.binds (ps := ["targets"]) fun _ _ _ _ _ _ us hl => match us, hl with | [_], _ => rfl
  have F1 := fun_mk (st := sedges) l1 c1 k1
  have b1 := F1.binds (ps := ["end"]) fun _ _ _ _ _ _ us hl => match us, hl with | [_], _ => rfl
  have F2 := fun_mk (st := sgraph_of) l2 c2 k2
  have b2 := F2.binds (ps := ["function"]) fun _ _ _ _ _ _ us hl => match us, hl with | [_], _ => rfl
  have F3 := fun_mk (st := snode_targets) l3 c3 k3
  have b3 := F3.binds (ps := ["graph"]) fun _ _ _ _ _ _ us hl => match us, hl with | [_], _ => rfl
  have F4 := fun_mk (st := sbackwards) l4 c4 k4
  have b4 := F4.binds (ps := ["graph"]) fun _ _ _ _ _ _ us hl => match us, hl with | [_], _ => rfl
  have F5 := fun_mk (st := sreachable) l5 c5 k5
  have b5 := F5.binds (ps := ["graph"]) fun _ _ _ _ _ _ us hl => match us, hl with | [_], _ => rfl
  have F6 := fun_mk (st := sreverse_postorder) l6 c6 k6
  have b6 := F6.binds (ps := ["graph"]) fun _ _ _ _ _ _ us hl => match us, hl with | [_], _ => rfl
  have F7 := fun_mk (st := scritical_edges) l7 c7 k7
  have b7 := F7.binds (ps := ["graph"]) fun _ _ _ _ _ _ us hl => match us, hl with | [_], _ => rfl
  have F8 := fun_mk (st := s_law_draw) l8 c8 k8
  have b8 := F8.binds (ps := ["script"]) fun _ _ _ _ _ _ us hl => match us, hl with | [_], _ => rfl
  have F9 := fun_mk (st := s_law_take) l9 c9 k9
  have b9 := F9.binds (ps := ["draw", "many"]) fun _ _ _ _ _ _ us hl => match us, hl with | [_, _], _ => rfl
  have F10 := fun_mk (st := s_law_same) l10 c10 k10
  have b10 := F10.binds (ps := ["one", "two"]) fun _ _ _ _ _ _ us hl => match us, hl with | [_, _], _ => rfl
  have F11 := fun_mk (st := s_law_labels) l11 c11 k11
  have b11 := F11.binds (ps := ["draw"]) fun _ _ _ _ _ _ us hl => match us, hl with | [_], _ => rfl
  have F12 := fun_mk (st := s_law_graph) l12 c12 k12
  have b12 := F12.binds (ps := ["draw", "back"]) fun _ _ _ _ _ _ us hl => match us, hl with | [_, _], _ => rfl
  have F13 := fun_mk (st := s_law_targets) l13 c13 k13
  have b13 := F13.binds (ps := ["graph", "label"]) fun _ _ _ _ _ _ us hl => match us, hl with | [_, _], _ => rfl
  have F14 := fun_mk (st := s_law_reached) l14 c14 k14
  have b14 := F14.binds (ps := ["graph", "first", "cut"]) fun _ _ _ _ _ _ us hl => match us, hl with | [_, _, _], _ => rfl
  have F15 := fun_mk (st := s_law_end) l15 c15 k15
  have b15 := F15.binds (ps := ["draw", "targets", "k"]) fun _ _ _ _ _ _ us hl => match us, hl with | [_, _, _], _ => rfl
  have F16 := fun_mk (st := slaw) l16 c16 k16
  have b16 := F16.binds (ps := ["script"]) fun _ _ _ _ _ _ us hl => match us, hl with | [_], _ => rfl
  exact ⟨PySem.W.fnOf "law" "law" (defArgs slaw) (defBody slaw) (defScope slaw) .none kV16 dc16 pm16 an16 cd16 ct16, fun s v => .of_eq rfl, fun base _ _ => ok_law ⟨f0, _, F0, PySem.W.mg_of X G a0, b0, f1, _, F1, PySem.W.mg_of X G a1, b1, f2, _, F2, PySem.W.mg_of X G a2, b2, f3, _, F3, PySem.W.mg_of X G a3, b3, f4, _, F4, PySem.W.mg_of X G a4, b4, f5, _, F5, PySem.W.mg_of X G a5, b5, f6, _, F6, PySem.W.mg_of X G a6, b6, f7, _, F7, PySem.W.mg_of X G a7, b7, f8, _, F8, PySem.W.mg_of X G a8, b8, f9, _, F9, PySem.W.mg_of X G a9, b9, f10, _, F10, PySem.W.mg_of X G a10, b10, f11, _, F11, PySem.W.mg_of X G a11, b11, f12, _, F12, PySem.W.mg_of X G a12, b12, f13, _, F13, PySem.W.mg_of X G a13, b13, f14, _, F14, PySem.W.mg_of X G a14, b14, f15, _, F15, PySem.W.mg_of X G a15, b15, fa, _, F16, PySem.W.mg_of X G a16, b16, PySem.W.mg_none_of X G z_len, PySem.W.mg_none_of X G z_tuple, PySem.W.mg_none_of X G z_enumerate, PySem.W.mg_none_of X G z_sorted, PySem.W.mg_none_of X G z_reversed, PySem.W.mg_none_of X G z_int, PySem.W.mg_none_of X G z_abs, PySem.W.mg_none_of X G z_isinstance, PySem.W.mg_none_of X G z_all, PySem.W.mg_none_of X G z_bool, PySem.W.mg_none_of X G z_range, PySem.W.mg_none_of X G z_min, PySem.W.mg_none_of X G z_max, PySem.W.mg_none_of X G z_dict⟩⟩
end Toy
open PySem PySem.W PyProof.Rows
set_option maxRecDepth 100000 in
set_option maxHeartbeats 0 in
theorem PySem.Challenge.cw_burnish_k20_graph_of_a_function_holds : PySem.Challenge.rw_burnish_k20_graph_of_a_function.Holds := by
  w_on; o_law; k_head; (case hw => w_witness2)
  k_fill
  refine L2.walk_of (l := PySem.Challenge.rw_burnish_k20_graph_of_a_function) (n := 63) (k := 13) (x := "script") (CX := fun _ => L2.CX0) (sp := fun w => VL.spLaw _) rfl (by decide) rfl ⟨rfl, by decide, by decide⟩ (fun w h Y => PySem.W.kIn_of Y) ?F (fun _ _ a ns hl _ hS => ⟨a, ns, rfl, hS, hl, fun _ => rfl⟩) (fun _ _ _ _ _ h => h)
  case F =>
    intro w mg fa h KX G hmg
    refine' Toy.all_mk KX G hmg ?a0 ?l0 ?c0 ?k0 ?a1 ?l1 ?c1 ?k1 ?a2 ?l2 ?c2 ?k2 ?a3 ?l3 ?c3 ?k3 ?a4 ?l4 ?c4 ?k4 ?a5 ?l5 ?c5 ?k5 ?a6 ?l6 ?c6 ?k6 ?a7 ?l7 ?c7 ?k7 ?a8 ?l8 ?c8 ?k8 ?a9 ?l9 ?c9 ?k9 ?a10 ?l10 ?c10 ?k10 ?a11 ?l11 ?c11 ?k11 ?a12 ?l12 ?c12 ?k12 ?a13 ?l13 ?c13 ?k13 ?a14 ?l14 ?c14 ?k14 ?a15 ?l15 ?c15 ?k15 ?a16 ?l16 ?c16 ?k16 ?z_len ?z_tuple ?z_enumerate ?z_sorted ?z_reversed ?z_int ?z_abs ?z_isinstance ?z_all ?z_bool ?z_range ?z_min ?z_max ?z_dict
    (case a0 => k_is)
    (case l0 => k_is)
    (case c0 => k_is)
    (case k0 => k_is)
    (case a1 => k_is)
    (case l1 => k_is)
    (case c1 => k_is)
    (case k1 => k_is)
    (case a2 => k_is)
    (case l2 => k_is)
    (case c2 => k_is)
    (case k2 => k_is)
    (case a3 => k_is)
    (case l3 => k_is)
    (case c3 => k_is)
    (case k3 => k_is)
    (case a4 => k_is)
    (case l4 => k_is)
    (case c4 => k_is)
    (case k4 => k_is)
    (case a5 => k_is)
    (case l5 => k_is)
    (case c5 => k_is)
    (case k5 => k_is)
    (case a6 => k_is)
    (case l6 => k_is)
    (case c6 => k_is)
    (case k6 => k_is)
    (case a7 => k_is)
    (case l7 => k_is)
    (case c7 => k_is)
    (case k7 => k_is)
    (case a8 => k_is)
    (case l8 => k_is)
    (case c8 => k_is)
    (case k8 => k_is)
    (case a9 => k_is)
    (case l9 => k_is)
    (case c9 => k_is)
    (case k9 => k_is)
    (case a10 => k_is)
    (case l10 => k_is)
    (case c10 => k_is)
    (case k10 => k_is)
    (case a11 => k_is)
    (case l11 => k_is)
    (case c11 => k_is)
    (case k11 => k_is)
    (case a12 => k_is)
    (case l12 => k_is)
    (case c12 => k_is)
    (case k12 => k_is)
    (case a13 => k_is)
    (case l13 => k_is)
    (case c13 => k_is)
    (case k13 => k_is)
    (case a14 => k_is)
    (case l14 => k_is)
    (case c14 => k_is)
    (case k14 => k_is)
    (case a15 => k_is)
    (case l15 => k_is)
    (case c15 => k_is)
    (case k15 => k_is)
    (case a16 => k_is)
    (case l16 => k_is)
    (case c16 => k_is)
    (case k16 => k_is)
    (case z_len => k_is)
    (case z_tuple => k_is)
    (case z_enumerate => k_is)
    (case z_sorted => k_is)
    (case z_reversed => k_is)
    (case z_int => k_is)
    (case z_abs => k_is)
    (case z_isinstance => k_is)
    (case z_all => k_is)
    (case z_bool => k_is)
    (case z_range => k_is)
    (case z_min => k_is)
    (case z_max => k_is)
    (case z_dict => k_is)
