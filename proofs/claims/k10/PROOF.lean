import PyProof.Rows.All
import Wide.All
import OpenK.AllK
import Wide.FinOn
import HandS.ForMost
import HandS.IsInst
import HandS.Wide
import HandS.More
import HandS.WideBits
import KE.GoesEnum
import HandS.TupAny
import KE.DataMinMax
import HandS.SortKw
import HandS.FStr
import HandS.Zip
import HandS.CallLocal
import PyProof.Rows.StrJoinMade
import PyProof.StrLaws
import PyProof.ReprRoads
import HandS.Rev
import HandS.Style
import HandS.Conv
import HandS.Flow
import HandS.CallLocal
import HandS.More
import HandS.NoneIn
import HandS.WordsDict
import HandS.Iter
import HandS.WrittenGet
import HandS.NestedK
import HandS.EndTab
import HandS.SortInts
import HandS.DictComp
import HandS.SetKeys
import PySem.Challenge.RW_burnish_k10_reached_and_dominating
set_option Elab.async false
set_option linter.all false
set_option maxRecDepth 100000
set_option maxHeartbeats 4000000
/-! A layer of values over the hand layer: data are trees, the heap is hidden. -/
namespace VL
open PySem L2

/-! ### data in a heap -/
def keyD : Key → PyData
  | .inl i => .int i
  | .inr x => .str x
mutual
inductive Rp (K : PySem.W.Frag) (H : Hp) : V → PyData → Prop
  | non : Rp K H .non .none
  | bl (b : Bool) : Rp K H (.bl b) (.bool b)
  | int (i : Int) : Rp K H (.int i) (.int i)
  | str (x : Str) : Rp K H (.str x) (.str x)
  | lst {a : Addr} {xs : List V} {ds : List PyData} : H a = some (.lst xs) → RpA K H xs ds → Rp K H (.ref a) (.list ds)
  | tup {a : Addr} {xs : List V} {ds : List PyData} : SqT K H a xs → RpA K H xs ds → Rp K H (.ref a) (.tuple ds)
  | dic {a : Addr} {od : Obj} {kvs : List (Key × V)} {es : List (PyData × PyData)} : H a = some (.frz od (.dK kvs)) → RpD K H kvs es → Rp K H (.ref a) (.dict es)
inductive RpA (K : PySem.W.Frag) (H : Hp) : List V → List PyData → Prop
  | nil : RpA K H [] []
  | cons {v : V} {vs : List V} {d : PyData} {ds : List PyData} : Rp K H v d → RpA K H vs ds → RpA K H (v :: vs) (d :: ds)
inductive RpD (K : PySem.W.Frag) (H : Hp) : List (Key × V) → List (PyData × PyData) → Prop
  | nil : RpD K H [] []
  | cons {k : Key} {v : V} {kvs : List (Key × V)} {d : PyData} {es : List (PyData × PyData)} : Rp K H v d → RpD K H kvs es → RpD K H ((k, v) :: kvs) ((keyD k, d) :: es)
end
section
variable {K : PySem.W.Frag} {H H' : Hp}
theorem same_t {a : Addr} {xs : List V} (e : Same H H') (h : SqT K H a xs) : SqT K H' a xs := by
  rcases h with (h | ⟨o, h⟩) | h
  · exact .inl (.inl (e _ _ h))
  · exact .inl (.inr ⟨o, e _ _ h⟩)
  · exact .inr h
mutual
theorem Rp.mono (e : Same H H') : ∀ {v : V} {d : PyData}, Rp K H v d → Rp K H' v d
  | _, _, .non => .non
  | _, _, .bl b => .bl b
  | _, _, .int i => .int i
  | _, _, .str x => .str x
  | _, _, .lst h r => .lst (e _ _ h) (RpA.mono e r)
  | _, _, .tup h r => .tup (same_t e h) (RpA.mono e r)
  | _, _, .dic h r => .dic (e _ _ h) (RpD.mono e r)
theorem RpA.mono (e : Same H H') : ∀ {vs : List V} {ds : List PyData}, RpA K H vs ds → RpA K H' vs ds
  | _, _, .nil => .nil
  | _, _, .cons h r => .cons (Rp.mono e h) (RpA.mono e r)
theorem RpD.mono (e : Same H H') : ∀ {vs : List (Key × V)} {ds : List (PyData × PyData)}, RpD K H vs ds → RpD K H' vs ds
  | _, _, .nil => .nil
  | _, _, .cons h r => .cons (Rp.mono e h) (RpD.mono e r)
end
mutual
theorem Rp.dp : ∀ {v : V} {d : PyData}, Rp K H v d → d.canLay0 = true → Dp K H v d
  | _, _, .non, _ => .non
  | _, _, .bl b, _ => .bl b
  | _, _, .int i, _ => .int i
  | _, _, .str x, _ => .str x
  | _, _, .lst h r, c => .lst (SqL.of h) (RpA.dp r (by simpa [PyData.canLay0] using c))
  | _, _, .tup h r, c => .tup h (RpA.dp r (by simpa [PyData.canLay0] using c))
  | _, _, .dic h r, c => by simp [PyData.canLay0] at c
theorem RpA.dp : ∀ {vs : List V} {ds : List PyData}, RpA K H vs ds → PyData.canLayAll0 ds = true → DpAll K H vs ds
  | _, _, .nil, _ => .nil
  | _, _, .cons h r, c => by
    simp only [PyData.canLayAll0, Bool.and_eq_true] at c
    exact .cons (Rp.dp h c.1) (RpA.dp r c.2)
end
theorem RpA.length : ∀ {vs : List V} {ds : List PyData}, RpA K H vs ds → vs.length = ds.length
  | _, _, .nil => rfl
  | _, _, .cons _ r => by rw [List.length_cons, List.length_cons, RpA.length r]
theorem RpA.get : ∀ {vs : List V} {ds : List PyData} {i : Nat} {d : PyData}, RpA K H vs ds → ds[i]? = some d → ∃ v, vs[i]? = some v ∧ Rp K H v d
  | _, _, _, _, .nil, e => by simp at e
  | _, _, 0, _, .cons h _, e => by simp at e; subst e; exact ⟨_, rfl, h⟩
  | _, _, i + 1, _, .cons _ r, e => by
    obtain ⟨v, h1, h2⟩ := RpA.get (i := i) r (by simpa using e)
    exact ⟨v, by simpa using h1, h2⟩
theorem RpA.get' : ∀ {vs : List V} {ds : List PyData} {i : Nat} {v : V}, RpA K H vs ds → vs[i]? = some v → ∃ d, ds[i]? = some d ∧ Rp K H v d
  | _, _, _, _, .nil, e => by simp at e
  | _, _, 0, _, .cons h _, e => by simp at e; subst e; exact ⟨_, rfl, h⟩
  | _, _, i + 1, _, .cons _ r, e => by
    obtain ⟨v, h1, h2⟩ := RpA.get' (i := i) r (by simpa using e)
    exact ⟨v, by simpa using h1, h2⟩
theorem RpA.append : ∀ {vs us : List V} {ds es : List PyData}, RpA K H vs ds → RpA K H us es → RpA K H (vs ++ us) (ds ++ es)
  | _, _, _, _, .nil, r => r
  | _, _, _, _, .cons h r, s => .cons h (RpA.append r s)
theorem RpA.snoc {vs : List V} {ds : List PyData} {v : V} {d : PyData} (r : RpA K H vs ds) (h : Rp K H v d) : RpA K H (vs ++ [v]) (ds ++ [d]) := r.append (.cons h .nil)
theorem RpA.set {v : V} {d : PyData} (h : Rp K H v d) : ∀ {vs : List V} {ds : List PyData} (i : Nat), RpA K H vs ds → RpA K H (vs.set i v) (ds.set i d)
  | _, _, _, .nil => .nil
  | _, _, 0, .cons _ r => .cons h r
  | _, _, i + 1, .cons g r => .cons g (RpA.set h i r)
theorem RpA.take : ∀ {vs : List V} {ds : List PyData} (n : Nat), RpA K H vs ds → RpA K H (vs.take n) (ds.take n)
  | _, _, 0, _ => .nil
  | _, _, _ + 1, .nil => .nil
  | _, _, n + 1, .cons h r => .cons h (RpA.take n r)
theorem RpA.drop : ∀ {vs : List V} {ds : List PyData} (n : Nat), RpA K H vs ds → RpA K H (vs.drop n) (ds.drop n)
  | _, _, 0, r => r
  | _, _, _ + 1, .nil => .nil
  | _, _, n + 1, .cons _ r => RpA.drop n r
theorem RpA.ints : ∀ {vs : List V} {ns : List Int}, RpA K H vs (ns.map PyData.int) → vs = ns.map V.int
  | _, [], .nil => rfl
  | _, _ :: _, .cons (.int _) r => by rw [List.map_cons, RpA.ints r]
end

/-! ### the one object that changes without an owner: the row of numbers that a law draws from, or the table of the law's code -/
def Draw1 (H0 H : Hp) (p : Addr) : Prop := ∃ (c : Addr) (i v s : Int) (cells : List Int), H p = some (.lst [.ref c, .int i, .int v, .int s]) ∧ H0 c = some (.lst (cells.map V.int)) ∧
  (∀ x ∈ cells, 0 ≤ x) ∧ -1 ≤ i ∧ 0 ≤ v ∧ 0 ≤ s ∧ s < 2147483647
/-- the name of each lambda that the law makes -/
def lamName : Str := (("law" : Str) ++ ".<locals>.") ++ "<lambda>"
def TabAt (H0 H : Hp) (p : Addr) : Prop := ∃ ps : Array Value, H p = some (.tbl ps) ∧ TriplesOk ps.toList ∧ ∀ (pos : Pos) (cv : Value), codeAmong pos ps.toList = some cv → ∃ c, cv = .ref c ∧ H0 c = some (LamX.CodeO c lamName)
def IsTb (H : Hp) (p : Addr) : Prop := ∃ ps : Array Value, H p = some (.tbl ps)
/-- He is the heap at the def's start: what was a table stays one -/
def DrawAt (He H0 H : Hp) (p : Addr) : Prop := H0 p = none ∧ (Draw1 H0 H p ∨ TabAt H0 H p) ∧ (IsTb He p ↔ IsTb H p)
section
variable {He H0 H H0' H' : Hp} {p : Addr}
theorem DrawAt.no (h : DrawAt He H0 H p) : H0 p = none := h.1
theorem DrawAt.live (h : DrawAt He H0 H p) : ∃ o, H p = some o := by
  rcases h.2.1 with ⟨_, _, _, _, _, e, _⟩ | ⟨_, e, _⟩ <;> exact ⟨_, e⟩
theorem DrawAt.keep (h : DrawAt He H0 H p) (gr : Same H0 H0') (n : H0' p = none) (e : H' p = H p) : DrawAt He H0' H' p := by
  refine ⟨n, ?_, h.2.2.trans (by unfold IsTb; rw [e])⟩
  rcases h.2.1 with ⟨c, i, v, s, cells, g1, g2, g3⟩ | ⟨ps, g1, g2, g3⟩
  · exact .inl ⟨c, i, v, s, cells, e.trans g1, gr _ _ g2, g3⟩
  · exact .inr ⟨ps, e.trans g1, g2, fun pos cv k => let ⟨c, k1, k2⟩ := g3 pos cv k; ⟨c, k1, gr _ _ k2⟩⟩
theorem DrawAt.in_ (h : DrawAt He H0 H p) : DrawAt H H0 H p := ⟨h.1, h.2.1, Iff.rfl⟩
theorem DrawAt.out (h : DrawAt He H0 H p) (g : DrawAt H H0' H' p) : DrawAt He H0' H' p := ⟨g.1, g.2.1, h.2.2.trans g.2.2⟩
/-- of a table -/
theorem DrawAt.tab (h : DrawAt He H0 H p) (t : IsTb He p) : TabAt H0 H p := h.2.1.elim (fun ⟨_, _, _, _, _, e, _⟩ => by
  obtain ⟨ps, z⟩ := h.2.2.mp t
  rw [e] at z; cases z) id
/-- of a draw -/
theorem DrawAt.draw (h : DrawAt He H0 H p) (t : ¬ IsTb He p) : Draw1 H0 H p := h.2.1.elim id fun ⟨ps, e, _⟩ => absurd (h.2.2.mpr ⟨ps, e⟩) t
end

/-- a lambda without captured names -/
structure LF where
  qual : Str
  params : Arguments
  body : Expr
  scope : Scope
def LamO (f : Addr) (F : LF) (c : Addr) : HO := .ext fun h => ∃ (pm ctv : Value), h.get? f = some (PySem.W.kla_obj "<lambda>" F.qual F.params F.body F.scope [] pm c ctv)

/-! ### what stands in owned objects: data, or another owned object -/
inductive CV where
  | d (x : PyData) | r (b : Addr)
inductive Cell where
  | l (xs : List CV) | D (es : List (Key × CV)) | I (C dx : Addr) (fs : List (Str × CV))
def CVR (K : PySem.W.Frag) (H : Hp) (v : V) : CV → Prop
  | .d x => Rp K H v x
  | .r b => v = .ref b
inductive CVs (K : PySem.W.Frag) (H : Hp) : List V → List CV → Prop
  | nil : CVs K H [] []
  | cons {v : V} {c : CV} {vs : List V} {cs : List CV} : CVR K H v c → CVs K H vs cs → CVs K H (v :: vs) (c :: cs)
inductive CVk {κ : Type} (K : PySem.W.Frag) (H : Hp) : List (κ × V) → List (κ × CV) → Prop
  | nil : CVk K H [] []
  | cons {k : κ} {v : V} {c : CV} {vs : List (κ × V)} {cs : List (κ × CV)} : CVR K H v c → CVk K H vs cs → CVk K H ((k, v) :: vs) ((k, c) :: cs)
def CellR (K : PySem.W.Frag) (H : Hp) (o : HO) : Cell → Prop
  | .l xs => ∃ vs, o = .lst vs ∧ CVs K H vs xs
  | .D es => ∃ vs, o = .dK vs ∧ CVk K H vs es
  | .I C dx fs => ∃ vs, o = .ins C dx vs ∧ CVk K H vs fs
section
variable {K : PySem.W.Frag} {H H' : Hp}
theorem CVR.mono (e : Same H H') {v : V} : ∀ {c : CV}, CVR K H v c → CVR K H' v c
  | .d _, h => Rp.mono e h
  | .r _, h => h
theorem CVs.mono (e : Same H H') : ∀ {vs : List V} {cs : List CV}, CVs K H vs cs → CVs K H' vs cs
  | _, _, .nil => .nil
  | _, _, .cons h r => .cons (h.mono e) (CVs.mono e r)
theorem CVk.mono {κ : Type} (e : Same H H') : ∀ {vs : List (κ × V)} {cs : List (κ × CV)}, CVk K H vs cs → CVk K H' vs cs
  | _, _, .nil => .nil
  | _, _, .cons h r => .cons (h.mono e) (CVk.mono e r)
theorem CellR.mono (e : Same H H') {o : HO} : ∀ {c : Cell}, CellR K H o c → CellR K H' o c
  | .l _, ⟨vs, h, r⟩ => ⟨vs, h, r.mono e⟩
  | .D _, ⟨vs, h, r⟩ => ⟨vs, h, r.mono e⟩
  | .I _ _ _, ⟨vs, h, r⟩ => ⟨vs, h, r.mono e⟩
end
abbrev Sto := List (Addr × Cell)

/-! ### slots -/
inductive R where
  | d (x : PyData) | own (a : Addr) (xs : List PyData) | drw | raw (v : V) | scr (ns : List Int) | dct (a : Addr) (es : List (Key × PyData)) | fn (F : LF) | reg (u : V) (m : Sto)
/-- the addresses of what a slot owns -/
def R.adr : R → List Addr
  | .own a _ => [a]
  | .dct a _ => [a]
  | .reg _ m => m.map (·.1)
  | _ => []
inductive RX where
  | d (x : PyData) | own (xs : List PyData) | m (u : V) (m : List (Addr × Cell)) (x : PyData)
abbrev Dl := List (Option R)
structure Ctx where
  K : PySem.W.Frag
  ex : Option Addr
  He : Hp
  Hf : Hp
structure Wf (C : Ctx) (H0 H : Hp) : Prop where
  sub : Same H0 H
  kp : ∀ b o, C.ex ≠ some b → C.He b = some o → H b = some o
  fz : Same C.Hf H0
  nw : ∀ b o, H0 b = some o → C.Hf b = some o ∨ C.He b = none
  dr : ∀ p, C.ex = some p → DrawAt C.He H0 H p
/-- entries of an owned dict -/
inductive RpK (K : PySem.W.Frag) (H : Hp) : List (Key × V) → List (Key × PyData) → Prop
  | nil : RpK K H [] []
  | cons {k : Key} {v : V} {d : PyData} {kvs : List (Key × V)} {es : List (Key × PyData)} : Rp K H v d → RpK K H kvs es → RpK K H ((k, v) :: kvs) ((k, d) :: es)
theorem RpK.mono {K : PySem.W.Frag} {H H' : Hp} (e : Same H H') : ∀ {vs : List (Key × V)} {es : List (Key × PyData)}, RpK K H vs es → RpK K H' vs es
  | _, _, .nil => .nil
  | _, _, .cons h r => .cons (Rp.mono e h) (RpK.mono e r)
def entD (es : List (Key × PyData)) : List (PyData × PyData) := es.map fun e => (keyD e.1, e.2)
theorem RpK.rpd {K : PySem.W.Frag} {H : Hp} : ∀ {vs : List (Key × V)} {es : List (Key × PyData)}, RpK K H vs es → RpD K H vs (entD es)
  | _, _, .nil => .nil
  | _, _, .cons h r => .cons h (RpK.rpd r)
theorem RpK.length {K : PySem.W.Frag} {H : Hp} : ∀ {vs : List (Key × V)} {es : List (Key × PyData)}, RpK K H vs es → vs.length = es.length
  | _, _, .nil => rfl
  | _, _, .cons _ r => by rw [List.length_cons, List.length_cons, RpK.length r]
def RR (C : Ctx) (H0 H : Hp) (v : V) : R → Prop
  | .d x => Rp C.K H0 v x
  | .own a xs => v = .ref a ∧ H0 a = none ∧ C.He a = none ∧ C.ex ≠ some a ∧ ∃ vs, H a = some (.lst vs) ∧ RpA C.K H0 vs xs
  | .drw => ∃ p, C.ex = some p ∧ v = .ref p ∧ ¬ IsTb C.He p
  | .raw u => v = u
  | .scr ns => ∃ a, v = .ref a ∧ SqL C.K H0 a (ns.map V.int)
  | .fn F => ∃ f c, v = .ref f ∧ H0 f = some (LamO f F c) ∧ H0 c = some (LamX.CodeO c F.qual)
  | .dct a es => v = .ref a ∧ H0 a = none ∧ C.He a = none ∧ C.ex ≠ some a ∧ ∃ kvs, H a = some (.dK kvs) ∧ RpK C.K H0 kvs es
  | .reg u m => v = u ∧ (m.map (·.1)).Nodup ∧ ∀ a c, (a, c) ∈ m → H0 a = none ∧ C.He a = none ∧ C.ex ≠ some a ∧ ∃ o, H a = some o ∧ CellR C.K H0 o c
structure St (C : Ctx) (H0 H : Hp) (σ : L2.St) (δ : Dl) : Prop extends Wf C H0 H where
  len : σ.length = δ.length
  sl : ∀ (i : Nat) (r : R), δ[i]? = some (some r) → ∃ v, σ[i]? = some (some v) ∧ RR C H0 H v r
  sep : ∀ (i j : Nat) (a b : Addr) (p q : R), i ≠ j → δ[i]? = some (some p) → δ[j]? = some (some q) → a ∈ p.adr → b ∈ q.adr → a ≠ b
/-- an expression's way -/
structure Go (C : Ctx) (H0 H H0' H' : Hp) : Prop where
  wf : Wf C H0' H'
  fz : Same H0 H0'
  kp : ∀ b o, C.ex ≠ some b → H b = some o → H' b = some o
  nw : ∀ b o, H0' b = some o → H0 b = some o ∨ H b = none
section
variable {C : Ctx} {H0 H H0' H' H0'' H'' : Hp} {σ : L2.St} {δ : Dl} {v : V} {x : PyData}
theorem Go.refl (w : Wf C H0 H) : Go C H0 H H0 H := ⟨w, Same.refl _, fun _ _ _ e => e, fun _ _ e => .inl e⟩
theorem Go.trans (a : Go C H0 H H0' H') (b : Go C H0' H' H0'' H'') : Go C H0 H H0'' H'' := by
  refine ⟨b.wf, a.fz.trans b.fz, fun c o n e => b.kp c o n (a.kp c o n e), fun c o e => ?_⟩
  rcases b.nw c o e with h | h
  · exact a.nw c o h
  · cases q : H c with
    | none => exact .inr rfl
    | some u =>
      by_cases n : C.ex = some c
      · have z := (b.wf.dr c n).no
        rw [e] at z; cases z
      · have := a.kp c u n q
        rw [h] at this; cases this
theorem RR.go {r : R} (h : RR C H0 H v r) (g : Go C H0 H H0' H') : RR C H0' H' v r := by
  cases r with
  | d x => exact Rp.mono g.fz h
  | own a xs =>
    obtain ⟨e, h1, h2, h3, vs, h4, h5⟩ := h
    refine ⟨e, ?_, h2, h3, vs, g.kp a _ h3 h4, h5.mono g.fz⟩
    cases q : H0' a with
    | none => rfl
    | some o =>
      rcases g.nw a o q with z | z
      · rw [h1] at z; cases z
      · rw [h4] at z; cases z
  | drw => exact h
  | raw u => exact h
  | scr ns => obtain ⟨a, e, q⟩ := h; exact ⟨a, e, g.fz.seq q⟩
  | fn F => obtain ⟨a, c, e, q, q2⟩ := h; exact ⟨a, c, e, g.fz _ _ q, g.fz _ _ q2⟩
  | dct a es =>
    obtain ⟨e, h1, h2, h3, vs, h4, h5⟩ := h
    refine ⟨e, ?_, h2, h3, vs, g.kp a _ h3 h4, h5.mono g.fz⟩
    cases q : H0' a with
    | none => rfl
    | some o =>
      rcases g.nw a o q with z | z
      · rw [h1] at z; cases z
      · rw [h4] at z; cases z
  | reg u m =>
    obtain ⟨e, nd, h⟩ := h
    refine ⟨e, nd, fun a c hm => ?_⟩
    obtain ⟨h1, h2, h3, o, h4, h5⟩ := h a c hm
    refine ⟨?_, h2, h3, o, g.kp a _ h3 h4, h5.mono g.fz⟩
    cases q : H0' a with
    | none => rfl
    | some o =>
      rcases g.nw a o q with z | z
      · rw [h1] at z; cases z
      · rw [h4] at z; cases z
theorem adr_reg {u : V} {m : Sto} {a : Addr} (e : a ∈ (R.reg u m).adr) : ∃ c, (a, c) ∈ m := by
  obtain ⟨⟨b, c⟩, h, rfl⟩ := List.mem_map.mp e
  exact ⟨c, h⟩
theorem RR.adr {r : R} {a : Addr} (h : RR C H0 H v r) (e : a ∈ r.adr) : H0 a = none ∧ C.He a = none ∧ C.ex ≠ some a := by
  cases r with
  | own b xs => obtain rfl := List.mem_singleton.mp e; exact ⟨h.2.1, h.2.2.1, h.2.2.2.1⟩
  | dct b es => obtain rfl := List.mem_singleton.mp e; exact ⟨h.2.1, h.2.2.1, h.2.2.2.1⟩
  | reg u m => obtain ⟨c, hc⟩ := adr_reg e; have k := h.2.2 a c hc; exact ⟨k.1, k.2.1, k.2.2.1⟩
  | d x => cases e
  | drw => cases e
  | raw u => cases e
  | scr ns => cases e
  | fn F => cases e
theorem RR.live {r : R} {a : Addr} (h : RR C H0 H v r) (e : a ∈ r.adr) : ∃ o, H a = some o := by
  cases r with
  | own b xs => obtain rfl := List.mem_singleton.mp e; obtain ⟨_, _, _, _, vs, k, _⟩ := h; exact ⟨_, k⟩
  | dct b es => obtain rfl := List.mem_singleton.mp e; obtain ⟨_, _, _, _, vs, k, _⟩ := h; exact ⟨_, k⟩
  | reg u m => obtain ⟨c, hc⟩ := adr_reg e; obtain ⟨o, k, _⟩ := (h.2.2 a c hc).2.2.2; exact ⟨o, k⟩
  | d x => cases e
  | drw => cases e
  | raw u => cases e
  | scr ns => cases e
  | fn F => cases e
/-- what a slot says stays where another address is written -/
theorem RR.upd {r : R} {a : Addr} {o : HO} (h : RR C H0 H v r) (n : ∀ b, b ∈ r.adr → b ≠ a) : RR C H0 (L2.upd H a o) v r := by
  cases r with
  | d x => exact h
  | own b zs =>
    obtain ⟨k1, k2, k3, k4, ws, k5, k6⟩ := h
    exact ⟨k1, k2, k3, k4, ws, by rw [upd_ne (n b (List.mem_singleton.mpr rfl))]; exact k5, k6⟩
  | reg u m =>
    obtain ⟨e, nd, h⟩ := h
    refine ⟨e, nd, fun b c hm => ?_⟩
    obtain ⟨h1, h2, h3, o, h4, h5⟩ := h b c hm
    exact ⟨h1, h2, h3, o, by rw [upd_ne (n b (List.mem_map.mpr ⟨_, hm, rfl⟩))]; exact h4, h5⟩
  | drw => exact h
  | raw u => exact h
  | scr ns => exact h
  | fn F => exact h
  | dct b zs =>
    obtain ⟨k1, k2, k3, k4, ws, k5, k6⟩ := h
    exact ⟨k1, k2, k3, k4, ws, by rw [upd_ne (n b (List.mem_singleton.mpr rfl))]; exact k5, k6⟩
/-- .. and where an address is frozen -/
theorem RR.frz {r : R} {a : Addr} {o : HO} (gr : Same H0 (L2.upd H0 a o)) (h : RR C H0 H v r) (n : ∀ b, b ∈ r.adr → b ≠ a) : RR C (L2.upd H0 a o) H v r := by
  cases r with
  | d x => exact Rp.mono gr h
  | own b zs =>
    obtain ⟨k1, k2, k3, k4, ws, k5, k6⟩ := h
    exact ⟨k1, by rw [upd_ne (n b (List.mem_singleton.mpr rfl))]; exact k2, k3, k4, ws, k5, k6.mono gr⟩
  | reg u m =>
    obtain ⟨e, nd, h⟩ := h
    refine ⟨e, nd, fun b c hm => ?_⟩
    obtain ⟨h1, h2, h3, o, h4, h5⟩ := h b c hm
    exact ⟨by rw [upd_ne (n b (List.mem_map.mpr ⟨_, hm, rfl⟩))]; exact h1, h2, h3, o, h4, h5.mono gr⟩
  | drw => exact h
  | raw u => exact h
  | scr ns => obtain ⟨a', e', q'⟩ := h; exact ⟨a', e', gr.seq q'⟩
  | fn F => obtain ⟨a', c', e', q', q2⟩ := h; exact ⟨a', c', e', gr _ _ q', gr _ _ q2⟩
  | dct b zs =>
    obtain ⟨k1, k2, k3, k4, ws, k5, k6⟩ := h
    exact ⟨k1, by rw [upd_ne (n b (List.mem_singleton.mpr rfl))]; exact k2, k3, k4, ws, k5, k6.mono gr⟩
/-- δ with another slot: what was there before -/
theorem set_at {r p : R} {i j : Nat} (e : (δ.set i (some r))[j]? = some (some p)) : (i = j ∧ p = r) ∨ (i ≠ j ∧ δ[j]? = some (some p)) := by
  by_cases q : i = j
  · subst q
    rw [List.getElem?_set_self'] at e
    cases hd : δ[i]? with
    | none => rw [hd] at e; simp at e
    | some z => rw [hd] at e; simp at e; exact .inl ⟨rfl, e.symm⟩
  · rw [List.getElem?_set_ne q] at e; exact .inr ⟨q, e⟩
theorem St.go (s : St C H0 H σ δ) (g : Go C H0 H H0' H') : St C H0' H' σ δ where
  toWf := g.wf
  len := s.len
  sl := fun i r e => let ⟨v, e1, h⟩ := s.sl i r e; ⟨v, e1, h.go g⟩
  sep := s.sep
theorem St.set_d (s : St C H0 H σ δ) (i : Nat) (h : Rp C.K H0 v x) : St C H0 H (σ.set i (some v)) (δ.set i (some (.d x))) where
  toWf := s.toWf
  len := by rw [List.length_set, List.length_set, s.len]
  sl := fun j r e => by
    by_cases q : i = j
    · subst q
      rw [List.getElem?_set_self'] at e
      cases hd : δ[i]? with
      | none => rw [hd] at e; simp at e
      | some z =>
        rw [hd] at e
        simp at e
        subst e
        have : i < σ.length := by rw [s.len]; exact (List.getElem?_eq_some_iff.mp hd).1
        exact ⟨v, by rw [List.getElem?_set_self this], h⟩
    · rw [List.getElem?_set_ne q] at e
      obtain ⟨u, e1, h1⟩ := s.sl j r e
      exact ⟨u, by rw [List.getElem?_set_ne q]; exact e1, h1⟩
  sep := fun j k a b p q n e1 e2 a1 a2 => by
    rcases set_at e1 with ⟨_, rfl⟩ | ⟨_, e1⟩
    · cases a1
    rcases set_at e2 with ⟨_, rfl⟩ | ⟨_, e2⟩
    · cases a2
    exact s.sep j k a b p q n e1 e2 a1 a2
theorem St.none (s : St C H0 H σ δ) (i : Nat) : St C H0 H (σ.set i none) (δ.set i none) where
  toWf := s.toWf
  len := by rw [List.length_set, List.length_set, s.len]
  sl := fun j r e => by
    by_cases q : i = j
    · subst q
      rw [List.getElem?_set_self'] at e
      cases hd : δ[i]? with
      | none => rw [hd] at e; simp at e
      | some z => rw [hd] at e; simp at e
    · rw [List.getElem?_set_ne q] at e
      obtain ⟨u, e1, h1⟩ := s.sl j r e
      exact ⟨u, by rw [List.getElem?_set_ne q]; exact e1, h1⟩
  sep := fun j k a b p q n e1 e2 a1 a2 => by
    have f : ∀ {j : Nat} {p : R}, (δ.set i (Option.none))[j]? = some (some p) → δ[j]? = some (some p) := fun {j p} e => by
      by_cases q : i = j
      · subst q
        rw [List.getElem?_set_self'] at e
        cases hd : δ[i]? with
        | none => rw [hd] at e; simp at e
        | some z => rw [hd] at e; simp at e
      · rw [List.getElem?_set_ne q] at e; exact e
    exact s.sep j k a b p q n (f e1) (f e2) a1 a2
/-- a new owned object is given to a slot -/
theorem St.set_adr {r : R} {a : Addr} (s : St C H0 H σ δ) (i : Nat) (ea : r.adr = [a]) (hf : ∀ (j : Nat) (p : R) (b : Addr), δ[j]? = some (some p) → b ∈ p.adr → b ≠ a) (hr : RR C H0 H (.ref a) r) :
    St C H0 H (σ.set i (some (.ref a))) (δ.set i (some r)) where
  toWf := s.toWf
  len := by rw [List.length_set, List.length_set, s.len]
  sl := fun j p e => by
    rcases set_at e with ⟨q, rfl⟩ | ⟨q, e⟩
    · subst q
      have hd : i < δ.length := by
        have := (List.getElem?_eq_some_iff.mp e).1
        rwa [List.length_set] at this
      have : i < σ.length := by rw [s.len]; exact hd
      exact ⟨.ref a, by rw [List.getElem?_set_self this], hr⟩
    · obtain ⟨u, e1, h1⟩ := s.sl j p e
      exact ⟨u, by rw [List.getElem?_set_ne q]; exact e1, h1⟩
  sep := fun j k b c p q n e1 e2 a1 a2 => by
    rcases set_at e1 with ⟨q1, rfl⟩ | ⟨q1, z1⟩ <;> rcases set_at e2 with ⟨q2, rfl⟩ | ⟨q2, z2⟩
    · exact absurd (q1.symm.trans q2) n
    · rw [ea] at a1; obtain rfl := List.mem_singleton.mp a1; exact (hf k q c z2 a2).symm
    · rw [ea] at a2; obtain rfl := List.mem_singleton.mp a2; exact hf j p b z1 a1
    · exact s.sep j k b c p q n z1 z2 a1 a2
theorem St.set_own {a : Addr} {vs : List V} {xs : List PyData} (s : St C H0 H σ δ) (i : Nat) (hf : ∀ (j : Nat) (p : R) (b : Addr), δ[j]? = some (some p) → b ∈ p.adr → b ≠ a) (h1 : H0 a = Option.none) (h2 : C.He a = Option.none) (h3 : C.ex ≠ some a) (h4 : H a = some (.lst vs)) (h5 : RpA C.K H0 vs xs) :
    St C H0 H (σ.set i (some (.ref a))) (δ.set i (some (.own a xs))) := s.set_adr i rfl hf ⟨rfl, h1, h2, h3, vs, h4, h5⟩
/-- an address of slot i is written -/
theorem St.put' {a : Addr} {o : HO} {r r' : R} {v : V} (s : St C H0 H σ δ) (i : Nat) (e : δ[i]? = some (some r)) (e1 : σ[i]? = some (some v)) (ea : a ∈ r.adr) (ea' : ∀ b, b ∈ r'.adr → b ∈ r.adr) (hr : RR C H0 (upd H a o) v r') : St C H0 (upd H a o) σ (δ.set i (some r')) := by
  obtain ⟨v', e1', hv⟩ := s.sl i _ e
  obtain ⟨h1, h2, h3⟩ := hv.adr ea
  refine ⟨⟨fun b u q => ?_, fun b u n q => ?_, s.fz, s.nw, fun p q => ?_⟩, by rw [List.length_set, s.len], fun j p q => ?_, fun j k b c p q n q1 q2 a1 a2 => ?_⟩
  · rw [upd_ne (fun z => by rw [z, h1] at q; cases q)]; exact s.sub b u q
  · rw [upd_ne (fun z => by rw [z, h2] at q; cases q)]; exact s.kp b u n q
  · exact (s.dr p q).keep (Same.refl _) (s.dr p q).no (upd_ne (fun z => h3 (by rw [← z]; exact q)))
  · rcases set_at q with ⟨z, rfl⟩ | ⟨z, q⟩
    · subst z
      exact ⟨_, e1, hr⟩
    · obtain ⟨u, f1, f2⟩ := s.sl j p q
      exact ⟨u, f1, f2.upd fun b hb => s.sep j i b a p r (fun z' => z z'.symm) q e hb ea⟩
  · rcases set_at q1 with ⟨z1, y1⟩ | ⟨z1, y1⟩ <;> rcases set_at q2 with ⟨z2, y2⟩ | ⟨z2, y2⟩
    · exact absurd (z1.symm.trans z2) n
    · rw [y1] at a1; exact (s.sep k i c b q r (fun z => z2 z.symm) y2 e a2 (ea' _ a1)).symm
    · rw [y2] at a2; exact s.sep j i b c p r (fun z => z1 z.symm) y1 e a1 (ea' _ a2)
    · exact s.sep j k b c p q n y1 y2 a1 a2
/-- the owned object in slot i is written -/
theorem St.put {a : Addr} {o : HO} {r r' : R} (s : St C H0 H σ δ) (i : Nat) (e : δ[i]? = some (some r)) (hd : ∀ v, RR C H0 H v r → v = .ref a) (ea : r.adr = [a]) (ea' : r'.adr = [a]) (hr : ∀ H', H' a = some o → H0 a = Option.none → C.He a = Option.none → C.ex ≠ some a → RR C H0 H' (.ref a) r') : St C H0 (upd H a o) σ (δ.set i (some r')) := by
  obtain ⟨v, e1, hv⟩ := s.sl i _ e
  have m : a ∈ r.adr := by rw [ea]; exact List.mem_singleton.mpr rfl
  obtain ⟨h1, h2, h3⟩ := hv.adr m
  obtain rfl := hd v hv
  exact s.put' i e e1 m (fun b hb => by rw [ea'] at hb; rw [ea]; exact hb) (hr _ upd_same h1 h2 h3)
theorem St.write {a : Addr} {vs : List V} {xs ys : List PyData} (s : St C H0 H σ δ) (i : Nat) (e : δ[i]? = some (some (.own a ys))) (h5 : RpA C.K H0 vs xs) : St C H0 (upd H a (.lst vs)) σ (δ.set i (some (.own a xs))) :=
  s.put i e (fun _ h => h.1) rfl rfl fun _ h h1 h2 h3 => ⟨rfl, h1, h2, h3, vs, h, h5⟩
/-- an owned object stands still from here on -/
theorem St.frz {a : Addr} {o : HO} {r : R} {x : PyData} (s : St C H0 H σ δ) (i : Nat) (e : δ[i]? = some (some r)) (hd : ∀ v, RR C H0 H v r → v = .ref a) (ea : a ∈ r.adr) (h4 : H a = some o) (hx : Same H0 (upd H0 a o) → Rp C.K (upd H0 a o) (.ref a) x) : ∃ H0', Same H0 H0' ∧ St C H0' H σ (δ.set i (some (.d x))) := by
  obtain ⟨v, e1, hv⟩ := s.sl i _ e
  obtain ⟨h1, h2, h3⟩ := hv.adr ea
  obtain rfl := hd v hv
  have gr : Same H0 (upd H0 a o) := fun b u q => by rw [upd_ne (fun z => by rw [z, h1] at q; cases q)]; exact q
  have w' : Wf C (upd H0 a o) H := by
    refine ⟨fun b u q => ?_, s.kp, s.fz.trans gr, fun b u q => ?_, fun p q => ?_⟩
    · by_cases z : b = a
      · subst z; rw [upd_same] at q; cases q; exact h4
      · rw [upd_ne z] at q; exact s.sub b u q
    · by_cases z : b = a
      · subst z; exact .inr h2
      · rw [upd_ne z] at q; exact s.nw b u q
    · exact (s.dr p q).keep gr (by rw [upd_ne (fun z => h3 (by rw [← z]; exact q))]; exact (s.dr p q).no) rfl
  refine ⟨_, gr, w', by rw [List.length_set, s.len], fun j p q => ?_, fun j k b c p q n q1 q2 a1 a2 => ?_⟩
  · rcases set_at q with ⟨z, rfl⟩ | ⟨z, q⟩
    · subst z
      exact ⟨_, e1, hx gr⟩
    · obtain ⟨u, f1, f2⟩ := s.sl j p q
      exact ⟨u, f1, f2.frz gr fun b hb => s.sep j i b a p r (fun z' => z z'.symm) q e hb ea⟩
  · rcases set_at q1 with ⟨_, rfl⟩ | ⟨_, q1⟩
    · cases a1
    rcases set_at q2 with ⟨_, rfl⟩ | ⟨_, q2⟩
    · cases a2
    exact s.sep j k b c p q n q1 q2 a1 a2
theorem St.freeze {a : Addr} {xs : List PyData} (s : St C H0 H σ δ) (i : Nat) (e : δ[i]? = some (some (.own a xs))) : ∃ H0', Same H0 H0' ∧ St C H0' H σ (δ.set i (some (.d (.list xs)))) := by
  obtain ⟨v, e1, rfl, h1, h2, h3, us, h4, h6⟩ := s.sl i _ e
  exact s.frz i e (fun _ h => h.1) (List.mem_singleton.mpr rfl) h4 fun gr => .lst upd_same (h6.mono gr)
/-- .. as another object -/
theorem St.frzU {a : Addr} {o : HO} {r : R} {x : PyData} (s : St C H0 H σ δ) (i : Nat) (e : δ[i]? = some (some r)) (hd : ∀ v, RR C H0 H v r → v = .ref a) (ea : a ∈ r.adr) (hx : Same H0 (upd H0 a o) → Rp C.K (upd H0 a o) (.ref a) x) : Same H0 (upd H0 a o) ∧ St C (upd H0 a o) (upd H a o) σ (δ.set i (some (.d x))) := by
  obtain ⟨v, e1, hv⟩ := s.sl i _ e
  obtain ⟨h1, h2, h3⟩ := hv.adr ea
  obtain rfl := hd v hv
  have gr : Same H0 (upd H0 a o) := fun b u q => by rw [upd_ne (fun z => by rw [z, h1] at q; cases q)]; exact q
  have w' : Wf C (upd H0 a o) (upd H a o) := by
    refine ⟨fun b u q => ?_, fun b u n q => ?_, s.fz.trans gr, fun b u q => ?_, fun p q => ?_⟩
    · by_cases z : b = a
      · subst z; rw [upd_same] at q ⊢; exact q
      · rw [upd_ne z] at q ⊢; exact s.sub b u q
    · rw [upd_ne (fun z => by rw [z, h2] at q; cases q)]; exact s.kp b u n q
    · by_cases z : b = a
      · subst z; exact .inr h2
      · rw [upd_ne z] at q; exact s.nw b u q
    · have np : p ≠ a := fun z => h3 (by rw [← z]; exact q)
      exact (s.dr p q).keep gr (by rw [upd_ne np]; exact (s.dr p q).no) (upd_ne np)
  refine ⟨gr, w', by rw [List.length_set, s.len], fun j p q => ?_, fun j k b c p q n q1 q2 a1 a2 => ?_⟩
  · rcases set_at q with ⟨z, rfl⟩ | ⟨z, q⟩
    · subst z
      exact ⟨_, e1, hx gr⟩
    · obtain ⟨u, f1, f2⟩ := s.sl j p q
      have nb : ∀ b, b ∈ p.adr → b ≠ a := fun b hb => s.sep j i b a p r (fun z' => z z'.symm) q e hb ea
      exact ⟨u, f1, (f2.upd nb).frz gr nb⟩
  · rcases set_at q1 with ⟨_, rfl⟩ | ⟨_, q1⟩
    · cases a1
    rcases set_at q2 with ⟨_, rfl⟩ | ⟨_, q2⟩
    · cases a2
    exact s.sep j k b c p q n q1 q2 a1 a2
end

/-! ### what a reading of the hand layer asks, by data -/
abbrev DE := Dl → (PyData → Prop) → Prop
abbrev DT := Dl → (Bool → Prop) → Prop
abbrev DA := Dl → (List PyData → Prop) → Prop
abbrev DR := Dl → (List R → Prop) → Prop
abbrev DO := Dl → (List PyData → Prop) → Prop
def hid (C : Ctx) (H : Hp) : Hp := fun b => if C.ex = some b then none else H b
def loc (C : Ctx) (f : Bool) (H0 H : Hp) : Hp := match f with
  | true => H0
  | false => hid C H
section
variable {C : Ctx} {H0 H H0' H' H0'' H'' : Hp} {σ : L2.St} {δ : Dl} {v : V} {x : PyData} {f g : Bool}
theorem hid_sub (C : Ctx) (H : Hp) : Same (hid C H) H := fun b o e => by
  unfold hid at e
  split at e
  · cases e
  · exact e
theorem hid_of {a : Addr} {o : HO} (h : H a = some o) (n : C.ex ≠ some a) : hid C H a = some o := by
  unfold hid
  rw [if_neg n]
  exact h
theorem Wf.hid (w : Wf C H0 H) : Same H0 (hid C H) := fun b o e => by
  refine hid_of (w.sub b o e) fun z => ?_
  have q := (w.dr b z).no
  rw [e] at q; cases q
theorem Wf.loc (w : Wf C H0 H) : Same (loc C f H0 H) H := by
  cases f with
  | true => exact w.sub
  | false => exact hid_sub C H
theorem Wf.to (w : Wf C H0 H) : Same H0 (VL.loc C f H0 H) := by
  cases f with
  | true => exact Same.refl _
  | false => exact w.hid
theorem Go.loc (q : Go C H0 H H0' H') : Same (loc C f H0 H) (loc C f H0' H') := by
  cases f with
  | true => exact q.fz
  | false =>
    intro b o e
    show VL.hid C H' b = some o
    have e : VL.hid C H b = some o := e
    unfold VL.hid at e
    split at e
    · cases e
    · rename_i n
      exact hid_of (q.kp b o n e) n
/-- a new frozen object -/
theorem Go.new {p : Addr} {o : HO} (w : Wf C H0 H) (hp : H p = none) : Go C H0 H (upd H0 p o) (upd H p o) := by
  have h0 : H0 p = none := by
    cases q : H0 p with
    | none => rfl
    | some u => rw [w.sub p u q] at hp; cases hp
  have gr : Same H0 (upd H0 p o) := fun b u q => by rw [upd_ne (fun z => by rw [z, h0] at q; cases q)]; exact q
  refine ⟨⟨fun b u q => ?_, fun b u n q => ?_, w.fz.trans gr, fun b u q => ?_, fun c q => ?_⟩, gr, fun b u n q => ?_, fun b u q => ?_⟩
  · by_cases z : b = p
    · subst z; rw [upd_same] at q ⊢; exact q
    · rw [upd_ne z] at q ⊢; exact w.sub b u q
  · have e := w.kp b u n q
    rw [upd_ne (fun z => by rw [z, hp] at e; cases e)]; exact e
  · by_cases z : b = p
    · subst z
      cases hq : C.He b with
      | none => exact .inr rfl
      | some y =>
        by_cases n : C.ex = some b
        · obtain ⟨_, g1⟩ := (w.dr b n).live
          rw [hp] at g1; cases g1
        · rw [w.kp b y n hq] at hp; cases hp
    · rw [upd_ne z] at q; exact w.nw b u q
  · obtain ⟨_, g1⟩ := (w.dr c q).live
    have nc : c ≠ p := fun z => by rw [z, hp] at g1; cases g1
    exact (w.dr c q).keep gr (by rw [upd_ne nc]; exact (w.dr c q).no) (upd_ne nc)
  · rw [upd_ne (fun z => by rw [z, hp] at q; cases q)]; exact q
  · by_cases z : b = p
    · subst z; exact .inr hp
    · rw [upd_ne z] at q; exact .inl q
/-- a new object that is not frozen -/
theorem Go.free {p : Addr} {o : HO} (w : Wf C H0 H) (hp : H p = none) : Go C H0 H H0 (upd H p o) := by
  have h0 : H0 p = none := by
    cases q : H0 p with
    | none => rfl
    | some u => rw [w.sub p u q] at hp; cases hp
  refine ⟨⟨fun b u q => ?_, fun b u n q => ?_, w.fz, w.nw, fun c q => ?_⟩, Same.refl _, fun b u n q => ?_, fun b u q => .inl q⟩
  · rw [upd_ne (fun z => by rw [z, h0] at q; cases q)]; exact w.sub b u q
  · have e := w.kp b u n q
    rw [upd_ne (fun z => by rw [z, hp] at e; cases e)]; exact e
  · obtain ⟨_, g1⟩ := (w.dr c q).live
    have nc : c ≠ p := fun z => by rw [z, hp] at g1; cases g1
    exact (w.dr c q).keep (Same.refl _) (w.dr c q).no (upd_ne nc)
  · rw [upd_ne (fun z => by rw [z, hp] at q; cases q)]; exact q

def Sm (C : Ctx) (f : Bool) (te : TE) (de : DE) : Prop := ∀ (σ : L2.St) (δ : Dl) (H0 H : Hp) (Φ : PyData → Prop) (Q : VK), St C H0 H σ δ → de δ Φ →
  (∀ H0' H' v x, Go C H0 H H0' H' → Rp C.K (loc C f H0' H') v x → Φ x → Q v H') → te σ H Q
def SmT (C : Ctx) (tt : TT) (dt : DT) : Prop := ∀ (σ : L2.St) (δ : Dl) (H0 H : Hp) (Φ : Bool → Prop) (Q : Bool → Hp → Prop), St C H0 H σ δ → dt δ Φ →
  (∀ H0' H' b, Go C H0 H H0' H' → Φ b → Q b H') → tt σ H Q
def SmA (C : Ctx) (f : Bool) (ta : TA) (da : DA) : Prop := ∀ (σ : L2.St) (δ : Dl) (H0 H : Hp) (Φ : List PyData → Prop) (Q : List V → Hp → Prop), St C H0 H σ δ → da δ Φ →
  (∀ H0' H' vs xs, Go C H0 H H0' H' → RpA C.K (loc C f H0' H') vs xs → Φ xs → Q vs H') → ta σ H Q
inductive RRs (C : Ctx) (H0 H : Hp) : List V → List R → Prop
  | nil : RRs C H0 H [] []
  | cons {v : V} {r : R} {vs : List V} {rs : List R} : RR C H0 H v r → RRs C H0 H vs rs → RRs C H0 H (v :: vs) (r :: rs)
theorem RRs.go : ∀ {vs : List V} {rs : List R}, RRs C H0 H vs rs → Go C H0 H H0' H' → RRs C H0' H' vs rs
  | _, _, .nil, _ => .nil
  | _, _, .cons h r, g => .cons (h.go g) (RRs.go r g)
theorem RRs.length : ∀ {vs : List V} {rs : List R}, RRs C H0 H vs rs → vs.length = rs.length
  | _, _, .nil => rfl
  | _, _, .cons _ r => by rw [List.length_cons, List.length_cons, RRs.length r]
def SmR (C : Ctx) (ta : TA) (da : DR) : Prop := ∀ (σ : L2.St) (δ : Dl) (H0 H : Hp) (Φ : List R → Prop) (Q : List V → Hp → Prop), St C H0 H σ δ → da δ Φ →
  (∀ H0' H' vs rs, Go C H0 H H0' H' → RRs C H0' H' vs rs → Φ rs → Q vs H') → ta σ H Q
/-- a new list, not frozen yet -/
def SmO (C : Ctx) (te : TE) (de : DO) : Prop := ∀ (σ : L2.St) (δ : Dl) (H0 H : Hp) (Φ : List PyData → Prop) (Q : VK), St C H0 H σ δ → de δ Φ →
  (∀ H0' H' a vs xs, Go C H0 H H0' H' → H a = none → H0' a = none → H' a = some (.lst vs) → RpA C.K H0' vs xs → Φ xs → Q (.ref a) H') → te σ H Q
theorem Go.he {a : Addr} (w : Wf C H0 H) (hp : H a = none) : C.He a = none ∧ C.ex ≠ some a := by
  have n : C.ex ≠ some a := fun z => by
    obtain ⟨_, g1⟩ := (w.dr a z).live
    rw [hp] at g1; cases g1
  refine ⟨?_, n⟩
  cases hq : C.He a with
  | none => rfl
  | some y => rw [w.kp a y n hq] at hp; cases hp
/-- .. is frozen -/
theorem Go.frz {a : Addr} {vs : List V} (w : Wf C H0 H) (q : Go C H0 H H0' H') (hp : H a = none) (h0 : H0' a = none) (h : H' a = some (.lst vs)) : Go C H0 H (upd H0' a (.lst vs)) H' := by
  have gr : Same H0' (upd H0' a (.lst vs)) := fun b u e => by rw [upd_ne (fun z => by rw [z, h0] at e; cases e)]; exact e
  obtain ⟨he, n⟩ := Go.he w hp
  refine ⟨⟨fun b u e => ?_, q.wf.kp, q.wf.fz.trans gr, fun b u e => ?_, fun c e => ?_⟩, q.fz.trans gr, q.kp, fun b u e => ?_⟩
  · by_cases z : b = a
    · subst z; rw [upd_same] at e; cases e; exact h
    · rw [upd_ne z] at e; exact q.wf.sub b u e
  · by_cases z : b = a
    · subst z; exact .inr he
    · rw [upd_ne z] at e; exact q.wf.nw b u e
  · exact (q.wf.dr c e).keep gr (by rw [upd_ne (fun z => n (by rw [← z]; exact e))]; exact (q.wf.dr c e).no) rfl
  · by_cases z : b = a
    · subst z; exact .inr hp
    · rw [upd_ne z] at e; exact q.nw b u e

/-! ### expressions -/
variable {te ta tb tc : TE} {de da db dc : DE} {tt tu : TT} {dt du : DT} {tas : TA} {das : DA} {f1 f2 : Bool}
theorem Sm.fz (h : Sm C true te de) : Sm C f te de := fun σ δ H0 H Φ Q s w q => h σ δ H0 H Φ Q s w fun H0' H' v x g r p => q H0' H' v x g (r.mono g.wf.to) p
theorem SmA.fz (h : SmA C true tas das) : SmA C f tas das := fun σ δ H0 H Φ Q s w q => h σ δ H0 H Φ Q s w fun H0' H' v x g r p => q H0' H' v x g (r.mono g.wf.to) p
@[simp] def dVar (i : Nat) : DE := fun δ Φ => ∃ x, δ[i]? = some (some (.d x)) ∧ Φ x
theorem sm_var (i : Nat) : Sm C f (tVar i) (dVar i) := fun σ δ H0 H Φ Q s ⟨x, e, p⟩ q => by
  obtain ⟨v, e1, h⟩ := s.sl i _ e
  exact ⟨v, e1, q H0 H v x (.refl s.toWf) (Rp.mono s.toWf.to h) p⟩
/-- an owned list, looked at -/
@[simp] def dVarO (i : Nat) : DE := fun δ Φ => ∃ a xs, δ[i]? = some (some (.own a xs)) ∧ Φ (.list xs)
theorem sm_varO (i : Nat) : Sm C false (tVar i) (dVarO i) := fun σ δ H0 H Φ Q s ⟨a, xs, e, p⟩ q => by
  obtain ⟨v, e1, rfl, h1, h2, h3, vs, h4, h5⟩ := s.sl i _ e
  exact ⟨_, e1, q H0 H _ _ (.refl s.toWf) (.lst (hid_of h4 h3) (h5.mono s.toWf.hid)) p⟩
@[simp] def dC (x : PyData) : DE := fun _ Φ => Φ x
theorem sm_int (i : Int) : Sm C f (tC (.int i)) (dC (.int i)) := fun σ δ H0 H Φ Q s p q => q H0 H _ _ (.refl s.toWf) (.int i) p
theorem sm_bl (i : Bool) : Sm C f (tC (.bl i)) (dC (.bool i)) := fun σ δ H0 H Φ Q s p q => q H0 H _ _ (.refl s.toWf) (.bl i) p
theorem sm_str (i : Str) : Sm C f (tC (.str i)) (dC (.str i)) := fun σ δ H0 H Φ Q s p q => q H0 H _ _ (.refl s.toWf) (.str i) p
theorem sm_non : Sm C f (tC .non) (dC .none) := fun σ δ H0 H Φ Q s p q => q H0 H _ _ (.refl s.toWf) .non p
/-- an operation on two values whose answer is scalar and that leaves the heap -/
def OpD (C : Ctx) (r : R2) (g : PyData → PyData → (PyData → Prop) → Prop) : Prop := ∀ (H : Hp) (v u : V) (x y : PyData) (Φ : PyData → Prop) (Q : VK), Rp C.K H v x → Rp C.K H u y → g x y Φ → (∀ w z, (∀ H, Rp C.K H w z) → Φ z → Q w H) → r v u H Q
@[simp] def dOp (g : PyData → PyData → (PyData → Prop) → Prop) (da db : DE) : DE := fun δ Φ => da δ fun x => db δ fun y => g x y Φ
theorem sm_op {r : R2} {g : PyData → PyData → (PyData → Prop) → Prop} (hr : OpD C r g) (ha : Sm C f1 ta da) (hb : Sm C f2 tb db) : Sm C f (tOp r ta tb) (dOp g da db) := fun σ δ H0 H Φ Q s w q =>
  ha σ δ H0 H _ _ s w fun H01 H1 v x g1 r1 w1 => hb σ δ H01 H1 _ _ (s.go g1) w1 fun H02 H2 u y g2 r2 w2 =>
    hr H2 v u x y Φ Q ((r1.mono g2.loc).mono g2.wf.loc) (r2.mono g2.wf.loc) w2 fun w' z hz p => q H02 H2 w' z (g1.trans g2) (hz _) p
def isScalV : V → Option PyData
  | .non => some .none
  | .bl b => some (.bool b)
  | .int i => some (.int i)
  | .str s => some (.str s)
  | _ => none
theorem isScal_rp {K : PySem.W.Frag} {v : V} {x : PyData} (h : isScalV v = some x) (H : Hp) : Rp K H v x := by
  cases v <;> simp [isScalV] at h <;> subst h <;> constructor
@[simp] def gI0 (g : Int → Int → PyData) : PyData → PyData → (PyData → Prop) → Prop := fun x y Φ => ∃ i j, x = .int i ∧ y = .int j ∧ Φ (g i j)
@[simp] def gI (c : Int → Int → Prop) (g : Int → Int → PyData) : PyData → PyData → (PyData → Prop) → Prop := fun x y Φ => ∃ i j, x = .int i ∧ y = .int j ∧ c i j ∧ Φ (g i j)
theorem opd_I0 {g : Int → Int → V} {g' : Int → Int → PyData} (h : ∀ i j, isScalV (g i j) = some (g' i j)) : OpD C (rI0 g) (gI0 g') := fun H v u x y Φ Q rv ru ⟨i, j, e1, e2, p⟩ q => by
  subst e1 e2
  cases rv
  cases ru
  exact ⟨i, j, rfl, rfl, q _ _ (isScal_rp (h i j)) p⟩
theorem opd_I {c : Int → Int → Prop} {g : Int → Int → V} {g' : Int → Int → PyData} (h : ∀ i j, isScalV (g i j) = some (g' i j)) : OpD C (rI c g) (gI c g') := fun H v u x y Φ Q rv ru ⟨i, j, e1, e2, e3, p⟩ q => by
  subst e1 e2
  cases rv
  cases ru
  exact ⟨i, j, rfl, rfl, e3, q _ _ (isScal_rp (h i j)) p⟩
@[simp] def toV : PyData → Option V
  | .none => some .non
  | .bool b => some (.bl b)
  | .int i => some (.int i)
  | .str s => some (.str s)
  | _ => none
theorem toV_rp {K : PySem.W.Frag} {H : Hp} {v w : V} {x : PyData} (h : Rp K H v x) (e : toV x = some w) : v = w := by
  cases h <;> simp [toV] at e <;> subst e <;> rfl
@[simp] def gEq (neg : Bool) : PyData → PyData → (PyData → Prop) → Prop := fun x y Φ => ∃ v u, toV x = some v ∧ toV y = some u ∧ scal v u = true ∧ Φ (.bool (if neg then !decide (v = u) else decide (v = u)))
theorem opd_eq : OpD C rEq (gEq false) := fun H v u x y Φ Q rv ru ⟨v', u', e1, e2, e3, p⟩ q => by
  have a := toV_rp rv e1
  have b := toV_rp ru e2
  subst a b
  exact ⟨e3, q _ _ (fun _ => .bl _) p⟩
theorem opd_ne : OpD C rNe (gEq true) := fun H v u x y Φ Q rv ru ⟨v', u', e1, e2, e3, p⟩ q => by
  have a := toV_rp rv e1
  have b := toV_rp ru e2
  subst a b
  exact ⟨e3, q _ _ (fun _ => .bl _) p⟩
@[simp] def gEqD (neg : Bool) : PyData → PyData → (PyData → Prop) → Prop := fun x y Φ => SeqAt.shaped x = true ∧ SeqAt.shaped y = true ∧ Φ (.bool (if neg then !PyData.eqv x y else PyData.eqv x y))
theorem opd_eqD : OpD C (rEqD C.K) (gEqD false) := fun H v u x y Φ Q rv ru ⟨e1, e2, p⟩ q =>
  ⟨x, y, rv.dp (SeqAt.canLay_of_shaped e1), ru.dp (SeqAt.canLay_of_shaped e2), e1, e2, q _ _ (fun _ => .bl _) p⟩
theorem opd_neD : OpD C (rNeD C.K) (gEqD true) := fun H v u x y Φ Q rv ru ⟨e1, e2, p⟩ q =>
  ⟨x, y, rv.dp (SeqAt.canLay_of_shaped e1), ru.dp (SeqAt.canLay_of_shaped e2), e1, e2, q _ _ (fun _ => .bl _) p⟩
@[simp] def isN : PyData → Bool
  | .none => true
  | _ => false
@[simp] def gIsN (neg : Bool) : PyData → PyData → (PyData → Prop) → Prop := fun x y Φ => y = .none ∧ Φ (.bool (if neg then !isN x else isN x))
theorem isN_rp {K : PySem.W.Frag} {H : Hp} {v : V} {x : PyData} (h : Rp K H v x) : decide (v = .non) = isN x := by
  cases h <;> simp [isN]
theorem opd_isN : OpD C (fun x y H Q => y = .non ∧ Q (.bl (decide (x = .non))) H) (gIsN false) := fun H v u x y Φ Q rv ru ⟨e1, p⟩ q => by
  subst e1
  cases ru
  rw [isN_rp rv]
  exact ⟨rfl, q _ _ (fun _ => .bl _) p⟩
theorem opd_notN : OpD C (fun x y H Q => y = .non ∧ Q (.bl (!decide (x = .non))) H) (gIsN true) := fun H v u x y Φ Q rv ru ⟨e1, p⟩ q => by
  subst e1
  cases ru
  rw [isN_rp rv]
  exact ⟨rfl, q _ _ (fun _ => .bl _) p⟩
@[simp] def flatD : PyData → Bool
  | .none => true
  | .bool _ => true
  | .int _ => true
  | .str _ => true
  | _ => false
theorem flat_rp {K : PySem.W.Frag} {H : Hp} {v : V} {x : PyData} (h : Rp K H v x) : flatV v = flatD x := by
  cases h <;> rfl
theorem flats_rp {K : PySem.W.Frag} {H : Hp} : ∀ {vs : List V} {xs : List PyData}, RpA K H vs xs → vs.all flatV = xs.all flatD
  | _, _, .nil => rfl
  | _, _, .cons h r => by rw [List.all_cons, List.all_cons, flat_rp h, flats_rp r]
theorem eqV_rp {K : PySem.W.Frag} {H : Hp} {v u : V} {x y : PyData} (h : Rp K H v x) (k : Rp K H u y) (fx : flatD x = true) (fy : flatD y = true) : eqV v u = PyData.eqv x y := by
  cases h <;> cases k <;> simp [flatD] at fx fy <;> simp [eqV, PyData.eqv]
def inD (x : PyData) (xs : List PyData) : Bool := xs.any fun y => PyData.eqv y x
theorem inV_rp {K : PySem.W.Frag} {H : Hp} {v : V} {x : PyData} (h : Rp K H v x) (fx : flatD x = true) : ∀ {vs : List V} {xs : List PyData}, RpA K H vs xs → xs.all flatD = true → inV v vs = inD x xs
  | _, _, .nil, _ => rfl
  | _, _, .cons k r, e => by
    rw [List.all_cons, Bool.and_eq_true] at e
    have ih := inV_rp h fx r e.2
    unfold inV inD at *
    rw [List.any_cons, List.any_cons, eqV_rp k h e.1 fx, ih]
@[simp] def seqOf : PyData → Option (List PyData)
  | .list xs => some xs
  | .tuple xs => some xs
  | _ => none
@[simp] def gIn (neg : Bool) : PyData → PyData → (PyData → Prop) → Prop := fun x y Φ => ∃ xs, seqOf y = some xs ∧ flatD x = true ∧ xs.all flatD = true ∧ Φ (.bool (if neg then !inD x xs else inD x xs))
theorem opd_in (neg : Bool) : OpD C (rIn C.K neg) (gIn neg) := fun H v u x y Φ Q rv ru ⟨xs, e1, e2, e3, p⟩ q => by
  cases ru with
  | lst h r =>
    simp [seqOf] at e1
    subst e1
    exact ⟨_, _, rfl, .inl (SqL.of h), by rw [flat_rp rv, e2], by rw [flats_rp r, e3], by rw [inV_rp rv e2 r e3]; exact q _ _ (fun _ => .bl _) p⟩
  | tup h r =>
    simp [seqOf] at e1
    subst e1
    exact ⟨_, _, rfl, .inr h, by rw [flat_rp rv, e2], by rw [flats_rp r, e3], by rw [inV_rp rv e2 r e3]; exact q _ _ (fun _ => .bl _) p⟩
  | _ => simp [seqOf] at e1
/-- a text added to a text -/
def gCatS : PyData → PyData → (PyData → Prop) → Prop := fun x y Φ => ∃ a b, x = .str a ∧ y = .str b ∧ a.length + b.length ≤ sizeLine ∧ Φ (.str (a ++ b))
/-- an item -/
theorem atI_rp {K : PySem.W.Frag} {H : Hp} {vs : List V} {xs : List PyData} {i : Int} {y : PyData} (r : RpA K H vs xs) (e : atI xs i = some y) : ∃ v, atI vs i = some v ∧ Rp K H v y := by
  unfold atI at e ⊢
  rw [r.length]
  cases h : ixN xs.length i with
  | none => rw [h] at e; simp at e
  | some j =>
    rw [h] at e
    exact r.get e
@[simp] def gIx : PyData → PyData → (PyData → Prop) → Prop := fun x y Φ => ∃ i, y = .int i ∧ match x with
  | .list xs => ∃ z, atI xs i = some z ∧ Φ z
  | .tuple xs => ∃ z, atI xs i = some z ∧ Φ z
  | .str s => s.length ≤ sizeLine ∧ ∃ c, atI s.cps.toList i = some c ∧ Φ (.str ⟨#[c]⟩)
  | _ => False
theorem sm_ix (ha : Sm C f ta da) (hb : Sm C f2 tb db) : Sm C f (tOp (rIx C.K) ta tb) (dOp gIx da db) := fun σ δ H0 H Φ Q s w q =>
  ha σ δ H0 H _ _ s w fun H01 H1 v x g1 r1 w1 => hb σ δ H01 H1 _ _ (s.go g1) w1 fun H02 H2 u y g2 r2 w2 => by
    obtain ⟨i, rfl, w2⟩ := w2
    cases r2
    have r3 := r1.mono g2.loc
    cases r3 with
    | lst h r =>
      obtain ⟨z, e, p⟩ := w2
      obtain ⟨v, e1, rv⟩ := atI_rp r e
      exact .inl ⟨_, _, i, v, rfl, rfl, SqL.of (g2.wf.loc _ _ h), e1, q H02 H2 v z (g1.trans g2) rv p⟩
    | tup h r =>
      obtain ⟨z, e, p⟩ := w2
      obtain ⟨v, e1, rv⟩ := atI_rp r e
      exact .inr (.inl ⟨_, _, i, v, rfl, rfl, same_t g2.wf.loc h, e1, q H02 H2 v z (g1.trans g2) rv p⟩)
    | str t =>
      obtain ⟨e0, c, e, p⟩ := w2
      exact .inr (.inr ⟨t, i, c, rfl, rfl, e0, e, q H02 H2 _ _ (g1.trans g2) (.str _) p⟩)
    | _ => exact w2.elim
@[simp] def dUn (g : Int → PyData) (da : DE) : DE := fun δ Φ => da δ fun x => ∃ i, x = .int i ∧ Φ (g i)
theorem sm_un {g : Int → V} {g' : Int → PyData} (h : ∀ i, isScalV (g i) = some (g' i)) (ha : Sm C f1 ta da) : Sm C f (tUn (rU g) ta) (dUn g' da) := fun σ δ H0 H Φ Q s w q =>
  ha σ δ H0 H _ _ s w fun H01 H1 v x g1 r1 ⟨i, e, p⟩ => by
    subst e
    cases r1
    exact ⟨i, rfl, q H01 H1 _ _ g1 (isScal_rp (h i) _) p⟩

/-! ### argument lists, displays, calls -/
@[simp] def dNil : DA := fun _ Φ => Φ []
@[simp] def dCons (da : DE) (ds : DA) : DA := fun δ Φ => da δ fun x => ds δ fun xs => Φ (x :: xs)
theorem sma_nil : SmA C f tNil dNil := fun σ δ H0 H Φ Q s w q => q H0 H _ _ (.refl s.toWf) .nil w
theorem sma_cons (ha : Sm C f ta da) (hb : SmA C f tas das) : SmA C f (tCons ta tas) (dCons da das) := fun σ δ H0 H Φ Q s w q =>
  ha σ δ H0 H _ _ s w fun H01 H1 v x g1 r1 w1 => hb σ δ H01 H1 _ _ (s.go g1) w1 fun H02 H2 us ys g2 r2 w2 =>
    q H02 H2 _ _ (g1.trans g2) (.cons (r1.mono g2.loc) r2) w2
@[simp] def dTup (ds : DA) : DE := fun δ Φ => ds δ fun xs => xs.length ≤ sizeLine ∧ Φ (.tuple xs)
theorem Go.same_new {p : Addr} {o : HO} (h0 : H0 p = none) : Same H0 (upd H0 p o) := fun b u q => by rw [upd_ne (fun z => by rw [z, h0] at q; cases q)]; exact q
theorem Wf.none (w : Wf C H0 H) {p : Addr} (hp : H p = Option.none) : H0 p = Option.none := by
  cases q : H0 p with
  | none => rfl
  | some u => rw [w.sub p u q] at hp; cases hp
theorem sm_tup (ha : SmA C true tas das) : Sm C f (tTup tas) (dTup das) := fun σ δ H0 H Φ Q s w q =>
  ha σ δ H0 H _ _ s w fun H01 H1 vs xs g1 r1 ⟨e, p⟩ => ⟨by rw [r1.length]; exact e, fun l hl => by
    have g2 := Go.new (o := .tup vs) g1.wf hl
    refine q _ _ _ _ (g1.trans g2) ?_ p
    exact Rp.mono g2.wf.to (.tup (SqT.of upd_same) (r1.mono (Go.same_new (g1.wf.none hl))))⟩
@[simp] def oLst (ds : DA) : DO := fun δ Φ => ds δ fun xs => xs.length ≤ sizeLine ∧ Φ xs
theorem smo_lst (ha : SmA C true tas das) : SmO C (tLst tas) (oLst das) := fun σ δ H0 H Φ Q s w q =>
  ha σ δ H0 H _ _ s w fun H01 H1 vs xs g1 r1 ⟨e, p⟩ => ⟨by rw [r1.length]; exact e, fun l hl => by
    have g2 := Go.free (o := .lst vs) g1.wf hl
    refine q _ _ l vs xs (g1.trans g2) ?_ (g1.wf.none hl) upd_same r1 p
    cases z : H l with
    | none => rfl
    | some u =>
      by_cases n : C.ex = some l
      · obtain ⟨_, k1⟩ := (g1.wf.dr l n).live
        rw [hl] at k1; cases k1
      · rw [g1.kp l u n z] at hl; cases hl⟩
/-- a new list as data -/
@[simp] def dO (o : DO) : DE := fun δ Φ => o δ fun xs => Φ (.list xs)
theorem SmO.sm {o : DO} (h : SmO C te o) : Sm C f te (dO o) := fun σ δ H0 H Φ Q s w q =>
  h σ δ H0 H _ _ s w fun H01 H1 a vs xs g1 e1 e2 e3 r p => by
    have g2 := Go.frz s.toWf g1 e1 e2 e3
    refine q _ _ _ _ g2 (Rp.mono g2.wf.to ?_) p
    exact .lst upd_same (r.mono (Go.same_new e2))
/-- a new list, its elements from others -/
@[simp] def oCat (da db : DE) : DO := fun δ Φ => da δ fun x => db δ fun y => ∃ xs ys, x = .list xs ∧ y = .list ys ∧ xs.length + ys.length ≤ sizeLine ∧ Φ (xs ++ ys)
theorem Go.fresh {p : Addr} (g : Go C H0 H H0' H') (hp : H' p = none) : H p = none := by
  cases z : H p with
  | none => rfl
  | some u =>
    by_cases n : C.ex = some p
    · obtain ⟨_, k1⟩ := (g.wf.dr p n).live
      rw [hp] at k1; cases k1
    · rw [g.kp p u n z] at hp; cases hp
theorem smo_cat (ha : Sm C true ta da) (hb : Sm C true tb db) : SmO C (tOp rCat ta tb) (oCat da db) := fun σ δ H0 H Φ Q s w q =>
  ha σ δ H0 H _ _ s w fun H01 H1 v x g1 r1 w1 => hb σ δ H01 H1 _ _ (s.go g1) w1 fun H02 H2 u y g2 r2 ⟨xs, ys, e1, e2, e3, p⟩ => by
    subst e1 e2
    have r3 := r1.mono g2.fz
    cases r3 with
    | @lst a1 us1 _ h r =>
      cases r2 with
      | @lst a2 us2 _ h' r' =>
        refine ⟨_, _, _, _, rfl, rfl, g2.wf.sub _ _ h, g2.wf.sub _ _ h', by rw [r.length, r'.length]; exact e3, fun l hl => ?_⟩
        have g3 := Go.free (o := .lst (us1 ++ us2)) g2.wf hl
        exact q _ _ l _ _ ((g1.trans g2).trans g3) ((g1.trans g2).fresh hl) (g2.wf.none hl) upd_same (r.append r') p
@[simp] def oList (da : DE) : DO := fun δ Φ => da δ fun x => ∃ xs, seqOf x = some xs ∧ Φ xs
theorem smo_list (ha : Sm C true ta da) : SmO C (tCB (fun xs H Q => ∃ p ys, xs = [.ref p] ∧ (SqL C.K H p ys ∨ SqT C.K H p ys) ∧ ∀ l, H l = none → Q (.ref l) (upd H l (.lst ys))) (tCons ta tNil)) (oList da) := fun σ δ H0 H Φ Q s w q =>
  ha σ δ H0 H _ _ s w fun H01 H1 v x g1 r1 ⟨xs, e, p⟩ => by
    cases r1 with
    | lst h r =>
      simp [seqOf] at e
      subst e
      exact ⟨_, _, rfl, .inl (SqL.of (g1.wf.sub _ _ h)), fun l hl => q _ _ l _ _ (g1.trans (Go.free (o := .lst _) g1.wf hl)) (g1.fresh hl) (g1.wf.none hl) upd_same r p⟩
    | tup h r =>
      simp [seqOf] at e
      subst e
      exact ⟨_, _, rfl, .inr (same_t g1.wf.sub h), fun l hl => q _ _ l _ _ (g1.trans (Go.free (o := .lst _) g1.wf hl)) (g1.fresh hl) (g1.wf.none hl) upd_same r p⟩
    | _ => simp [seqOf] at e
/-- tuple(x) -/
@[simp] def dTuple (da : DE) : DE := fun δ Φ => da δ fun x => ∃ xs, seqOf x = some xs ∧ Φ (.tuple xs)
/-- the elements of a list that is looked at, kept in the frozen part -/
theorem sm_tuple (ha : Sm C true ta da) : Sm C f (tCB (fun xs H Q => ∃ p ys, xs = [.ref p] ∧ ((SqL C.K H p ys ∧ ∀ l, H l = none → Q (.ref l) (upd H l (.tup ys))) ∨ (SqT C.K H p ys ∧ Q (.ref p) H))) (tCons ta tNil)) (dTuple da) := fun σ δ H0 H Φ Q s w q =>
  ha σ δ H0 H _ _ s w fun H01 H1 v x g1 r1 ⟨xs, e, p⟩ => by
    cases r1 with
    | @lst a1 us1 _ h r =>
      simp [seqOf] at e
      subst e
      refine ⟨_, _, rfl, .inl ⟨SqL.of (g1.wf.sub _ _ h), fun l hl => ?_⟩⟩
      have g2 := Go.new (o := .tup us1) g1.wf hl
      exact q _ _ _ _ (g1.trans g2) (Rp.mono g2.wf.to (.tup (SqT.of upd_same) (r.mono (Go.same_new (g1.wf.none hl))))) p
    | tup h r =>
      simp [seqOf] at e
      subst e
      exact ⟨_, _, rfl, .inr ⟨same_t g1.wf.sub h, q _ _ _ _ g1 (Rp.mono g1.wf.to (.tup h r)) p⟩⟩
    | _ => simp [seqOf] at e
/-- a built-in on data, its answer scalar -/
def CbD (C : Ctx) (r : List V → Hp → VK → Prop) (g : List PyData → (PyData → Prop) → Prop) : Prop := ∀ (H : Hp) (vs : List V) (xs : List PyData) (Φ : PyData → Prop) (Q : VK), RpA C.K H vs xs → g xs Φ → (∀ w z, (∀ H, Rp C.K H w z) → Φ z → Q w H) → r vs H Q
@[simp] def dCB (g : List PyData → (PyData → Prop) → Prop) (ds : DA) : DE := fun δ Φ => ds δ fun xs => g xs Φ
theorem sm_cb {r : List V → Hp → VK → Prop} {g : List PyData → (PyData → Prop) → Prop} (hr : CbD C r g) (ha : SmA C f1 tas das) : Sm C f (tCB r tas) (dCB g das) := fun σ δ H0 H Φ Q s w q =>
  ha σ δ H0 H _ _ s w fun H01 H1 vs xs g1 r1 w1 => hr H1 vs xs Φ Q (r1.mono g1.wf.loc) w1 fun w' z hz p => q _ _ w' z g1 (hz _) p
@[simp] def gLen : List PyData → (PyData → Prop) → Prop := fun xs Φ => ∃ x, xs = [x] ∧ match x with
  | .list ys => Φ (.int ys.length)
  | .tuple ys => Φ (.int ys.length)
  | .str s => s.length ≤ sizeLine ∧ Φ (.int s.length)
  | _ => False
theorem cbd_len : CbD C (fun xs H Q => ∃ x n, xs = [x] ∧ LenV C.K x H n ∧ Q (.int n) H) gLen := fun H vs xs Φ Q r ⟨x, e, p⟩ q => by
  subst e
  cases r with
  | cons h n =>
    cases n
    cases h with
    | lst h r => exact ⟨_, _, rfl, .inl ⟨_, SqL.of h, rfl⟩, by rw [r.length]; exact q _ _ (fun _ => .int _) p⟩
    | tup h r => exact ⟨_, _, rfl, .inr ⟨_, h, rfl⟩, by rw [r.length]; exact q _ _ (fun _ => .int _) p⟩
    | str t => exact ⟨_, _, rfl, ⟨p.1, rfl⟩, q _ _ (fun _ => .int _) p.2⟩
    | _ => exact p.elim
@[simp] def gAbs : List PyData → (PyData → Prop) → Prop := fun xs Φ => ∃ i, xs = [.int i] ∧ Φ (.int (if i < 0 then -i else i))
theorem cbd_abs : CbD C (fun xs H Q => ∃ i, xs = [.int i] ∧ Q (.int (if i < 0 then -i else i)) H) gAbs := fun H vs xs Φ Q r ⟨i, e, p⟩ q => by
  subst e
  cases r with
  | cons h n => cases n; cases h; exact ⟨i, rfl, q _ _ (fun _ => .int _) p⟩
@[simp] def gMax : List PyData → (PyData → Prop) → Prop := fun xs Φ => ∃ i j, xs = [.int i, .int j] ∧ Φ (.int (if j > i then j else i))
theorem cbd_max : CbD C (fun xs H Q => ∃ i j, xs = [.int i, .int j] ∧ Q (.int (if j > i then j else i)) H) gMax := fun H vs xs Φ Q r ⟨i, j, e, p⟩ q => by
  subst e
  cases r with
  | cons h n => cases h; cases n with | cons h n => cases n; cases h; exact ⟨i, j, rfl, q _ _ (fun _ => .int _) p⟩
@[simp] def gMin : List PyData → (PyData → Prop) → Prop := fun xs Φ => ∃ i j, xs = [.int i, .int j] ∧ Φ (.int (if j < i then j else i))
theorem cbd_min : CbD C (fun xs H Q => ∃ i j, xs = [.int i, .int j] ∧ Q (.int (if j < i then j else i)) H) gMin := fun H vs xs Φ Q r ⟨i, j, e, p⟩ q => by
  subst e
  cases r with
  | cons h n => cases h; cases n with | cons h n => cases n; cases h; exact ⟨i, j, rfl, q _ _ (fun _ => .int _) p⟩
@[simp] def gInt : List PyData → (PyData → Prop) → Prop := fun xs Φ => ∃ x, xs = [x] ∧ match x with
  | .int i => Φ (.int i)
  | .bool k => Φ (.int (if k then 1 else 0))
  | _ => False
theorem cbd_int : CbD C (fun xs H Q => (∃ i, xs = [.int i] ∧ Q (.int i) H) ∨ ∃ k, xs = [.bl k] ∧ Q (.int (if k then 1 else 0)) H) gInt := fun H vs xs Φ Q r ⟨x, e, p⟩ q => by
  subst e
  cases r with
  | cons h n =>
    cases n
    cases h with
    | int i => exact .inl ⟨i, rfl, q _ _ (fun _ => .int _) p⟩
    | bl k => exact .inr ⟨k, rfl, q _ _ (fun _ => .int _) p⟩
    | _ => exact p.elim
@[simp] def gStr : List PyData → (PyData → Prop) → Prop := fun xs Φ => ∃ i, xs = [.int i] ∧ i.natAbs.log2 < 1920 ∧ Φ (.str (toString i))
theorem cbd_str : CbD C (fun xs H Q => ∃ i, xs = [.int i] ∧ i.natAbs.log2 < 1920 ∧ Q (.str (toString i)) H) gStr := fun H vs xs Φ Q r ⟨i, e, e2, p⟩ q => by
  subst e
  cases r with
  | cons h n => cases n; cases h; exact ⟨i, rfl, e2, q _ _ (fun _ => .str _) p⟩
/-- isinstance of data -/
def tyD : PyData → String
  | .none => "NoneType"
  | .bool _ => "bool"
  | .int _ => "int"
  | .str _ => "str"
  | .list _ => "list"
  | .tuple _ => "tuple"
  | .dict _ => "dict"
@[simp] def dIsi (n : String) (da : DE) : DE := fun δ Φ => da δ fun x => ∃ b, kitB (tyD x) n = some b ∧ Φ (.bool b)
theorem tyD_rp {K : PySem.W.Frag} {v : V} {x : PyData} (h : Rp K H v x) : TyX K H v (.type (tyD x)) := by
  cases h with
  | non => exact .base .non
  | bl b => exact .base (.bl b)
  | int b => exact .base (.int b)
  | str b => exact .base (.str b)
  | lst h _ => exact .base (.lst h)
  | dic h _ => exact .fDict h
  | tup h _ =>
    rcases h with (h | ⟨o, h⟩) | ⟨o, its, n, h, c, _⟩
    · exact .base (.tup h)
    · exact .fTuple h
    · exact .kTuple h c
theorem sm_isi (n : String) (ha : Sm C f1 ta da) : Sm C f (tCB (rIsi C.K) (tCons ta (tCons (tC (.ty n)) tNil))) (dIsi n da) := fun σ δ H0 H Φ Q s w q =>
  ha σ δ H0 H _ _ s w fun H01 H1 v x g1 r1 ⟨b, e, p⟩ =>
    ⟨v, .ty n, _, _, b, rfl, .ty n, tyD_rp (r1.mono g1.wf.loc), kit_ty e, q _ _ _ _ g1 (.bl b) p⟩

/-! ### values by tests -/
@[simp] def dIf (dt : DT) (da db : DE) : DE := fun δ Φ => dt δ fun b => if b = true then da δ Φ else db δ Φ
theorem sm_if (ht : SmT C tt dt) (ha : Sm C f ta da) (hb : Sm C f tb db) : Sm C f (tIf tt ta tb) (dIf dt da db) := fun σ δ H0 H Φ Q s w q =>
  ht σ δ H0 H _ _ s w fun H01 H1 b g1 w1 => by
    cases b with
    | true => exact iteT (ha σ δ H01 H1 Φ Q (s.go g1) (by simpa using w1) fun H02 H2 v x g2 r p => q _ _ _ _ (g1.trans g2) r p)
    | false => exact iteF (hb σ δ H01 H1 Φ Q (s.go g1) (by simpa using w1) fun H02 H2 v x g2 r p => q _ _ _ _ (g1.trans g2) r p)
@[simp] def dAndV (da db : DE) : DE := fun δ Φ => da δ fun x => ∃ c, x = .bool c ∧ if c = true then db δ Φ else Φ (.bool false)
theorem sm_and (ha : Sm C f1 ta da) (hb : Sm C f tb db) : Sm C f (tAndV ta tb) (dAndV da db) := fun σ δ H0 H Φ Q s w q =>
  ha σ δ H0 H _ _ s w fun H01 H1 v x g1 r1 ⟨c, e, w1⟩ => by
    subst e
    cases r1
    refine ⟨c, rfl, ?_⟩
    cases c with
    | true => exact iteT (hb σ δ H01 H1 Φ Q (s.go g1) (by simpa using w1) fun H02 H2 v x g2 r p => q _ _ _ _ (g1.trans g2) r p)
    | false => exact iteF (q _ _ _ _ g1 (.bl false) (by simpa using w1))
@[simp] def dOrV (da db : DE) : DE := fun δ Φ => da δ fun x => ∃ c, x = .bool c ∧ if c = true then Φ (.bool true) else db δ Φ
theorem sm_or (ha : Sm C f1 ta da) (hb : Sm C f tb db) : Sm C f (tOrV ta tb) (dOrV da db) := fun σ δ H0 H Φ Q s w q =>
  ha σ δ H0 H _ _ s w fun H01 H1 v x g1 r1 ⟨c, e, w1⟩ => by
    subst e
    cases r1
    refine ⟨c, rfl, ?_⟩
    cases c with
    | false => exact iteF (hb σ δ H01 H1 Φ Q (s.go g1) (by simpa using w1) fun H02 H2 v x g2 r p => q _ _ _ _ (g1.trans g2) r p)
    | true => exact iteT (q _ _ _ _ g1 (.bl true) (by simpa using w1))
@[simp] def dNotV (da : DE) : DE := fun δ Φ => da δ fun x => ∃ c, x = .bool c ∧ Φ (.bool (!c))
theorem sm_not (ha : Sm C f1 ta da) : Sm C f (tNotV ta) (dNotV da) := fun σ δ H0 H Φ Q s w q =>
  ha σ δ H0 H _ _ s w fun H01 H1 v x g1 r1 ⟨c, e, w1⟩ => by
    subst e
    cases r1
    exact ⟨c, rfl, q _ _ _ _ g1 (.bl _) w1⟩

/-! ### tests -/
@[simp] def dB (da : DE) : DT := fun δ Φ => da δ fun x => ∃ c, x = .bool c ∧ Φ c
theorem smt_b (ha : Sm C f1 ta da) : SmT C (tB ta) (dB da) := fun σ δ H0 H Φ Q s w q =>
  ha σ δ H0 H _ _ s w fun H01 H1 v x g1 r1 ⟨c, e, w1⟩ => by
    subst e
    cases r1
    exact ⟨c, rfl, q _ _ _ g1 w1⟩
theorem smt_t (ha : Sm C f1 ta da) : SmT C (tTest ta) (dB da) := fun σ δ H0 H Φ Q s w q =>
  ha σ δ H0 H _ _ s w fun H01 H1 v x g1 r1 ⟨c, e, w1⟩ => by
    subst e
    cases r1
    exact ⟨c, rfl, q _ _ _ g1 w1⟩
@[simp] def dAnd (dt du : DT) : DT := fun δ Φ => dt δ fun c => if c = true then du δ Φ else Φ false
theorem smt_and (ht : SmT C tt dt) (hu : SmT C tu du) : SmT C (tAnd tt tu) (dAnd dt du) := fun σ δ H0 H Φ Q s w q =>
  ht σ δ H0 H _ _ s w fun H01 H1 b g1 w1 => by
    cases b with
    | true => exact iteT (hu σ δ H01 H1 Φ Q (s.go g1) (by simpa using w1) fun H02 H2 c g2 p => q _ _ _ (g1.trans g2) p)
    | false => exact iteF (q _ _ _ g1 (by simpa using w1))
@[simp] def dOr (dt du : DT) : DT := fun δ Φ => dt δ fun c => if c = true then Φ true else du δ Φ
theorem smt_or (ht : SmT C tt dt) (hu : SmT C tu du) : SmT C (tOr tt tu) (dOr dt du) := fun σ δ H0 H Φ Q s w q =>
  ht σ δ H0 H _ _ s w fun H01 H1 b g1 w1 => by
    cases b with
    | false => exact iteF (hu σ δ H01 H1 Φ Q (s.go g1) (by simpa using w1) fun H02 H2 c g2 p => q _ _ _ (g1.trans g2) p)
    | true => exact iteT (q _ _ _ g1 (by simpa using w1))
@[simp] def dNot (dt : DT) : DT := fun δ Φ => dt δ fun c => Φ (!c)
theorem smt_not (ht : SmT C tt dt) : SmT C (tNot tt) (dNot dt) := fun σ δ H0 H Φ Q s w q =>
  ht σ δ H0 H _ _ s w fun H01 H1 b g1 w1 => q _ _ _ g1 w1
end
end VL

namespace VL
open PySem L2
section
variable {C : Ctx} {H0 H H0' H' H0'' H'' : Hp} {σ : L2.St} {δ : Dl} {v : V} {x : PyData} {f : Bool}
variable {te ta tb tc : TE} {de da db dc : DE} {tt tu : TT} {dt du : DT} {tas : TA} {das : DA} {f1 f2 : Bool}
/-! ### calls -/
def RRa (K : PySem.W.Frag) (ex : Option Addr) (He H0 : Hp) (v : V) : R → Prop
  | .d x => Rp K H0 v x
  | .own _ _ => False
  | .drw => ∃ p, ex = some p ∧ v = .ref p ∧ ¬ IsTb He p
  | .raw u => v = u
  | .scr ns => ∃ a, v = .ref a ∧ SqL K H0 a (ns.map V.int)
  | .fn F => ∃ f c, v = .ref f ∧ H0 f = some (LamO f F c) ∧ H0 c = some (LamX.CodeO c F.qual)
  | .dct _ _ => False
  | .reg _ _ => False
theorem RRa.mono {K : PySem.W.Frag} {ex : Option Addr} {He : Hp} {r : R} (h : RRa K ex He H0 v r) (e : Same H0 H0') : RRa K ex He H0' v r := by
  cases r with
  | d x => exact Rp.mono e h
  | own a xs => exact h
  | drw => exact h
  | raw u => exact h
  | scr ns => obtain ⟨a, e', q⟩ := h; exact ⟨a, e', e.seq q⟩
  | fn F => obtain ⟨a, c, e', q, q2⟩ := h; exact ⟨a, c, e', e _ _ q, e _ _ q2⟩
  | dct a es => exact h
  | reg u m => exact h
inductive RRas (K : PySem.W.Frag) (ex : Option Addr) (He H0 : Hp) : List V → List R → Prop
  | nil : RRas K ex He H0 [] []
  | cons {v : V} {r : R} {vs : List V} {rs : List R} : RRa K ex He H0 v r → RRas K ex He H0 vs rs → RRas K ex He H0 (v :: vs) (r :: rs)
theorem RRa.in_ {r : R} (h : RRa C.K C.ex C.He H0 v r) (w : Wf C H0 H) : RRa C.K C.ex H H0 v r := by
  cases r with
  | drw =>
    obtain ⟨p, e1, e2, e3⟩ := h
    exact ⟨p, e1, e2, fun z => e3 ((w.dr p e1).2.2.mpr z)⟩
  | d x => exact h
  | own a xs => exact h
  | raw u => exact h
  | scr ns => exact h
  | fn F => exact h
  | dct a es => exact h
  | reg u m => exact h
theorem RRas.in_ : ∀ {vs : List V} {rs : List R}, RRas C.K C.ex C.He H0 vs rs → Wf C H0 H → RRas C.K C.ex H H0 vs rs
  | _, _, .nil, _ => .nil
  | _, _, .cons h r, w => .cons (h.in_ w) (r.in_ w)
theorem RRas.length {K : PySem.W.Frag} {ex : Option Addr} {He : Hp} : ∀ {vs : List V} {rs : List R}, RRas K ex He H0 vs rs → vs.length = rs.length
  | _, _, .nil => rfl
  | _, _, .cons _ r => by rw [List.length_cons, List.length_cons, RRas.length r]
theorem RRas.get {K : PySem.W.Frag} {ex : Option Addr} {He : Hp} : ∀ {vs : List V} {rs : List R} {i : Nat} {r : R}, RRas K ex He H0 vs rs → rs[i]? = some r → ∃ v, vs[i]? = some v ∧ RRa K ex He H0 v r
  | _, _, _, _, .nil, e => by simp at e
  | _, _, 0, _, .cons h _, e => by simp at e; subst e; exact ⟨_, rfl, h⟩
  | _, _, i + 1, _, .cons _ r, e => by
    obtain ⟨v, h1, h2⟩ := RRas.get (i := i) r (by simpa using e)
    exact ⟨v, by simpa using h1, h2⟩
def SmQ (C : Ctx) (ta : TA) (da : DR) : Prop := ∀ (σ : L2.St) (δ : Dl) (H0 H : Hp) (Φ : List R → Prop) (Q : List V → Hp → Prop), St C H0 H σ δ → da δ Φ →
  (∀ H0' H' vs rs, Go C H0 H H0' H' → RRas C.K C.ex C.He H0' vs rs → Φ rs → Q vs H') → ta σ H Q
@[simp] def qNil : DR := fun _ Φ => Φ []
@[simp] def qCons (da : DE) (ds : DR) : DR := fun δ Φ => da δ fun x => ds δ fun xs => Φ (.d x :: xs)
@[simp] def qDrw (i : Nat) (ds : DR) : DR := fun δ Φ => δ[i]? = some (some .drw) ∧ ds δ fun xs => Φ (.drw :: xs)
variable {dqs : DR}
theorem smq_nil : SmQ C tNil qNil := fun σ δ H0 H Φ Q s w q => q H0 H _ _ (.refl s.toWf) .nil w
theorem smq_cons (ha : Sm C true ta da) (hb : SmQ C tas dqs) : SmQ C (tCons ta tas) (qCons da dqs) := fun σ δ H0 H Φ Q s w q =>
  ha σ δ H0 H _ _ s w fun H01 H1 v x g1 r1 w1 => hb σ δ H01 H1 _ _ (s.go g1) w1 fun H02 H2 us ys g2 r2 w2 =>
    q H02 H2 _ _ (g1.trans g2) (RRas.cons (r := R.d x) (Rp.mono g2.fz r1) r2) w2
theorem smq_drw (i : Nat) (hb : SmQ C tas dqs) : SmQ C (tCons (tVar i) tas) (qDrw i dqs) := fun σ δ H0 H Φ Q s ⟨e, w⟩ q => by
  obtain ⟨v, e1, p, h1, h2, h3⟩ := s.sl i _ e
  exact ⟨v, e1, hb σ δ H0 H _ _ s w fun H02 H2 us ys g2 r2 w2 => q H02 H2 _ _ g2 (RRas.cons (r := R.drw) ⟨p, h1, h2, h3⟩ r2) w2⟩

@[simp] def qScr (i : Nat) (ds : DR) : DR := fun δ Φ => ∃ ns, δ[i]? = some (some (.scr ns)) ∧ ds δ fun xs => Φ (.scr ns :: xs)
theorem smq_scr (i : Nat) (hb : SmQ C tas dqs) : SmQ C (tCons (tVar i) tas) (qScr i dqs) := fun σ δ H0 H Φ Q s ⟨ns, e, w⟩ q => by
  obtain ⟨v, e1, a, h1, h2⟩ := s.sl i _ e
  exact ⟨v, e1, hb σ δ H0 H _ _ s w fun H02 H2 us ys g2 r2 w2 => q H02 H2 _ _ g2 (RRas.cons (r := R.scr ns) ⟨a, h1, g2.fz.seq h2⟩ r2) w2⟩

/-- what a def answers, by data -/
abbrev VSp := List R → (RX → Prop) → Prop
def RXR (C : Ctx) (H0 H : Hp) (v : V) : RX → Prop
  | .d x => Rp C.K H0 v x
  | .own xs => ∃ a vs, v = .ref a ∧ H0 a = none ∧ C.He a = none ∧ C.ex ≠ some a ∧ H a = some (.lst vs) ∧ RpA C.K H0 vs xs
  | .m u m x => Rp C.K H0 v x ∧ RR C H0 H u (.reg u m)
def RX.data : RX → PyData
  | .d x => x
  | .own xs => .list xs
  | .m _ _ x => x
@[simp] theorem data_d (x : PyData) : (RX.d x).data = x := rfl
@[simp] theorem data_own (xs : List PyData) : (RX.own xs).data = .list xs := rfl
def toSp (K : PySem.W.Frag) (n : Nat) (p : VSp) : Sp := fun vs H Q _ => vs.length = n ∧ ∃ (ex : Option Addr) (H0 : Hp) (rs : List R) (Φ : RX → Prop), Wf ⟨K, ex, H, H0⟩ H0 H ∧ RRas K ex H H0 vs rs ∧ p rs Φ ∧
  ∀ H0' H' v r, Wf ⟨K, ex, H, H0⟩ H0' H' → RXR ⟨K, ex, H, H0⟩ H0' H' v r → Φ r → Q v H'
theorem Wf.inner (w : Wf C H0 H) : Wf ⟨C.K, C.ex, H, H0⟩ H0 H := ⟨w.sub, fun _ _ _ e => e, Same.refl _, fun _ _ e => .inl e, fun p e => (w.dr p e).in_⟩
theorem Go.outer (w : Wf C H0 H) (g : Wf ⟨C.K, C.ex, H, H0⟩ H0' H') : Go C H0 H H0' H' := by
  refine ⟨⟨g.sub, fun b o n e => g.kp b o n (w.kp b o n e), w.fz.trans g.fz, fun b o e => ?_, fun p e => (w.dr p e).out (g.dr p e)⟩, g.fz, g.kp, fun b o e => ?_⟩
  · rcases g.nw b o e with z | z
    · exact w.nw b o z
    · cases q : C.He b with
      | none => exact .inr rfl
      | some y =>
        by_cases n : C.ex = some b
        · have k := (g.dr b n).no
          rw [e] at k; cases k
        · have := w.kp b y n q
          have z : H b = none := z
          rw [this] at z; cases z
  · exact g.nw b o e
@[simp] def dCall (p : VSp) (ds : DR) : DE := fun δ Φ => ds δ fun rs => p rs fun r => Φ r.data
theorem sm_call {n : Nat} {p : VSp} {E : XK} (hp : ∀ rs Φ, p rs Φ → rs.length = n) (ha : SmQ C tas dqs) : Sm C f (tCall (toSp C.K n p) [] E tas) (dCall p dqs) := fun σ δ H0 H Φ Q s w q =>
  ha σ δ H0 H _ _ s w fun H01 H1 vs rs g1 r1 w1 => by
    show toSp C.K n p (vs ++ []) H1 Q E
    rw [List.append_nil]
    refine ⟨by rw [r1.length]; exact hp _ _ w1, C.ex, H01, rs, _, g1.wf.inner, r1.in_ g1.wf, w1, fun H02 H2 v r g2 h2 p2 => ?_⟩
    have g3 := Go.outer g1.wf g2
    cases r with
    | d x => exact q _ _ _ _ (g1.trans g3) (Rp.mono g3.wf.to h2) p2
    | own xs =>
      obtain ⟨a, us, rfl, k1, k2, k3, k4, k5⟩ := h2
      have g4 := Go.frz s.toWf (g1.trans g3) (g1.fresh k2) k1 k4
      exact q _ _ _ _ g4 (Rp.mono g4.wf.to (.lst upd_same (k5.mono (Go.same_new k1)))) p2
    | m u m x => exact q _ _ _ _ (g1.trans g3) (Rp.mono g3.wf.to h2.1) p2
@[simp] def oCall (p : VSp) (ds : DR) : DO := fun δ Φ => ds δ fun rs => p rs fun r => ∃ xs, r = .own xs ∧ Φ xs
theorem smo_call {n : Nat} {p : VSp} {E : XK} (hp : ∀ rs Φ, p rs Φ → rs.length = n) (ha : SmQ C tas dqs) : SmO C (tCall (toSp C.K n p) [] E tas) (oCall p dqs) := fun σ δ H0 H Φ Q s w q =>
  ha σ δ H0 H _ _ s w fun H01 H1 vs rs g1 r1 w1 => by
    show toSp C.K n p (vs ++ []) H1 Q E
    rw [List.append_nil]
    refine ⟨by rw [r1.length]; exact hp _ _ w1, C.ex, H01, rs, _, g1.wf.inner, r1.in_ g1.wf, w1, fun H02 H2 v r g2 h2 p2 => ?_⟩
    have g3 := Go.outer g1.wf g2
    obtain ⟨xs, rfl, p2⟩ := p2
    obtain ⟨a, us, rfl, k1, k2, k3, k4, k5⟩ := h2
    exact q _ _ _ _ _ (g1.trans g3) (g1.fresh k2) k1 k4 k5 p2

/-! ### what is walked -/
structure Wk (C : Ctx) (J : It) (H0 : Hp) (xs : List PyData) : Prop where
  stop : ∀ (H0' H' : Hp) (i : Nat), Same H0 H0' → Wf C H0' H' → xs.length = i → J.stop i H'
  go : ∀ (H0' H' : Hp) (i : Nat), Same H0 H0' → Wf C H0' H' → i < xs.length → J.go i H'
  yld : ∀ (H0' H' : Hp) (i : Nat) (v : V) (H'' : Hp), Same H0 H0' → Wf C H0' H' → i < xs.length → J.yld i H' v H'' → ∃ H0'' y, Go C H0' H' H0'' H'' ∧ xs[i]? = some y ∧ Rp C.K H0'' v y
abbrev DI := Dl → (List PyData → Prop) → Prop
def SmI (C : Ctx) (ti : TI) (di : DI) : Prop := ∀ (σ : L2.St) (δ : Dl) (H0 H : Hp) (Φ : List PyData → Prop) (R : It → Hp → Prop), St C H0 H σ δ → di δ Φ →
  (∀ H0' H' J xs, Go C H0 H H0' H' → Wk C J H0' xs → Φ xs → R J H') → ti σ H R
theorem SqL.len_inj {K : PySem.W.Frag} {H : Hp} {a : Addr} {xs ys : List V} (h : H a = some (.lst xs)) (k : H a = some (.lst ys)) : xs = ys := by
  rw [h] at k; cases k; rfl
@[simp] def iL (da : DE) : DI := fun δ Φ => da δ fun x => ∃ xs, x = .list xs ∧ Φ xs
theorem get_lt {α : Type} {xs : List α} {i : Nat} (h : i < xs.length) : ∃ y, xs[i]? = some y := ⟨xs[i], List.getElem?_eq_getElem h⟩
theorem wk_list {a : Addr} {us : List V} {xs : List PyData} (h : H0 a = some (.lst us)) (r : RpA C.K H0 us xs) : Wk C (Itl C.K a) H0 xs := by
  refine ⟨fun H0' H' i e w hi0 => have hi := Nat.le_of_eq hi0; ⟨us, SqL.of (w.sub _ _ (e _ _ h)), by rw [r.length]; exact hi⟩, fun H0' H' i e w hi => ?_, fun H0' H' i v H'' e w hi y => ?_⟩
  · obtain ⟨y, hy⟩ := get_lt hi
    obtain ⟨v, h1, h2⟩ := r.get hy
    exact ⟨us, v, SqL.of (w.sub _ _ (e _ _ h)), h1⟩
  · obtain ⟨rfl, y⟩ := y
    obtain ⟨z, hz⟩ := get_lt hi
    obtain ⟨u, h1, h2⟩ := r.get hz
    have := y us (SqL.of (w.sub _ _ (e _ _ h)))
    rw [h1] at this
    cases this
    exact ⟨H0', z, .refl w, hz, h2.mono e⟩
theorem smi_list (ha : Sm C true ta da) : SmI C (iList C.K ta) (iL da) := fun σ δ H0 H Φ R s w q =>
  ha σ δ H0 H _ _ s w fun H01 H1 v x g1 r1 ⟨xs, e, p⟩ => by
    subst e
    cases r1 with
    | @lst a us _ h r => exact ⟨a, rfl, ⟨us, SqL.of (g1.wf.sub _ _ h)⟩, q _ _ _ _ g1 (wk_list h r) p⟩
/-- the script is walked -/
@[simp] def iScr (i : Nat) : DI := fun δ Φ => ∃ ns : List Int, δ[i]? = some (some (.scr ns)) ∧ Φ (ns.map .int)
theorem smi_scr (i : Nat) : SmI C (iList C.K (tVar i)) (iScr i) := fun σ δ H0 H Φ R s ⟨ns, e, w⟩ q => by
  obtain ⟨v, e1, a, rfl, hq⟩ := s.sl i _ e
  refine ⟨_, e1, a, rfl, ⟨_, s.toWf.sub.seq hq⟩, q H0 H _ _ (.refl s.toWf) ⟨fun H0' H' k e w hk => ?_, fun H0' H' k e w hk => ?_, fun H0' H' k v H'' e w hk y => ?_⟩ w⟩
  · exact ⟨_, w.sub.seq (e.seq hq), by simpa using Nat.le_of_eq hk⟩
  · rw [List.length_map] at hk
    exact ⟨_, .int ns[k], w.sub.seq (e.seq hq), by rw [List.getElem?_map, List.getElem?_eq_getElem hk]; rfl⟩
  · rw [List.length_map] at hk
    obtain ⟨rfl, y⟩ := y
    have := y _ (w.sub.seq (e.seq hq))
    rw [List.getElem?_map, List.getElem?_eq_getElem hk] at this
    cases this
    exact ⟨H0', .int ns[k], .refl w, by rw [List.getElem?_map, List.getElem?_eq_getElem hk]; rfl, .int _⟩
@[simp] def iT (da : DE) : DI := fun δ Φ => da δ fun x => ∃ xs, x = .tuple xs ∧ Φ xs
theorem wk_tup {a : Addr} {us : List V} {xs : List PyData} (h : SqT C.K H0 a us) (r : RpA C.K H0 us xs) : Wk C (Itt C.K a) H0 xs := by
  refine ⟨fun H0' H' i e w hi0 => have hi := Nat.le_of_eq hi0; ⟨us, same_t w.sub (same_t e h), by rw [r.length]; exact hi⟩, fun H0' H' i e w hi => ?_, fun H0' H' i v H'' e w hi y => ?_⟩
  · obtain ⟨y, hy⟩ := get_lt hi
    obtain ⟨v, h1, h2⟩ := r.get hy
    exact ⟨us, v, same_t w.sub (same_t e h), h1⟩
  · obtain ⟨rfl, y⟩ := y
    obtain ⟨z, hz⟩ := get_lt hi
    obtain ⟨u, h1, h2⟩ := r.get hz
    have := y us (same_t w.sub (same_t e h))
    rw [h1] at this
    cases this
    exact ⟨H0', z, .refl w, hz, h2.mono e⟩
theorem smi_tup (ha : Sm C true ta da) : SmI C (iTup C.K ta) (iT da) := fun σ δ H0 H Φ R s w q =>
  ha σ δ H0 H _ _ s w fun H01 H1 v x g1 r1 ⟨xs, e, p⟩ => by
    subst e
    cases r1 with
    | @tup a us _ h r => exact ⟨a, rfl, ⟨us, same_t g1.wf.sub h⟩, q _ _ _ _ g1 (wk_tup h r) p⟩
def rng (lo : Int) (n : Nat) : List PyData := (List.range n).map fun (k : Nat) => PyData.int (lo + (k : Int))
theorem rng_len (lo : Int) (n : Nat) : (rng lo n).length = n := by simp [rng]
theorem rng_get {lo : Int} {n i : Nat} {y : PyData} (h : (rng lo n)[i]? = some y) : i < n ∧ y = .int (lo + (i : Int)) := by
  unfold rng at h
  rw [List.getElem?_map] at h
  cases q : (List.range n)[i]? with
  | none => rw [q] at h; simp at h
  | some k =>
    rw [q] at h
    obtain ⟨a, b⟩ := List.getElem?_eq_some_iff.mp q
    simp at a b h
    subst b
    exact ⟨a, h.symm⟩
theorem rng_at {lo : Int} {n i : Nat} (h : i < n) : (rng lo n)[i]? = some (.int (lo + (i : Int))) := by
  unfold rng
  rw [List.getElem?_map, List.getElem?_range h]
  rfl
theorem wk_rng (lo : Int) (n : Nat) : Wk C (Itr lo n) H0 (rng lo n) := by
  refine ⟨fun H0' H' i e w hi0 => have hi := Nat.le_of_eq hi0; by rw [rng_len] at hi; exact hi, fun H0' H' i e w hi => by rw [rng_len] at hi; exact hi, fun H0' H' i v H'' e w hi y => ?_⟩
  rw [rng_len] at hi
  obtain ⟨rfl, rfl⟩ := y
  exact ⟨H0', _, .refl w, rng_at hi, .int _⟩
@[simp] def iR1 (da : DE) : DI := fun δ Φ => da δ fun x => ∃ j, x = .int j ∧ -(2 ^ 62) ≤ j ∧ j < 2 ^ 62 ∧ Φ (rng 0 j.toNat)
theorem smi_rng1 (ha : Sm C f1 ta da) : SmI C (iRng1 (tCons ta tNil)) (iR1 da) := fun σ δ H0 H Φ R s w q =>
  ha σ δ H0 H _ _ s w fun H01 H1 v x g1 r1 ⟨j, e, h1, h2, p⟩ => by
    subst e
    cases r1
    exact ⟨j, rfl, h1, h2, q _ _ _ _ g1 (wk_rng _ _) p⟩
@[simp] def iR2 (da db : DE) : DI := fun δ Φ => da δ fun x => db δ fun y => ∃ i j, x = .int i ∧ y = .int j ∧ (-(2 ^ 62) ≤ i ∧ i < 2 ^ 62 ∧ -(2 ^ 62) ≤ j ∧ j < 2 ^ 62) ∧ Φ (rng i (j - i).toNat)
theorem smi_rng2 (ha : Sm C f1 ta da) (hb : Sm C f2 tb db) : SmI C (iRng2 (tCons ta (tCons tb tNil))) (iR2 da db) := fun σ δ H0 H Φ R s w q =>
  ha σ δ H0 H _ _ s w fun H01 H1 v x g1 r1 w1 => hb σ δ H01 H1 _ _ (s.go g1) w1 fun H02 H2 u y g2 r2 ⟨i, j, e1, e2, h, p⟩ => by
    subst e1 e2
    cases r1
    cases r2
    exact ⟨i, j, rfl, h, q _ _ _ _ (g1.trans g2) (wk_rng _ _) p⟩
@[simp] def iRv (da : DE) : DI := fun δ Φ => da δ fun x => ∃ xs, x = .list xs ∧ Φ xs.reverse
theorem smi_rev (ha : Sm C true ta da) : SmI C (iRev C.K (tCons ta tNil)) (iRv da) := fun σ δ H0 H Φ R s w q =>
  ha σ δ H0 H _ _ s w fun H01 H1 v x g1 r1 ⟨xs, e, p⟩ => by
    subst e
    cases r1 with
    | @lst a us _ h r =>
      refine ⟨a, us, rfl, SqL.of (g1.wf.sub _ _ h), q _ _ _ _ g1 ⟨fun H0' H' i e w hi0 => have hi := Nat.le_of_eq hi0; ?_, fun H0' H' i e w hi => ?_, fun H0' H' i v H'' e w hi y => ?_⟩ p⟩
      · rw [List.length_reverse] at hi
        show us.length ≤ i
        rw [r.length]; exact hi
      · rw [List.length_reverse] at hi
        obtain ⟨y, hy⟩ := get_lt (show us.length - 1 - i < us.length by rw [r.length]; omega)
        exact ⟨by rw [r.length]; exact hi, us, y, SqL.of (w.sub _ _ (e _ _ h)), hy⟩
      · rw [List.length_reverse] at hi
        obtain ⟨rfl, y⟩ := y
        have y := y us (SqL.of (w.sub _ _ (e _ _ h)))
        obtain ⟨z, hz, rz⟩ := r.get' y
        refine ⟨H0', z, .refl w, ?_, rz.mono e⟩
        rw [List.getElem?_reverse hi, ← r.length]
        exact hz
/-- pairs (number, item) -/
def enumD (xs : List PyData) : List PyData := (List.range xs.length).zipWith (fun (i : Nat) (x : PyData) => PyData.tuple [.int (i : Int), x]) xs
theorem enumD_len (xs : List PyData) : (enumD xs).length = xs.length := by simp [enumD]
theorem enumD_get {xs : List PyData} {i : Nat} {x : PyData} (h : xs[i]? = some x) : (enumD xs)[i]? = some (.tuple [.int (i : Int), x]) := by
  have hi := (List.getElem?_eq_some_iff.mp h).1
  unfold enumD
  rw [List.getElem?_zipWith, List.getElem?_range hi, h]
@[simp] def iEn (da : DE) : DI := fun δ Φ => da δ fun x => ∃ xs, x = .list xs ∧ Φ (enumD xs)
theorem tup_new {p : Addr} {us : List V} {ys : List PyData} (w : Wf C H0 H) (hp : H p = none) (r : RpA C.K H0 us ys) : ∃ H0', Go C H0 H H0' (upd H p (.tup us)) ∧ Rp C.K H0' (.ref p) (.tuple ys) :=
  ⟨_, Go.new w hp, .tup (SqT.of upd_same) (r.mono (Go.same_new (w.none hp)))⟩
theorem smi_enum (ha : Sm C true ta da) : SmI C (iEnum C.K (tCons ta tNil)) (iEn da) := fun σ δ H0 H Φ R s w q =>
  ha σ δ H0 H _ _ s w fun H01 H1 v x g1 r1 ⟨xs, e, p⟩ => by
    subst e
    cases r1 with
    | @lst a us _ h r =>
      refine ⟨a, us, rfl, SqL.of (g1.wf.sub _ _ h), q _ _ _ _ g1 ⟨fun H0' H' i e w hi0 => have hi := Nat.le_of_eq hi0; ?_, fun H0' H' i e w hi => ?_, fun H0' H' i v H'' e w hi y => ?_⟩ p⟩
      · rw [enumD_len] at hi
        exact ⟨us, SqL.of (w.sub _ _ (e _ _ h)), by rw [r.length]; exact hi⟩
      · rw [enumD_len] at hi
        obtain ⟨y, hy⟩ := get_lt hi
        obtain ⟨v, h1, h2⟩ := r.get hy
        exact ⟨us, v, SqL.of (w.sub _ _ (e _ _ h)), h1⟩
      · rw [enumD_len] at hi
        obtain ⟨T, z, rfl, hT, rfl, y⟩ := y
        have y := y us (SqL.of (w.sub _ _ (e _ _ h)))
        obtain ⟨d, hd, rd⟩ := r.get' y
        obtain ⟨H0'', g, r2⟩ := tup_new w hT (.cons (.int (i : Int)) (.cons (rd.mono e) .nil))
        exact ⟨H0'', _, g, enumD_get hd, r2⟩
def zipD (xs ys : List PyData) : List PyData := xs.zipWith (fun x y => .tuple [x, y]) ys
@[simp] def iZp (da db : DE) : DI := fun δ Φ => da δ fun x => db δ fun y => ∃ xs ys, x = .list xs ∧ y = .list ys ∧ Φ (zipD xs ys)
theorem smi_zip (ha : Sm C true ta da) (hb : Sm C true tb db) : SmI C (iZip C.K (tCons ta (tCons tb tNil))) (iZp da db) := fun σ δ H0 H Φ R s w q =>
  ha σ δ H0 H _ _ s w fun H01 H1 v x g1 r1 w1 => hb σ δ H01 H1 _ _ (s.go g1) w1 fun H02 H2 u y g2 r2 ⟨xs, ys, e1, e2, p⟩ => by
    subst e1 e2
    have r3 := r1.mono g2.fz
    cases r3 with
    | @lst a us _ h r =>
      cases r2 with
      | @lst b ws _ h' r' =>
        refine ⟨a, b, us, ws, rfl, SqL.of (g2.wf.sub _ _ h), SqL.of (g2.wf.sub _ _ h'), q _ _ _ _ (g1.trans g2) ⟨fun H0' H' i e w hi0 => have hi := Nat.le_of_eq hi0; ?_, fun H0' H' i e w hi => ?_, fun H0' H' i v H'' e w hi y => ?_⟩ p⟩
        · unfold zipD at hi
          rw [List.length_zipWith] at hi
          refine ⟨us, ws, SqL.of (w.sub _ _ (e _ _ h)), SqL.of (w.sub _ _ (e _ _ h')), ?_⟩
          rw [r.length, r'.length]
          omega
        · unfold zipD at hi
          rw [List.length_zipWith] at hi
          obtain ⟨y1, hy1⟩ := get_lt (show i < xs.length by omega)
          obtain ⟨v1, h1, _⟩ := r.get hy1
          obtain ⟨y2, hy2⟩ := get_lt (show i < ys.length by omega)
          obtain ⟨v2, h2, _⟩ := r'.get hy2
          exact ⟨us, ws, v1, v2, SqL.of (w.sub _ _ (e _ _ h)), SqL.of (w.sub _ _ (e _ _ h')), h1, h2⟩
        · obtain ⟨T, x1, x2, rfl, hT, rfl, y1, y2⟩ := y
          have y1 := y1 us (SqL.of (w.sub _ _ (e _ _ h)))
          have y2 := y2 ws (SqL.of (w.sub _ _ (e _ _ h')))
          obtain ⟨d1, hd1, rd1⟩ := r.get' y1
          obtain ⟨d2, hd2, rd2⟩ := r'.get' y2
          obtain ⟨H0'', g, r2⟩ := tup_new w hT (.cons (rd1.mono e) (.cons (Rp.mono e rd2) .nil))
          refine ⟨H0'', _, g, ?_, r2⟩
          unfold zipD
          rw [List.getElem?_zipWith, hd1, hd2]
/-- the signs of a text -/
def signsD (s : Str) : List PyData := s.cps.toList.map fun c => .str ⟨#[c]⟩
@[simp] def iS (da : DE) : DI := fun δ Φ => da δ fun x => ∃ s, x = .str s ∧ Φ (signsD s)
theorem smi_str (ha : Sm C f1 ta da) : SmI C (iStr ta) (iS da) := fun σ δ H0 H Φ R s w q =>
  ha σ δ H0 H _ _ s w fun H01 H1 v x g1 r1 ⟨z, e, p⟩ => by
    subst e
    cases r1
    refine ⟨z, rfl, q _ _ _ _ g1 ⟨fun H0' H' i e w hi0 => have hi := Nat.le_of_eq hi0; ?_, fun H0' H' i e w hi => ?_, fun H0' H' i v H'' e w hi y => ?_⟩ p⟩
    · show z.cps.size ≤ i
      simpa [signsD] using hi
    · show i < z.cps.size
      simpa [signsD] using hi
    · obtain ⟨rfl, c, hc, rfl⟩ := y
      refine ⟨H0', _, .refl w, ?_, .str _⟩
      unfold signsD
      rw [List.getElem?_map, Array.getElem?_toList, hc]
      rfl
end

/-! ### statements -/
structure DEnds where
  nx : Dl → Prop
  rt : RX → Prop
  bk : Dl → Prop := fun _ => False
  ct : Dl → Prop := fun _ => False
abbrev DS := DEnds → Dl → Prop
structure EndS (C : Ctx) (H0 : Hp) (E : DEnds) (D : Ends) : Prop where
  nx : ∀ (H0' H' : Hp) (σ : L2.St) (δ : Dl), Same H0 H0' → St C H0' H' σ δ → E.nx δ → D.nx σ H'
  rt : ∀ (H0' H' : Hp) (v : V) (r : RX), Same H0 H0' → Wf C H0' H' → RXR C H0' H' v r → E.rt r → D.rt v H'
  bk : ∀ (H0' H' : Hp) (σ : L2.St) (δ : Dl), Same H0 H0' → St C H0' H' σ δ → E.bk δ → D.bk σ H'
  ct : ∀ (H0' H' : Hp) (σ : L2.St) (δ : Dl), Same H0 H0' → St C H0' H' σ δ → E.ct δ → D.ct σ H'
def SmS (C : Ctx) (ts : TS) (ds : DS) : Prop := ∀ (σ : L2.St) (δ : Dl) (H0 H : Hp) (E : DEnds) (D : Ends), St C H0 H σ δ → ds E δ → EndS C H0 E D → ts D σ H
abbrev DG := PyData → Dl → (Dl → Prop) → Prop
abbrev DGs := List PyData → Dl → (Dl → Prop) → Prop
def SmG (C : Ctx) (tg : TG) (dg : DG) : Prop := ∀ (v : V) (x : PyData) (σ : L2.St) (δ : Dl) (H0 H : Hp) (Ψ : Dl → Prop) (Q : L2.St → Hp → Prop), St C H0 H σ δ → Rp C.K H0 v x → dg x δ Ψ →
  (∀ σ' δ', St C H0 H σ' δ' → Ψ δ' → Q σ' H) → tg v σ H Q
def SmGs (C : Ctx) (tg : TGs) (dg : DGs) : Prop := ∀ (vs : List V) (xs : List PyData) (σ : L2.St) (δ : Dl) (H0 H : Hp) (Ψ : Dl → Prop) (Q : L2.St → Hp → Prop), St C H0 H σ δ → RpA C.K H0 vs xs → dg xs δ Ψ →
  (∀ σ' δ', St C H0 H σ' δ' → Ψ δ' → Q σ' H) → tg vs σ H Q
section
variable {C : Ctx} {H0 H H0' H' H0'' H'' : Hp} {σ : L2.St} {δ : Dl} {v : V} {x : PyData} {f : Bool}
variable {te ta tb tc : TE} {de da db dc : DE} {tt tu : TT} {dt du : DT} {tas : TA} {das : DA} {f1 f2 : Bool} {ts tv : TS} {ds dv : DS} {E : DEnds} {D : Ends} {o : DO} {g : TG} {dg : DG} {gs : TGs} {dgs : DGs} {ti : TI} {di : DI}
theorem EndS.mono (h : EndS C H0 E D) (e : Same H0 H0') : EndS C H0' E D :=
  ⟨fun a b c d q => h.nx a b c d (e.trans q), fun a b c d q => h.rt a b c d (e.trans q), fun a b c d q => h.bk a b c d (e.trans q), fun a b c d q => h.ct a b c d (e.trans q)⟩
@[simp] def dgName (i : Nat) : DG := fun x δ Ψ => Ψ (δ.set i (some (.d x)))
theorem smg_name (i : Nat) : SmG C (gName i) (dgName i) := fun v x σ δ H0 H Ψ Q s r w q => q _ _ (s.set_d i r) w
@[simp] def dgNil : DGs := fun xs δ Ψ => xs = [] ∧ Ψ δ
@[simp] def dgCons (dg : DG) (dgs : DGs) : DGs := fun xs δ Ψ => ∃ y ys, xs = y :: ys ∧ dg y δ fun δ' => dgs ys δ' Ψ
theorem smg_nil : SmGs C gNil dgNil := fun vs xs σ δ H0 H Ψ Q s r ⟨e, w⟩ q => by
  subst e
  cases r
  exact ⟨rfl, q _ _ s w⟩
theorem smg_cons (h1 : SmG C g dg) (h2 : SmGs C gs dgs) : SmGs C (gCons g gs) (dgCons dg dgs) := fun vs xs σ δ H0 H Ψ Q s r ⟨y, ys, e, w⟩ q => by
  subst e
  cases r with
  | cons ra rb => exact ⟨_, _, rfl, h1 _ _ σ δ H0 H _ _ s ra w fun σ' δ' s' w' => h2 _ _ σ' δ' H0 H _ _ s' rb w' q⟩
@[simp] def dgTup (n : Nat) (dgs : DGs) : DG := fun x δ Ψ => ∃ xs, x = .tuple xs ∧ xs.length = n ∧ dgs xs δ Ψ
theorem smg_tup {n : Nat} (h : SmGs C gs dgs) : SmG C (gTup C.K n gs) (dgTup n dgs) := fun v x σ δ H0 H Ψ Q s r ⟨xs, e, hn, w⟩ q => by
  subst e
  cases r with
  | @tup a us _ hs r => exact ⟨a, us, rfl, same_t s.toWf.sub hs, by rw [r.length]; exact hn, h _ _ σ δ H0 H _ _ s r w q⟩
@[simp] def dSeq (d1 d2 : DS) : DS := fun E δ => d1 { E with nx := d2 E } δ
theorem sms_seq (h1 : SmS C ts ds) (h2 : SmS C tv dv) : SmS C (tSeq ts tv) (dSeq ds dv) := fun σ δ H0 H E D s w e =>
  h1 σ δ H0 H _ _ s w ⟨fun H0' H' σ' δ' q s' w' => h2 σ' δ' H0' H' E D s' w' (e.mono q), e.rt, e.bk, e.ct⟩
@[simp] def dNext : DS := fun E δ => E.nx δ
theorem sms_next : SmS C tNext dNext := fun σ δ H0 H E D s w e => e.nx H0 H σ δ (Same.refl _) s w
@[simp] def dRet (de : DE) : DS := fun E δ => de δ fun x => E.rt (.d x)
theorem sms_ret (h : Sm C true te de) : SmS C (tRet te) (dRet de) := fun σ δ H0 H E D s w e =>
  h σ δ H0 H _ _ s w fun H0' H' v x g r p => e.rt H0' H' v (.d x) g.fz g.wf r p
@[simp] def dRetO (i : Nat) : DS := fun E δ => ∃ a xs, δ[i]? = some (some (.own a xs)) ∧ E.rt (.own xs)
theorem sms_retO (i : Nat) : SmS C (tRet (tVar i)) (dRetO i) := fun σ δ H0 H E D s ⟨a, xs, h, w⟩ e => by
  obtain ⟨v, e1, rfl, h1, h2, h3, vs, h4, h5⟩ := s.sl i _ h
  exact ⟨_, e1, e.rt H0 H _ (.own xs) (Same.refl _) s.toWf ⟨a, vs, rfl, h1, h2, h3, h4, h5⟩ w⟩
@[simp] def dRetNew (o : DO) : DS := fun E δ => o δ fun xs => E.rt (.own xs)
theorem sms_retNew (h : SmO C te o) : SmS C (tRet te) (dRetNew o) := fun σ δ H0 H E D s w e =>
  h σ δ H0 H _ _ s w fun H0' H' a vs xs g h1 h2 h3 r p => e.rt H0' H' _ (.own xs) g.fz g.wf ⟨a, vs, rfl, h2, (Go.he s.toWf h1).1, (Go.he s.toWf h1).2, h3, r⟩ p
@[simp] def dRetN : DS := fun E δ => E.rt (.d .none)
theorem sms_retN : SmS C tRetN dRetN := fun σ δ H0 H E D s w e => e.rt H0 H _ (.d .none) (Same.refl _) s.toWf .non w
@[simp] def dAsg (de : DE) (dg : DG) : DS := fun E δ => de δ fun x => dg x δ E.nx
theorem sms_asg (h : Sm C true te de) (hg : SmG C g dg) : SmS C (tAsg te g) (dAsg de dg) := fun σ δ H0 H E D s w e =>
  h σ δ H0 H _ _ s w fun H0' H' v x g1 r p => hg v x σ δ H0' H' _ _ (s.go g1) r p fun σ' δ' s' w' => e.nx H0' H' σ' δ' g1.fz s' w'
@[simp] def dSetO (i : Nat) (o : DO) : DS := fun E δ => o δ fun xs => ∀ a, E.nx (δ.set i (some (.own a xs)))
theorem sms_setO (i : Nat) (h : SmO C te o) : SmS C (tAsg te (gName i)) (dSetO i o) := fun σ δ H0 H E D s w e =>
  h σ δ H0 H _ _ s w fun H0' H' a vs xs g1 h1 h2 h3 r p => by
    refine e.nx H0' H' _ _ g1.fz ((s.go g1).set_own i (fun j b ys hj hb z => ?_) h2 (Go.he s.toWf h1).1 (Go.he s.toWf h1).2 h3 r) (p a)
    subst z
    obtain ⟨v, _, hv⟩ := s.sl j _ hj
    obtain ⟨o, k⟩ := hv.live hb
    rw [h1] at k; cases k
@[simp] def dIfS (dt : DT) (d1 d2 : DS) : DS := fun E δ => dt δ fun b => if b = true then d1 E δ else d2 E δ
theorem sms_if (ht : SmT C tt dt) (h1 : SmS C ts ds) (h2 : SmS C tv dv) : SmS C (tIfS tt ts tv) (dIfS dt ds dv) := fun σ δ H0 H E D s w e =>
  ht σ δ H0 H _ _ s w fun H01 H1 b g1 w1 => by
    cases b with
    | true => exact iteT (h1 σ δ H01 H1 E D (s.go g1) (by simpa using w1) (e.mono g1.fz))
    | false => exact iteF (h2 σ δ H01 H1 E D (s.go g1) (by simpa using w1) (e.mono g1.fz))
@[simp] def dDrop (de : DE) : DS := fun E δ => de δ fun _ => E.nx δ
theorem sms_drop (h : Sm C f1 te de) : SmS C (tDrop te) (dDrop de) := fun σ δ H0 H E D s w e =>
  h σ δ H0 H _ _ s w fun H0' H' v x g1 r p => e.nx H0' H' σ δ g1.fz (s.go g1) p
/-- xs.append(e), xs an owned list -/
@[simp] def dApp (i : Nat) (de : DE) : DS := fun E δ => ∃ a xs, δ[i]? = some (some (.own a xs)) ∧ de δ fun x => xs.length < sizeLine ∧ E.nx (δ.set i (some (.own a (xs ++ [x]))))
theorem sms_app (i : Nat) (h : Sm C true te de) : SmS C (tDrop (tBM C.K "list" rAppend (tVar i) (tCons te tNil))) (dApp i de) := fun σ δ H0 H E D s ⟨a0, xs0, e0, w⟩ e => by
  obtain ⟨v, e1, rfl, h1, h2, h3, vs, h4, h5⟩ := s.sl i _ e0
  refine ⟨_, e1, .inl ⟨rfl, vs, SqL.of h4⟩, h σ δ H0 H _ _ s w fun H0' H' y x g1 r ⟨hl, p⟩ => ?_⟩
  have s1 := s.go g1
  obtain ⟨v', f1, f2, f3, f4, f5, us, f6, f7⟩ := s1.sl i _ e0
  refine ⟨a0, us, y, rfl, rfl, f6, by rw [f7.length]; exact hl, e.nx H0' _ σ _ g1.fz (s1.write i e0 (f7.snoc r)) p⟩
@[simp] def dAug (i : Nat) (de : DE) (f : Int → Int → Int) : DS := fun E δ => ∃ a, δ[i]? = some (some (.d (.int a))) ∧ de δ fun y => ∃ b, y = .int b ∧ E.nx (δ.set i (some (.d (.int (f a b)))))
theorem sms_aug (i : Nat) {fn : Int → Int → Int} (h : Sm C f1 te de) : SmS C (tAug i te (ipI fn)) (dAug i de fn) := fun σ δ H0 H E D s ⟨a0, e0, w⟩ e => by
  obtain ⟨v, e1, r0⟩ := s.sl i _ e0
  cases r0
  refine ⟨_, e1, h σ δ H0 H _ _ s w fun H0' H' y x g1 r ⟨b, e3, p⟩ => ?_⟩
  subst e3
  cases r
  exact ⟨a0, b, rfl, rfl, e.nx _ _ _ _ g1.fz ((s.go g1).set_d i (.int _)) p⟩
/-- xs[k] = e, xs an owned list -/
@[simp] def dSetI (i : Nat) (de dk : DE) : DS := fun E δ => de δ fun x => ∃ a xs, δ[i]? = some (some (.own a xs)) ∧ dk δ fun y => ∃ k j, y = .int k ∧ ixN xs.length k = some j ∧ E.nx (δ.set i (some (.own a (xs.set j x))))
theorem sms_setI (i : Nat) (h : Sm C true te de) (hk : Sm C f2 tb db) : SmS C (tAsg te (gSub (tVar i) tb rSetL)) (dSetI i de db) := fun σ δ H0 H E D s w e =>
  h σ δ H0 H _ _ s w fun H01 H1 v x g1 r ⟨a, xs, e0, w1⟩ => by
    have s1 := s.go g1
    obtain ⟨v', e1, f2, f3, f4, f5, us, f6, f7⟩ := s1.sl i _ e0
    refine ⟨v', e1, hk σ δ H01 H1 _ _ s1 w1 fun H02 H2 u y g2 r2 ⟨k, j, e3, e4, p⟩ => ?_⟩
    subst e3 f2
    cases r2
    have s2 := s1.go g2
    obtain ⟨v', e1, f2, f3, f4, f5, us, f6, f7⟩ := s2.sl i _ e0
    exact ⟨a, us, k, j, rfl, rfl, f6, by rw [f7.length]; exact e4, e.nx H02 _ σ _ (g1.fz.trans g2.fz) (s2.write i e0 (f7.set (Rp.mono g2.fz r) j)) p⟩
/-- the slot's list stands still from here on -/
@[simp] def dFrz (i : Nat) (d : DS) : DS := fun E δ => ∃ a xs, δ[i]? = some (some (.own a xs)) ∧ d E (δ.set i (some (.d (.list xs))))
theorem sms_frz (i : Nat) (h : SmS C ts ds) : SmS C ts (dFrz i ds) := fun σ δ H0 H E D s ⟨a, xs, h1, w⟩ e => by
  obtain ⟨H0', g, s'⟩ := s.freeze i h1
  exact h σ _ H0' H E D s' w (e.mono g)
@[simp] def dBreak : DS := fun E δ => E.bk δ
theorem sms_break : SmS C tBreak dBreak := fun σ δ H0 H E D s w e => e.bk H0 H σ δ (Same.refl _) s w
@[simp] def dCont : DS := fun E δ => E.ct δ
theorem sms_cont : SmS C tCont dCont := fun σ δ H0 H E D s w e => e.ct H0 H σ δ (Same.refl _) s w
/-- for .. in ..: -/
def dFor (di : DI) (dg : DG) (db : DS) : DS := fun E δ => di δ fun xs => ∃ I : Nat → Dl → Prop, I 0 δ ∧
  (∀ i y δ', xs[i]? = some y → I i δ' → dg y δ' fun δ'' => db { E with nx := I (i + 1), ct := I (i + 1), bk := E.nx } δ'') ∧ ∀ δ', I xs.length δ' → E.nx δ'
theorem sms_for (hi : SmI C ti di) (hg : SmG C g dg) (hb : SmS C ts ds) : SmS C (tFor ti g ts) (dFor di dg ds) := fun σ δ H0 H E D s w e =>
  hi σ δ H0 H _ _ s w fun H01 H1 J xs g1 wk ⟨I, i0, it, ie⟩ => by
    refine ⟨fun i m σ H => m = xs.length - i ∧ i ≤ xs.length ∧ ∃ H0' δ', Same H01 H0' ∧ St C H0' H σ δ' ∧ I i δ', ⟨_, rfl, Nat.zero_le _, H01, δ, Same.refl _, s.go g1, i0⟩, ?_⟩
    rintro i m σ' H' ⟨rfl, hi, H0', δ', gr, s', p⟩
    by_cases hl : i < xs.length
    · refine .inr ⟨wk.go H0' H' i gr s'.toWf hl, fun σ2 H2 => ∃ H0'' δ'', Same H01 H0'' ∧ St C H0'' H2 σ2 δ'' ∧ I (i + 1) δ'', fun σ2 H2 ⟨H02, δ2, h1, h2, h3⟩ => ⟨_, by omega, rfl, hl, H02, δ2, h1, h2, h3⟩, fun v H'' y => ?_⟩
      obtain ⟨H02, z, g2, hz, rz⟩ := wk.yld H0' H' i v H'' gr s'.toWf hl y
      refine hg v z σ' δ' H02 H'' _ _ (s'.go g2) rz (it i z δ' hz p) fun σ2 δ2 s2 w2 => ?_
      refine hb σ2 δ2 H02 H'' _ _ s2 w2 ⟨fun H03 H3 σ3 δ3 e3 s3 p3 => ⟨H03, δ3, (gr.trans g2.fz).trans e3, s3, p3⟩, fun H03 H3 v3 r3 e3 w3 x3 p3 => e.rt H03 H3 v3 r3 (((g1.fz.trans gr).trans g2.fz).trans e3) w3 x3 p3,
        fun H03 H3 σ3 δ3 e3 s3 p3 => e.nx H03 H3 σ3 δ3 (((g1.fz.trans gr).trans g2.fz).trans e3) s3 p3, fun H03 H3 σ3 δ3 e3 s3 p3 => ⟨H03, δ3, (gr.trans g2.fz).trans e3, s3, p3⟩⟩
    · have hl' : i = xs.length := by omega
      exact .inl ⟨wk.stop H0' H' i gr s'.toWf (by omega), e.nx H0' H' σ' δ' (g1.fz.trans gr) s' (ie δ' (hl' ▸ p))⟩
/-- for .. in an owned list, which the turns leave -/
def dForO (j : Nat) (dg : DG) (db : DS) : DS := fun E δ => ∃ a xs, δ[j]? = some (some (.own a xs)) ∧ ∃ I : Nat → Dl → Prop, I 0 δ ∧
  (∀ i y δ', xs[i]? = some y → I i δ' → δ'[j]? = some (some (.own a xs)) ∧ dg y δ' fun δ'' => db { E with nx := I (i + 1), ct := I (i + 1), bk := E.nx } δ'') ∧ ∀ δ', I xs.length δ' → δ'[j]? = some (some (.own a xs)) ∧ E.nx δ'
theorem sms_forO (j : Nat) (hg : SmG C g dg) (hb : SmS C ts ds) : SmS C (tFor (iList C.K (tVar j)) g ts) (dForO j dg ds) := fun σ δ H0 H E D s ⟨a, xs, e0, I, i0, it, ie⟩ e => by
  obtain ⟨v, e1, rfl, h1, h2, h3, us, h4, h5⟩ := s.sl j _ e0
  refine ⟨_, e1, a, rfl, ⟨us, SqL.of h4⟩, fun i m σ H => m = xs.length - i ∧ i ≤ xs.length ∧ ∃ H0' δ', Same H0 H0' ∧ St C H0' H σ δ' ∧ I i δ', ⟨_, rfl, Nat.zero_le _, H0, δ, Same.refl _, s, i0⟩, ?_⟩
  rintro i m σ' H' ⟨rfl, hi, H0', δ', gr, s', p⟩
  by_cases hl : i < xs.length
  · obtain ⟨y, hy⟩ := get_lt hl
    obtain ⟨k1, k2⟩ := it i y δ' hy p
    obtain ⟨v', e1', e2', f1, f2, f3, ws, f4, f5⟩ := s'.sl j _ k1
    obtain ⟨u, hu, ru⟩ := f5.get hy
    refine .inr ⟨⟨ws, u, SqL.of f4, hu⟩, fun σ2 H2 => ∃ H0'' δ'', Same H0 H0'' ∧ St C H0'' H2 σ2 δ'' ∧ I (i + 1) δ'', fun σ2 H2 ⟨H02, δ2, h1, h2, h3⟩ => ⟨_, by omega, rfl, hl, H02, δ2, h1, h2, h3⟩, fun v H'' y' => ?_⟩
    obtain ⟨rfl, y'⟩ := y'
    have y' := y' ws (SqL.of f4)
    rw [hu] at y'
    cases y'
    refine hg u y σ' δ' H0' H'' _ _ s' ru k2 fun σ2 δ2 s2 w2 => ?_
    refine hb σ2 δ2 H0' H'' _ _ s2 w2 ⟨fun H03 H3 σ3 δ3 e3 s3 p3 => ⟨H03, δ3, gr.trans e3, s3, p3⟩, fun H03 H3 v3 r3 e3 w3 x3 p3 => e.rt H03 H3 v3 r3 (gr.trans e3) w3 x3 p3,
      fun H03 H3 σ3 δ3 e3 s3 p3 => e.nx H03 H3 σ3 δ3 (gr.trans e3) s3 p3, fun H03 H3 σ3 δ3 e3 s3 p3 => ⟨H03, δ3, gr.trans e3, s3, p3⟩⟩
  · have hl' : i = xs.length := by omega
    obtain ⟨k1, k2⟩ := ie δ' (hl' ▸ p)
    obtain ⟨v', e1', e2', f1, f2, f3, ws, f4, f5⟩ := s'.sl j _ k1
    exact .inl ⟨⟨ws, SqL.of f4, by rw [f5.length]; omega⟩, e.nx H0' H' σ' δ' gr s' k2⟩
def dWhile (dt : DT) (db : DS) : DS := fun E δ => ∃ I : Nat → Dl → Prop, (∃ m, I m δ) ∧ ∀ m δ', I m δ' → dt δ' fun b => if b = true then db { E with nx := fun δ'' => ∃ m', m' < m ∧ I m' δ'', ct := fun δ'' => ∃ m', m' < m ∧ I m' δ'', bk := E.nx } δ' else E.nx δ'
theorem sms_while (ht : SmT C tt dt) (hb : SmS C ts ds) : SmS C (tWhile tt ts) (dWhile dt ds) := fun σ δ H0 H E D s ⟨I, ⟨m0, i0⟩, it⟩ e => by
  refine ⟨fun m σ' H' => ∃ H0' δ', Same H0 H0' ∧ St C H0' H' σ' δ' ∧ I m δ', ⟨m0, H0, δ, Same.refl _, s, i0⟩, ?_⟩
  rintro m σ' H' ⟨H0', δ', gr, s', p⟩
  refine ht σ' δ' H0' H' _ _ s' (it m δ' p) fun H01 H1 b g1 w1 => ?_
  cases b with
  | true =>
    refine iteT ⟨fun σ2 H2 => ∃ m', m' < m ∧ ∃ H0'' δ'', Same H0 H0'' ∧ St C H0'' H2 σ2 δ'' ∧ I m' δ'', fun σ2 H2 h => h, ?_⟩
    refine hb σ' δ' H01 H1 { E with nx := fun δ'' => ∃ m', m' < m ∧ I m' δ'', ct := fun δ'' => ∃ m', m' < m ∧ I m' δ'', bk := E.nx } _ (s'.go g1) (by simpa using w1) ⟨fun H03 H3 σ3 δ3 e3 s3 ⟨m', hm, p3⟩ => ⟨m', hm, H03, δ3, (gr.trans g1.fz).trans e3, s3, p3⟩, fun H03 H3 v3 r3 e3 w3 x3 p3 => e.rt H03 H3 v3 r3 ((gr.trans g1.fz).trans e3) w3 x3 p3,
      fun H03 H3 σ3 δ3 e3 s3 p3 => e.nx H03 H3 σ3 δ3 ((gr.trans g1.fz).trans e3) s3 p3, fun H03 H3 σ3 δ3 e3 s3 ⟨m', hm, p3⟩ => ⟨m', hm, H03, δ3, (gr.trans g1.fz).trans e3, s3, p3⟩⟩
  | false => exact iteF (e.nx H01 H1 σ' δ' (gr.trans g1.fz) (s'.go g1) (by simpa using w1))

/-! ### comprehensions -/
@[simp] def dYes : DT := fun _ Φ => Φ true
theorem smt_yes : SmT C tYes dYes := fun σ δ H0 H Φ Q s w q => q H0 H true (.refl s.toWf) w
def oLc (di : DI) (i : Nat) (dt : DT) (de : DE) : DO := fun δ Φ => di δ fun xs => ∃ I : Nat → List PyData → Prop, I 0 [] ∧
  (∀ k y acc, xs[k]? = some y → I k acc → dt (δ.set i (some (.d y))) fun b => if b = true then de (δ.set i (some (.d y))) fun z => acc.length < sizeLine ∧ I (k + 1) (acc ++ [z]) else I (k + 1) acc) ∧ ∀ acc, I xs.length acc → Φ acc
theorem smo_lc {i : Nat} (hi : SmI C ti di) (ht : SmT C tt dt) (he : Sm C true te de) : SmO C (tLc ti (gName i) tt te [i]) (oLc di i dt de) := fun σ δ H0 H Φ Q s w q =>
  hi σ δ H0 H _ _ s w fun H01 H1 J xs g1 wk ⟨I, i0, it, ie⟩ D hD => by
    have hD0 : H D = none := g1.fresh hD
    refine ⟨fun k m H' => m = xs.length - k ∧ k ≤ xs.length ∧ ∃ H0' us acc, Go C H01 H1 H0' H' ∧ H0' D = none ∧ H' D = some (.lst us) ∧ RpA C.K H0' us acc ∧ I k acc, ⟨_, rfl, Nat.zero_le _, H01, [], [], Go.free g1.wf hD, g1.wf.none hD, upd_same, .nil, i0⟩, ?_⟩
    rintro k m H' ⟨rfl, hk, H0', us, acc, g2, hn, hl, r, p⟩
    have nex : C.ex ≠ some D := (Go.he g1.wf hD).2
    by_cases hlt : k < xs.length
    · refine .inr ⟨wk.go H0' H' k g2.fz g2.wf hlt, fun H3 => ∃ H0' us acc, Go C H01 H1 H0' H3 ∧ H0' D = none ∧ H3 D = some (.lst us) ∧ RpA C.K H0' us acc ∧ I (k + 1) acc, fun H3 h => ⟨_, by omega, rfl, hlt, h⟩, fun v H'' y => ?_⟩
      obtain ⟨H02, z, g3, hz, rz⟩ := wk.yld H0' H' k v H'' g2.fz g2.wf hlt y
      have g23 := g2.trans g3
      have keep : ∀ {A B : Hp}, Go C H02 H'' A B → A D = none ∧ B D = some (.lst us) := fun {A B} gg => by
        have h1 : B D = some (.lst us) := gg.kp D _ nex (g3.kp D _ nex hl)
        refine ⟨?_, h1⟩
        cases e : A D with
        | none => rfl
        | some u =>
          rcases (g3.trans gg).nw D u e with h2 | h2
          · rw [hn] at h2; cases h2
          · rw [hl] at h2; cases h2
      show wipe ((wipe σ [i]).set i (some v)) [i] = wipe σ [i] ∧ _
      refine ⟨by simp [wipe], ?_⟩
      have s2 : St C H02 H'' ((wipe σ [i]).set i (some v)) (δ.set i (some (.d z))) := by
        have := ((s.go ((g1.trans g2).trans g3)).none i).set_d i rz
        rw [List.set_set] at this
        rw [List.set_set] at this
        show St C H02 H'' ((σ.set i none).set i (some v)) (δ.set i (some (.d z)))
        rw [List.set_set]
        exact this
      refine ht _ _ H02 H'' _ _ s2 (it k z acc hz p) fun H04 H4 b g4 w4 => ?_
      cases b with
      | false => exact iteF ⟨H04, us, acc, g23.trans g4, (keep g4).1, (keep g4).2, r.mono (g3.fz.trans g4.fz), by simpa using w4⟩
      | true =>
        refine iteT (he _ _ H04 H4 (fun z => acc.length < sizeLine ∧ I (k + 1) (acc ++ [z])) _ (s2.go g4) (by simpa using w4) fun H05 H5 y' z' g5 r5 ⟨w5, p5⟩ => ?_)
        have k5 := keep (g4.trans g5)
        refine ⟨us, k5.2, by rw [r.length]; exact w5, H05, us ++ [y'], acc ++ [z'], ?_, k5.1, upd_same, (r.mono (g3.fz.trans (g4.fz.trans g5.fz))).snoc r5, p5⟩
        -- the list D is written: it is not frozen, and new since H1
        have gg := (g23.trans g4).trans g5
        refine ⟨⟨fun b u e => ?_, fun b u n e => ?_, gg.wf.fz, gg.wf.nw, fun c e => ?_⟩, gg.fz, fun b u n e => ?_, gg.nw⟩
        · rw [upd_ne (fun z => by rw [z, k5.1] at e; cases e)]; exact gg.wf.sub b u e
        · rw [upd_ne (fun z => by rw [z, (Go.he g1.wf hD).1] at e; cases e)]; exact gg.wf.kp b u n e
        · exact (gg.wf.dr c e).keep (Same.refl _) (gg.wf.dr c e).no (upd_ne (fun z => nex (by rw [← z]; exact e)))
        · rw [upd_ne (fun z => by rw [z, hD] at e; cases e)]; exact gg.kp b u n e
    · have hk' : k = xs.length := by omega
      refine .inl ⟨wk.stop H0' H' k g2.fz g2.wf (by omega), q H0' H' D us acc (g1.trans g2) hD0 hn hl r (ie acc (hk' ▸ p))⟩

/-! ### a def -/
@[simp] def startD (n : Nat) (rs : List R) : Dl := rs.map some ++ List.replicate (n - rs.length) none
theorem fn_ok {P : Program} {w : World} {K : PySem.W.Frag} {mg : Str → Option Value} {base : Heap} {x qual : Str} {st : Stmt} {fa : Addr} {fd : FuncData} {N ps : List Str} {k : Nat} {p : VSp}
    (F : Fun K x qual st fa fd) (S : FnScope N ps (defScope st))
    (hbody : ∀ (cdv : Value) (A : Around) (outer : List Env) (s : Shared) (H : Hp) (E : XK), Room k (A.deeper (PyProof.Rows.envOfC qual (defScope st) s.heap.objs.size fa cdv)) →
      ∃ t, PSs (cxOf CX0 P w K mg base N qual (defScope st) fa cdv A outer s H E).nox (defBody st) t ∧ ∃ d : DS, (∀ (ex : Option Addr) (He Hf : Hp), SmS ⟨K, ex, He, Hf⟩ t d) ∧ ∀ rs Φ, p rs Φ → d { nx := fun _ => Φ (.d .none), rt := Φ } (startD N.length rs)) : FnOk P w K mg base CX0 (k + 1) fa fd ps (toSp K ps.length p) := by
  refine F.ok S (fun vs H Q E h => h.1) (fun cdv A outer s H vs Q E hr h => ?_)
  obtain ⟨t, ht, d, hd, hp⟩ := hbody cdv A outer s H E hr
  obtain ⟨hl, ex, H0, rs, Φ, wf, ra, hsp, q⟩ := h
  refine ⟨t, ht, ?_⟩
  have hlen := ra.length
  refine hd ex H H0 _ (startD N.length rs) H0 H _ _ ⟨wf, ?_, fun i r e => ?_, fun i j a b xs ys n e1 e2 a1 a2 => ?_⟩ (hp rs Φ hsp) ⟨fun H0' H' σ δ g s' w' => ?_, fun H0' H' v r g w' xr p' => q H0' H' v r w' xr p', fun _ _ _ _ _ _ h => h.elim, fun _ _ _ _ _ _ h => h.elim⟩
  · simp [L2.start, startD, hlen]
  · unfold startD at e
    by_cases hi : i < rs.length
    · rw [List.getElem?_append_left (by simpa using hi), List.getElem?_map] at e
      cases e1 : rs[i]? with
      | none => rw [e1] at e; simp at e
      | some r' =>
        rw [e1] at e
        simp at e
        subst e
        obtain ⟨v, h1, h2⟩ := ra.get e1
        refine ⟨v, ?_, ?_⟩
        · unfold L2.start
          rw [List.getElem?_append_left (by rw [List.length_map, hlen]; exact hi), List.getElem?_map, h1]
          rfl
        · cases r' with
          | d x => exact h2
          | own a xs => exact h2.elim
          | drw => exact h2
          | raw u => exact h2
          | scr ns => exact h2
          | fn F => exact h2
          | dct a es => exact h2.elim
          | reg u m => exact h2.elim
    · rw [List.getElem?_append_right (by simpa using hi)] at e
      rw [List.getElem?_replicate] at e
      split at e <;> simp at e
  · exfalso
    have f : ∀ {i : Nat} {a : Addr} {r : R}, (startD N.length rs)[i]? = some (some r) → a ∈ r.adr → False := fun {i a r} e ea => by
      unfold startD at e
      by_cases hi : i < rs.length
      · rw [List.getElem?_append_left (by simpa using hi), List.getElem?_map] at e
        cases e1 : rs[i]? with
        | none => rw [e1] at e; simp at e
        | some r' =>
          rw [e1] at e
          simp at e
          subst e
          obtain ⟨v, h1, h2⟩ := ra.get e1
          cases r' with
          | own a xs => exact h2
          | dct a xs => exact h2
          | reg u m => exact h2
          | d x => cases ea
          | drw => cases ea
          | raw u => cases ea
          | scr ns => cases ea
          | fn F => cases ea
      · rw [List.getElem?_append_right (by simpa using hi)] at e
        rw [List.getElem?_replicate] at e
        split at e <;> simp at e
    exact f e1 a1
  · exact q H0' H' .non (.d .none) s'.toWf .non w'

/-! ### the row of numbers that a law draws from -/
/-- how many a draw may be of -/
def Tk (m : Int) : Prop := 0 < m ∧ m.natAbs < 2 ^ 8000
theorem tk_of {m : Int} (h : 0 < m) (h2 : m ≤ 1180591620717411303424) : Tk m := ⟨h, Nat.lt_of_lt_of_le (show m.natAbs < 2 ^ 71 by omega) (Nat.pow_le_pow_right (by decide) (by decide))⟩
@[simp] theorem tk_simp {m : Int} (h : 0 < m) (h2 : m ≤ 1180591620717411303424) : Tk m ↔ True := ⟨fun _ => trivial, fun _ => tk_of h h2⟩
/-- a number below many -/
@[simp] def spTake : VSp := fun rs Φ => ∃ many : Int, rs = [.drw, .d (.int many)] ∧ Tk many ∧ ∀ r : Int, 0 ≤ r → r < many → Φ (.d (.int r))
theorem spTake_len : ∀ rs Φ, spTake rs Φ → rs.length = 2 := fun rs Φ ⟨_, e, _⟩ => by rw [e]; rfl
/-- the row is made -/
def spDraw (K : PySem.W.Frag) : Sp := fun vs H Q _ => ∃ (a : Addr) (ns : List Int), vs = [.ref a] ∧ SqL K H a (ns.map V.int) ∧ ns.length ≤ 63 ∧
  ∀ H' p c (s : Int) (cells : List Int), Same H H' → H' p = some (.lst [.ref c, .int (-1), .int 0, .int s]) → H' c = some (.lst (cells.map V.int)) → c ≠ p → (∀ x ∈ cells, 0 ≤ x) → 0 ≤ s → s < 2147483647 → Q (.ref p) H'
def spLaw (K : PySem.W.Frag) : Sp := fun vs H Q _ => ∃ (a : Addr) (ns : List Int), vs = [.ref a] ∧ SqL K H a (ns.map V.int) ∧ ns.length ≤ 63 ∧ ∀ H', Q (.bl true) H'
/-- the draw's row is written -/
theorem Wf.draw {p c : Addr} {i v s : Int} (w : Wf C H0 H) (e : C.ex = some p) (h : H p = some (.lst [.ref c, .int i, .int v, .int s])) {i' v' s' : Int} (h1 : -1 ≤ i') (h2 : 0 ≤ v') (h3 : 0 ≤ s') (h4 : s' < 2147483647) :
    Wf C H0 (upd H p (.lst [.ref c, .int i', .int v', .int s'])) := by
  have g3 := (w.dr p e).no
  have gd : Draw1 H0 H p := (w.dr p e).2.1.elim id fun ⟨_, z, _⟩ => by rw [h] at z; cases z
  obtain ⟨c0, i0, v0, s0, cells, g1, g2, g4, g5⟩ := gd
  rw [h] at g1
  cases g1
  refine ⟨fun b u q => ?_, fun b u n q => ?_, w.fz, w.nw, fun p' e' => ?_⟩
  · rw [upd_ne (fun z => by rw [z, g3] at q; cases q)]; exact w.sub b u q
  · rw [upd_ne (fun z => by rw [z] at n; exact n e)]; exact w.kp b u n q
  · rw [e] at e'; cases e'
    exact ⟨g3, .inl ⟨c, i', v', s', cells, upd_same, g2, g4, h1, h2, h3, h4⟩, Iff.intro (fun z => by
      obtain ⟨ps, z⟩ := (w.dr p e).2.2.mp z
      rw [h] at z; cases z) (fun z => by
      obtain ⟨ps, z⟩ := z
      rw [upd_same] at z; cases z)⟩
/-- the law's own body behind «draw = _law_draw(script)» -/
theorem law_start {K : PySem.W.Frag} {p c : Addr} {s : Int} {cells : List Int} {H' : Hp} (h1 : H' p = some (.lst [.ref c, .int (-1), .int 0, .int s])) (h2 : H' c = some (.lst (cells.map V.int))) (h3 : c ≠ p) (h4 : ∀ x ∈ cells, 0 ≤ x) (h5 : 0 ≤ s) (h6 : s < 2147483647)
    {a : Addr} {n : Nat} {t : TS} {d : DS} (hd : ∀ (ex : Option Addr) (He Hf : Hp), SmS ⟨K, ex, He, Hf⟩ t d) {Q : VK} (hQ : ∀ H', Q (.bl true) H')
    (hp : ∀ raw : V, d { nx := fun _ => False, rt := fun r => r = .d (.bool true) } (some (.raw raw) :: some .drw :: List.replicate n none)) :
    t { nx := fun _ H' => Q .non H', rt := Q } (some (.ref a) :: some (.ref p) :: List.replicate n none) H' := by
  have w : Wf ⟨K, some p, H', fun b => if b = p then none else H' b⟩ (fun b => if b = p then none else H' b) H' := by
    refine ⟨fun b o e => ?_, fun _ _ _ e => e, Same.refl _, fun _ _ e => .inl e, fun q e => ?_⟩
    · split at e
      · cases e
      · exact e
    · cases e
      exact ⟨if_pos rfl, .inl ⟨c, -1, 0, s, cells, h1, by show (if c = p then none else H' c) = _; rw [if_neg h3]; exact h2, h4, by omega, by omega, h5, h6⟩, Iff.rfl⟩
  refine hd (some p) H' (fun b => if b = p then none else H' b) _ _ _ H' _ _ ⟨w, by simp, fun i r e => ?_, fun i j a b xs ys n e1 e2 a1 a2 => ?_⟩ (hp (.ref a)) ⟨fun _ _ _ _ _ _ h => h.elim, fun H0' H'' v r g w' x e => ?_, fun _ _ _ _ _ _ h => h.elim, fun _ _ _ _ _ _ h => h.elim⟩
  · match i with
    | 0 => simp at e; subst e; exact ⟨_, rfl, rfl⟩
    | 1 => simp at e; subst e; exact ⟨_, rfl, p, rfl, rfl, fun ⟨_, z⟩ => by rw [show H' p = some (HO.tbl _) from z] at h1; cases h1⟩
    | i + 2 =>
      rw [List.getElem?_cons_succ, List.getElem?_cons_succ, List.getElem?_replicate] at e
      split at e <;> simp at e
  · match i with
    | 0 => simp at e1; subst e1; cases a1
    | 1 => simp at e1; subst e1; cases a1
    | i + 2 =>
      rw [List.getElem?_cons_succ, List.getElem?_cons_succ, List.getElem?_replicate] at e1
      split at e1 <;> simp at e1
  · subst e
    cases x
    exact hQ _
end
section
/-- a law that reads its script itself -/
theorem law_plain {K : PySem.W.Frag} {a : Addr} {ns : List Int} {H : Hp} {Q : VK} {n : Nat} {t : TS} {d : DS} (hS : SqL K H a (ns.map V.int)) (k : ∀ H', Q (.bl true) H') (hd : ∀ (ex : Option Addr) (He Hf : Hp), SmS ⟨K, ex, He, Hf⟩ t d)
    (hp : d { nx := fun _ => False, rt := fun r => r = .d (.bool true) } (some (.scr ns) :: List.replicate n none)) : t { nx := fun _ H' => Q .non H', rt := Q } (some (.ref a) :: List.replicate n none) H := by
  refine hd none H H _ _ H H _ _ ⟨⟨Same.refl _, fun _ _ _ e => e, Same.refl _, fun _ _ e => .inl e, fun p e => by cases e⟩, by simp, fun i r e => ?_, fun i j a b xs ys n e1 e2 a1 a2 => ?_⟩ hp ⟨fun _ _ _ _ _ _ h => h.elim, fun H0' H'' v r g w' x e => ?_, fun _ _ _ _ _ _ h => h.elim, fun _ _ _ _ _ _ h => h.elim⟩
  · match i with
    | 0 => simp at e; subst e; exact ⟨_, rfl, a, rfl, hS⟩
    | i + 1 =>
      rw [List.getElem?_cons_succ, List.getElem?_replicate] at e
      split at e <;> simp at e
  · match i with
    | 0 => simp at e1; subst e1; cases a1
    | i + 1 =>
      rw [List.getElem?_cons_succ, List.getElem?_replicate] at e1
      split at e1 <;> simp at e1
  · subst e
    cases x
    exact k _
/-- what is never reached -/
@[simp] def dNever : DS := fun _ _ => False
theorem sms_never {C : Ctx} {t : TS} : SmS C t dNever := fun _ _ _ _ _ _ _ h => h.elim
end
/-! ### rules of the hand layer whose words name the written part: said with it -/
section
variable {X : Cx} {K : PySem.W.Frag}
theorem kx_seq (h : X.K = K) : IxR X (rIx K) := by subst h; exact ix_seq
theorem kx_in (h : X.K = K) : OpR X (compareOp .In) (rIn K false) := by subst h; exact op_in_seq
theorem kx_notIn (h : X.K = K) : OpR X (compareOp .NotIn) (rIn K true) := by subst h; exact op_notIn_seq
theorem kx_eqD (h : X.K = K) (hu : X.A.units + 64 < cLine) : OpR X (compareOp .Eq) (rEqD K) := by subst h; exact op_eqD hu
theorem kx_neD (h : X.K = K) (hu : X.A.units + 64 < cLine) : OpR X (compareOp .NotEq) (rNeD K) := by subst h; exact op_neD hu
theorem kx_len (h : X.K = K) : CallR X (.builtin "len") (fun xs H Q => ∃ x n, xs = [x] ∧ LenV K x H n ∧ Q (.int n) H) := by subst h; exact call_len
theorem kx_list (h : X.K = K) : CallR X (.type "list") (fun xs H Q => ∃ p ys, xs = [.ref p] ∧ (SqL K H p ys ∨ SqT K H p ys) ∧ ∀ l, H l = none → Q (.ref l) (upd H l (.lst ys))) := by subst h; exact call_list_of
theorem kx_tuple (h : X.K = K) : CallR X (.type "tuple") (fun xs H Q => ∃ p ys, xs = [.ref p] ∧ ((SqL K H p ys ∧ ∀ l, H l = none → Q (.ref l) (upd H l (.tup ys))) ∨ (SqT K H p ys ∧ Q (.ref p) H))) := by subst h; exact call_tuple_of
theorem kx_isi (h : X.K = K) : CallR X (.builtin "isinstance") (rIsi K) := by subst h; exact call_isi
theorem kpi_list (h : X.K = K) {tg e : Expr} {tl : TE} (he : PE X e tl) : PI X tg e (iList K tl) := by subst h; exact pi_list he
theorem kpi_tup (h : X.K = K) {tg e : Expr} {tl : TE} (he : PE X e tl) : PI X tg e (iTup K tl) := by subst h; exact pi_tup he
end
end VL

/-! Facts about the layer's words. -/
namespace VL
open PySem L2
@[simp] theorem scal_ii (i j : Int) : scal (.int i) (.int j) = true := rfl
@[simp] theorem scal_ss (i j : Str) : scal (.str i) (.str j) = true := rfl
@[simp] theorem scal_bb (i j : Bool) : scal (.bl i) (.bl j) = true := rfl
@[simp] theorem scal_nn : scal .non .non = true := rfl
@[simp] theorem scal_ni (i : Int) : scal .non (.int i) = true := rfl
@[simp] theorem scal_in (i : Int) : scal (.int i) .non = true := rfl
@[simp] theorem scal_si (s : Str) (i : Int) : scal (.str s) (.int i) = true := rfl
@[simp] theorem scal_is (s : Str) (i : Int) : scal (.int i) (.str s) = true := rfl
@[simp] theorem scal_ns (s : Str) : scal .non (.str s) = true := rfl
@[simp] theorem scal_sn (s : Str) : scal (.str s) .non = true := rfl
@[simp] theorem eqv_ii (i j : Int) : PyData.eqv (.int i) (.int j) = (i == j) := by simp [PyData.eqv]
@[simp] theorem eqv_ss (i j : Str) : PyData.eqv (.str i) (.str j) = decide (i = j) := by rw [Bool.eq_iff_iff]; simp [PyData.eqv]
@[simp] theorem own_ex {α β : Type} {a0 : α} {xs0 : β} {P : α → β → Prop} : (∃ a xs, (a0 = a ∧ xs0 = xs) ∧ P a xs) ↔ P a0 xs0 := ⟨fun ⟨_, _, ⟨e1, e2⟩, h⟩ => by subst e1 e2; exact h, fun h => ⟨_, _, ⟨rfl, rfl⟩, h⟩⟩
@[simp] theorem kit_NoneType_tuple : kitB "NoneType" "tuple" = some false := by decide +kernel
@[simp] theorem kit_NoneType_list : kitB "NoneType" "list" = some false := by decide +kernel
@[simp] theorem kit_NoneType_bool : kitB "NoneType" "bool" = some false := by decide +kernel
@[simp] theorem kit_NoneType_int : kitB "NoneType" "int" = some false := by decide +kernel
@[simp] theorem kit_NoneType_str : kitB "NoneType" "str" = some false := by decide +kernel
@[simp] theorem kit_NoneType_dict : kitB "NoneType" "dict" = some false := by decide +kernel
@[simp] theorem kit_bool_tuple : kitB "bool" "tuple" = some false := by decide +kernel
@[simp] theorem kit_bool_list : kitB "bool" "list" = some false := by decide +kernel
@[simp] theorem kit_bool_bool : kitB "bool" "bool" = some true := by decide +kernel
@[simp] theorem kit_bool_int : kitB "bool" "int" = some true := by decide +kernel
@[simp] theorem kit_bool_str : kitB "bool" "str" = some false := by decide +kernel
@[simp] theorem kit_bool_dict : kitB "bool" "dict" = some false := by decide +kernel
@[simp] theorem kit_int_tuple : kitB "int" "tuple" = some false := by decide +kernel
@[simp] theorem kit_int_list : kitB "int" "list" = some false := by decide +kernel
@[simp] theorem kit_int_bool : kitB "int" "bool" = some false := by decide +kernel
@[simp] theorem kit_int_int : kitB "int" "int" = some true := by decide +kernel
@[simp] theorem kit_int_str : kitB "int" "str" = some false := by decide +kernel
@[simp] theorem kit_int_dict : kitB "int" "dict" = some false := by decide +kernel
@[simp] theorem kit_str_tuple : kitB "str" "tuple" = some false := by decide +kernel
@[simp] theorem kit_str_list : kitB "str" "list" = some false := by decide +kernel
@[simp] theorem kit_str_bool : kitB "str" "bool" = some false := by decide +kernel
@[simp] theorem kit_str_int : kitB "str" "int" = some false := by decide +kernel
@[simp] theorem kit_str_str : kitB "str" "str" = some true := by decide +kernel
@[simp] theorem kit_str_dict : kitB "str" "dict" = some false := by decide +kernel
@[simp] theorem kit_list_tuple : kitB "list" "tuple" = some false := by decide +kernel
@[simp] theorem kit_list_list : kitB "list" "list" = some true := by decide +kernel
@[simp] theorem kit_list_bool : kitB "list" "bool" = some false := by decide +kernel
@[simp] theorem kit_list_int : kitB "list" "int" = some false := by decide +kernel
@[simp] theorem kit_list_str : kitB "list" "str" = some false := by decide +kernel
@[simp] theorem kit_list_dict : kitB "list" "dict" = some false := by decide +kernel
@[simp] theorem kit_tuple_tuple : kitB "tuple" "tuple" = some true := by decide +kernel
@[simp] theorem kit_tuple_list : kitB "tuple" "list" = some false := by decide +kernel
@[simp] theorem kit_tuple_bool : kitB "tuple" "bool" = some false := by decide +kernel
@[simp] theorem kit_tuple_int : kitB "tuple" "int" = some false := by decide +kernel
@[simp] theorem kit_tuple_str : kitB "tuple" "str" = some false := by decide +kernel
@[simp] theorem kit_tuple_dict : kitB "tuple" "dict" = some false := by decide +kernel
@[simp] theorem kit_dict_tuple : kitB "dict" "tuple" = some false := by decide +kernel
@[simp] theorem kit_dict_list : kitB "dict" "list" = some false := by decide +kernel
@[simp] theorem kit_dict_bool : kitB "dict" "bool" = some false := by decide +kernel
@[simp] theorem kit_dict_int : kitB "dict" "int" = some false := by decide +kernel
@[simp] theorem kit_dict_str : kitB "dict" "str" = some false := by decide +kernel
@[simp] theorem kit_dict_dict : kitB "dict" "dict" = some true := by decide +kernel
@[simp] theorem at_0 {α : Type} (a : α) (xs : List α) : atI (a :: xs) 0 = some a := by simp [atI, ixN]
@[simp] theorem at_1 {α : Type} (a b : α) (xs : List α) : atI (a :: b :: xs) 1 = some b := by
  have : (1 : Int) < (xs.length : Int) + 1 + 1 := by omega
  simp [atI, ixN, this]
@[simp] theorem at_2 {α : Type} (a b c : α) (xs : List α) : atI (a :: b :: c :: xs) 2 = some c := by
  have : (2 : Int) < (xs.length : Int) + 1 + 1 + 1 := by omega
  simp [atI, ixN, this]
@[simp] theorem at_3 {α : Type} (a b c d : α) (xs : List α) : atI (a :: b :: c :: d :: xs) 3 = some d := by
  have : (3 : Int) < (xs.length : Int) + 1 + 1 + 1 + 1 := by omega
  simp [atI, ixN, this]
@[simp] theorem at_4 {α : Type} (a b c d e : α) (xs : List α) : atI (a :: b :: c :: d :: e :: xs) 4 = some e := by
  have : (4 : Int) < (xs.length : Int) + 1 + 1 + 1 + 1 + 1 := by omega
  simp [atI, ixN, this]
theorem int_at {ns : List Int} {i : Nat} {z : PyData} (h : (ns.map PyData.int)[i]? = some z) : ∃ u, ns[i]? = some u ∧ z = .int u := by
  rw [List.getElem?_map] at h
  cases e : ns[i]? with
  | none => rw [e] at h; cases h
  | some u => rw [e] at h; exact ⟨u, rfl, (Option.some.inj h).symm⟩
theorem seq_by {d1 d2 : DS} {E : DEnds} {δ : Dl} (J : Dl → Prop) (h2 : ∀ δ', J δ' → d2 E δ') (h1 : ∀ N : Dl → Prop, (∀ δ', J δ' → N δ') → d1 { E with nx := N } δ) : dSeq d1 d2 E δ := h1 _ h2
/-- a comprehension over range(n) -/
theorem oLc_n {da : DE} {i : Nat} {de : DE} {δ : Dl} {Φ : List PyData → Prop} {n : Nat} (hn : n < 1000000) (h : ∀ Ψ : PyData → Prop, Ψ (.int n) → da δ Ψ) (P : List PyData → Prop) (h0 : P [])
    (hs : ∀ (k : Nat) (acc : List PyData) (Ψ : PyData → Prop), k < n → acc.length = k → P acc → (∀ z, P (acc ++ [z]) → Ψ z) → de (δ.set i (some (.d (.int k)))) Ψ) (hΦ : ∀ acc, acc.length = n → P acc → Φ acc) : oLc (iR1 da) i dYes de δ Φ := by
  unfold oLc
  refine h _ ⟨n, rfl, by omega, by omega, fun k acc => acc.length = k ∧ P acc, ⟨rfl, h0⟩, fun k y acc hy ha => ?_, fun acc ha => ?_⟩
  · obtain ⟨hk, rfl⟩ := rng_get hy
    have hk : k < n := hk
    unfold dYes
    dsimp only
    rw [if_pos rfl]
    rw [show (0 : Int) + (k : Int) = (k : Int) from Int.zero_add _]
    refine hs k acc _ hk ha.1 ha.2 fun z hz => ⟨?_, ?_, hz⟩
    · rw [ha.1]
      exact Nat.lt_of_lt_of_le (show k < 1000000 by omega) (by decide)
    · rw [List.length_append, ha.1]; rfl
  · rw [rng_len] at ha
    exact hΦ acc ha.1 ha.2
/-- a comprehension over a walked list, its answer a function of the items -/
theorem oLc_map {di : DI} {i : Nat} {de : DE} {δ : Dl} {Φ : List PyData → Prop} {xs : List PyData} (F : PyData → PyData) (hn : xs.length < 1000000) (h : ∀ Ψ : List PyData → Prop, Ψ xs → di δ Ψ)
    (hs : ∀ (k : Nat) (y : PyData) (Ψ : PyData → Prop), xs[k]? = some y → Ψ (F y) → de (δ.set i (some (.d y))) Ψ) (hΦ : Φ (xs.map F)) : oLc di i dYes de δ Φ := by
  unfold oLc
  refine h _ ⟨fun k acc => acc = (xs.take k).map F, by simp, fun k y acc hy ha => ?_, fun acc ha => ?_⟩
  · subst ha
    unfold dYes
    dsimp only
    rw [if_pos rfl]
    have hk := (List.getElem?_eq_some_iff.mp hy).1
    refine hs k y _ hy ⟨?_, ?_⟩
    · rw [List.length_map, List.length_take]
      exact Nat.lt_of_lt_of_le (show min k xs.length < 1000000 by omega) (by decide)
    · rw [List.take_add_one, hy, List.map_append]
      rfl
  · subst ha
    rw [List.take_length]
    exact hΦ
theorem depth_ints : ∀ ns : List Int, PyData.depthAll (ns.map PyData.int) = 0
  | [] => rfl
  | _ :: r => by simp only [List.map_cons, PyData.depthAll, PyData.depth, depth_ints r, Nat.max_self]
/-! ### data without texts: they compare by themselves -/
theorem canLay_ints : ∀ ns : List Int, PyData.canLayAll0 (ns.map PyData.int) = true
  | [] => rfl
  | _ :: r => by simp only [List.map_cons, PyData.canLayAll0, PyData.canLay0, canLay_ints r, Bool.and_self]
theorem eqvAll_ints : ∀ a b : List Int, PyData.eqvAll (a.map PyData.int) (b.map PyData.int) = decide (a = b)
  | [], [] => by simp [PyData.eqvAll]
  | [], _ :: _ => by simp [PyData.eqvAll]
  | _ :: _, [] => by simp [PyData.eqvAll]
  | x :: a, y :: b => by
    simp only [List.map_cons, PyData.eqvAll, eqv_ii, eqvAll_ints a b, List.cons.injEq]
    by_cases h : x = y <;> by_cases k : a = b <;> simp [h, k]
@[simp] theorem eqv_ints (a b : List Int) : PyData.eqv (.list (a.map PyData.int)) (.list (b.map PyData.int)) = decide (a = b) := by
  rw [PyData.eqv, eqvAll_ints]
@[simp] theorem shaped_ints (ns : List Int) : SeqAt.shaped (.list (ns.map PyData.int)) = true := by
  unfold SeqAt.shaped
  rw [PyData.canLay0, canLay_ints, PyData.depth, depth_ints]
  rfl
@[simp] theorem shaped_intsT (ns : List Int) : SeqAt.shaped (.tuple (ns.map PyData.int)) = true := by
  unfold SeqAt.shaped
  rw [PyData.canLay0, canLay_ints, PyData.depth, depth_ints]
  rfl
@[simp] theorem shaped_i (i : Int) : SeqAt.shaped (.int i) = true := rfl
/-! ### more statements and expressions -/
section
variable {C : Ctx} {f f1 f2 f3 : Bool} {ta tb tc td : TE} {da db dc dd : DE}
@[simp] def dPar (i j : Nat) (da db : DE) : DS := fun E δ => da δ fun x => db δ fun y => E.nx ((δ.set i (some (.d x))).set j (some (.d y)))
theorem sms_par (i j : Nat) (ha : Sm C true ta da) (hb : Sm C true tb db) : SmS C (tPar i j (tCons ta (tCons tb tNil))) (dPar i j da db) := fun σ δ H0 H E D s w e =>
  ha σ δ H0 H _ _ s w fun H01 H1 v x g1 r1 w1 => hb σ δ H01 H1 _ _ (s.go g1) w1 fun H02 H2 u y g2 r2 w2 =>
    ⟨v, u, rfl, e.nx _ _ _ _ (g1.fz.trans g2.fz) ((((s.go g1).go g2).set_d i (Rp.mono g2.fz r1)).set_d j r2) w2⟩
@[simp] def dChain (g g' : PyData → PyData → (PyData → Prop) → Prop) (da db dc : DE) : DE := fun δ Φ => da δ fun x => db δ fun y => g x y fun z => ∃ k, z = .bool k ∧ if k = true then dc δ fun w => g' y w Φ else Φ (.bool false)
theorem sm_chain {r r' : R2} {g g' : PyData → PyData → (PyData → Prop) → Prop} (hr : OpD C r g) (hr' : OpD C r' g') (ha : Sm C f1 ta da) (hb : Sm C f2 tb db) (hc : Sm C f3 tc dc) : Sm C f (tChain r r' ta tb tc) (dChain g g' da db dc) := fun σ δ H0 H Φ Q s w q =>
  ha σ δ H0 H _ _ s w fun H01 H1 v x g1 r1 w1 => hb σ δ H01 H1 _ _ (s.go g1) w1 fun H02 H2 u y g2 r2 w2 =>
    hr H2 v u x y _ _ ((r1.mono g2.loc).mono g2.wf.loc) (r2.mono g2.wf.loc) w2 fun w' z hz ⟨k, e, p⟩ => by
      subst e
      have hz := hz H2
      cases hz
      refine ⟨k, rfl, ?_⟩
      cases k with
      | false => exact iteF (q _ _ _ _ (g1.trans g2) (.bl false) (by simpa using p))
      | true =>
        exact iteT (hc σ δ H02 H2 _ _ ((s.go g1).go g2) (by simpa using p) fun H03 H3 t w3 g3 r3 p3 =>
          hr' H3 u t y w3 Φ Q ((r2.mono g3.loc).mono g3.wf.loc) (r3.mono g3.wf.loc) p3 fun w' z hz p => q _ _ w' z ((g1.trans g2).trans g3) (hz _) p)
/-- an object that is not frozen, new since the start, is written -/
theorem Go.wr {H0 H H0' H' : Hp} {p : Addr} {o : HO} (w : Wf C H0 H) (hp : H p = none) (g : Go C H0 H H0' H') (hn : H0' p = none) : Go C H0 H H0' (upd H' p o) := by
  obtain ⟨he, nex⟩ := Go.he w hp
  refine ⟨⟨fun b u e => ?_, fun b u n e => ?_, g.wf.fz, g.wf.nw, fun c e => ?_⟩, g.fz, fun b u n e => ?_, g.nw⟩
  · rw [upd_ne (fun z => by rw [z, hn] at e; cases e)]; exact g.wf.sub b u e
  · rw [upd_ne (fun z => by rw [z, he] at e; cases e)]; exact g.wf.kp b u n e
  · exact (g.wf.dr c e).keep (Same.refl _) (g.wf.dr c e).no (upd_ne (fun z => nex (by rw [← z]; exact e)))
  · rw [upd_ne (fun z => by rw [z, hp] at e; cases e)]; exact g.kp b u n e
/-- {k1: a, k2: b, k3: c}[d], the keys written texts -/
@[simp] def dMenu3 (k1 k2 k3 : Str) (da db dc dd : DE) : DE := fun δ Φ => da δ fun x => db δ fun y => dc δ fun z => ∃ i j k, x = .int i ∧ y = .int j ∧ z = .int k ∧ ¬ k2 = k1 ∧ ¬ k3 = k1 ∧ ¬ k3 = k2 ∧ dd δ fun t => ∃ s, t = .str s ∧
  ((s = k1 ∧ Φ (.int i)) ∨ (s = k2 ∧ Φ (.int j)) ∨ (s = k3 ∧ Φ (.int k)))
theorem sm_menu3 {k1 k2 k3 : Str} (ha : Sm C f1 ta da) (hb : Sm C f2 tb db) (hc : Sm C f3 tc dc) (hd : Sm C false td dd) : Sm C f (tDGet (tDisp [(tC (.str k1), ta), (tC (.str k2), tb), (tC (.str k3), tc)]) td) (dMenu3 k1 k2 k3 da db dc dd) := fun σ δ H0 H Φ Q s w q => by
  intro p hp
  have gp : Go C H0 H H0 (upd H p (.dK [])) := Go.free s.toWf hp
  have nex := (Go.he s.toWf hp).2
  refine ha σ δ H0 _ _ _ (s.go gp) w fun H01 H1 v x g1 r1 w1 => hb σ δ H01 H1 _ _ ((s.go gp).go g1) w1 fun H02 H2 u y g2 r2 w2 => hc σ δ H02 H2 _ _ (((s.go gp).go g1).go g2) w2 fun H03 H3 t z g3 r3 w3 => ?_
  have g123 := (g1.trans g2).trans g3
  have hk : H3 p = some (.dK []) := g123.kp p _ nex upd_same
  have g0 := gp.trans g123
  have hn : H03 p = none := by
    cases e : H03 p with
    | none => rfl
    | some o =>
      rcases g123.nw p o e with h | h
      · rw [s.toWf.none hp] at h; cases h
      · rw [upd_same] at h; cases h
  obtain ⟨i, j, k, rfl, rfl, rfl, n1, n2, n3, w4⟩ := w3
  cases r1
  cases r2
  cases r3
  have m1 : mergeK [] [((.inr k1 : Key), V.int i), (.inr k2, .int j), (.inr k3, .int k)] = [((.inr k1 : Key), V.int i), (.inr k2, .int j), (.inr k3, .int k)] := by
    simp [mergeK, putK, Ne.symm n1, Ne.symm n2, Ne.symm n3, n1, n2, n3]
  refine ⟨hk, [((.inr k1 : Key), V.int i), (.inr k2, .int j), (.inr k3, .int k)], rfl, by simp, ?_⟩
  rw [m1]
  have g4 := Go.wr (o := .dK [((.inr k1 : Key), V.int i), (.inr k2, .int j), (.inr k3, .int k)]) s.toWf hp g0 hn
  refine hd σ δ H03 _ _ _ (s.go g4) w4 fun H05 H5 v5 x5 g5 r5 ⟨st, e5, p5⟩ => ?_
  subst e5
  cases r5
  have h5 : H5 p = some (.dK [((.inr k1 : Key), V.int i), (.inr k2, .int j), (.inr k3, .int k)]) := g5.kp p _ nex upd_same
  rcases p5 with ⟨rfl, p5⟩ | ⟨rfl, p5⟩ | ⟨rfl, p5⟩
  · refine ⟨p, .int i, rfl, .inl ⟨_, .inr st, .inl h5, rfl, ?_⟩, q _ _ _ _ (g4.trans g5) (.int i) p5⟩
    simp [valV]
  · refine ⟨p, .int j, rfl, .inl ⟨_, .inr st, .inl h5, rfl, ?_⟩, q _ _ _ _ (g4.trans g5) (.int j) p5⟩
    simp [valV, Ne.symm n1]
  · refine ⟨p, .int k, rfl, .inl ⟨_, .inr st, .inl h5, rfl, ?_⟩, q _ _ _ _ (g4.trans g5) (.int k) p5⟩
    simp [valV, Ne.symm n2, Ne.symm n3]
/-- an item of a written dict with text keys -/
def KdL (K : PySem.W.Frag) (w : World) (a : Addr) (L : List (Str × PyData)) : Prop := ∀ k v, (k, v) ∈ L → ∃ u, KDct K w a k u ∧ isScalV u = some v
theorem KdL.nil {K : PySem.W.Frag} {w : World} {a : Addr} : KdL K w a [] := fun _ _ h => nomatch h
theorem KdL.cons {K : PySem.W.Frag} {w : World} {a : Addr} {L : List (Str × PyData)} {k : Str} {v : PyData} {u : V} (h : KDct K w a k u) (e : isScalV u = some v) (t : KdL K w a L) : KdL K w a ((k, v) :: L) := fun k' v' h' => by
  rcases List.mem_cons.mp h' with h' | h'
  · cases h'; exact ⟨u, h, e⟩
  · exact t k' v' h'
theorem kd_i {K : PySem.W.Frag} {w : World} {a : Addr} {es : Array DictEntry} {n : Nat} {k : Str} {i : Int} {t : Tok} (h : K.lookup a = some ⟨.type "dict", none, .dict es n, #[]⟩) (hk : PySem.W.KeysLit w.params es.toList) (e : PySem.W.nsIn K a k = some (some (.int i t))) : KDct K w a k (.int i) := ⟨es, n, _, h, hk, e, ⟨t, rfl⟩⟩
theorem kd_s {K : PySem.W.Frag} {w : World} {a : Addr} {es : Array DictEntry} {n : Nat} {k : Str} {i : Str} {t : Tok} (h : K.lookup a = some ⟨.type "dict", none, .dict es n, #[]⟩) (hk : PySem.W.KeysLit w.params es.toList) (e : PySem.W.nsIn K a k = some (some (.str i t))) : KDct K w a k (.str i) := ⟨es, n, _, h, hk, e, ⟨t, rfl⟩⟩
theorem kx_kdict {X : Cx} {K : PySem.W.Frag} {w : World} (h : X.K = K) (h2 : X.w = w) : IxR X (rIxD K w) := by subst h h2; exact ix_kdict
@[simp] def dKd (L : List (Str × PyData)) (db : DE) : DE := fun δ Φ => db δ fun y => ∃ s v, y = .str s ∧ (s, v) ∈ L ∧ Φ v
theorem sm_kd {w : World} {a : Addr} {L : List (Str × PyData)} {v : V} (hv : v = .ref a) (hL : KdL C.K w a L) (hb : Sm C f1 tb db) : Sm C f (tOp (rIxD C.K w) (tC v) tb) (dKd L db) := fun σ δ H0 H Φ Q s w q =>
  hb σ δ H0 H _ _ s w fun H01 H1 u y g1 r1 ⟨st, z, e, m, p⟩ => by
    subst e
    cases r1
    obtain ⟨z', h1, h2⟩ := hL _ _ m
    exact ⟨a, st, z', hv, rfl, h1, q _ _ _ _ g1 (isScal_rp h2 _) p⟩
/-- a part of a text -/
abbrev DP := Dl → (Option Int → Prop) → Prop
def SmP (C : Ctx) (tp : TO) (dp : DP) : Prop := ∀ (σ : L2.St) (δ : Dl) (H0 H : Hp) (Φ : Option Int → Prop) (Q : Option Int → Hp → Prop), St C H0 H σ δ → dp δ Φ → (∀ H0' H' o, Go C H0 H H0' H' → Φ o → Q o H') → tp σ H Q
@[simp] def pNone : DP := fun _ Φ => Φ none
@[simp] def pSome (da : DE) : DP := fun δ Φ => da δ fun x => ∃ i, x = .int i ∧ Φ (some i)
theorem smp_none : SmP C tNoPart pNone := fun σ δ H0 H Φ Q s w q => q H0 H _ (.refl s.toWf) w
theorem smp_some (ha : Sm C f1 ta da) : SmP C (tPart ta) (pSome da) := fun σ δ H0 H Φ Q s w q =>
  ha σ δ H0 H _ _ s w fun H01 H1 v x g1 r1 ⟨i, e, p⟩ => by
    subst e
    cases r1
    exact ⟨i, rfl, q _ _ _ g1 p⟩
@[simp] def dSlS (da : DE) (dl dh : DP) : DE := fun δ Φ => da δ fun x => dl δ fun l => dh δ fun u => ∃ z, x = .str z ∧ z.length ≤ sizeLine ∧ Φ (.str (cutS z l u))
variable {tl th : TO} {dl dh : DP}
theorem sm_sl_str (ha : Sm C f1 ta da) (hl : SmP C tl dl) (hh : SmP C th dh) : Sm C f (tSl rSlS ta tl th) (dSlS da dl dh) := fun σ δ H0 H Φ Q s w q =>
  ha σ δ H0 H _ _ s w fun H01 H1 v x g1 r1 w1 => hl σ δ H01 H1 _ _ (s.go g1) w1 fun H02 H2 l g2 w2 => hh σ δ H02 H2 _ _ ((s.go g1).go g2) w2 fun H03 H3 u g3 ⟨z, e, hz, p⟩ => by
    subst e
    cases r1
    exact ⟨z, rfl, hz, q _ _ _ _ ((g1.trans g2).trans g3) (.str _) p⟩
end
/-! ### data without dicts, of a bounded depth and length -/
inductive Okd : Nat → PyData → Prop
  | none {n : Nat} : Okd n .none
  | bool {n : Nat} (b : Bool) : Okd n (.bool b)
  | int {n : Nat} (i : Int) : Okd n (.int i)
  | str {n : Nat} {s : Str} (h : PyData.canLay0 (.str s) = true) : Okd n (.str s)
  | list {n : Nat} {xs : List PyData} (h : ∀ y ∈ xs, Okd n y) (hl : xs.length ≤ 1000000) : Okd (n + 1) (.list xs)
  | tuple {n : Nat} {xs : List PyData} (h : ∀ y ∈ xs, Okd n y) (hl : xs.length ≤ 1000000) : Okd (n + 1) (.tuple xs)
theorem Okd.mono {n m : Nat} {x : PyData} (h : Okd n x) (hm : n ≤ m) : Okd m x := by
  induction h generalizing m with
  | none => exact .none
  | bool b => exact .bool b
  | int i => exact .int i
  | str h => exact .str h
  | list h hl ih =>
    obtain ⟨k, rfl⟩ : ∃ k, m = k + 1 := ⟨m - 1, by omega⟩
    exact .list (fun y hy => ih y hy (by omega)) hl
  | tuple h hl ih =>
    obtain ⟨k, rfl⟩ : ∃ k, m = k + 1 := ⟨m - 1, by omega⟩
    exact .tuple (fun y hy => ih y hy (by omega)) hl
theorem depthAll_le {n : Nat} : ∀ {xs : List PyData}, (∀ y ∈ xs, y.depth ≤ n) → PyData.depthAll xs ≤ n
  | [], _ => by rw [PyData.depthAll]; exact Nat.zero_le _
  | x :: xs, h => by
    rw [PyData.depthAll]
    exact Nat.max_le.mpr ⟨h x List.mem_cons_self, depthAll_le fun y hy => h y (List.mem_cons_of_mem _ hy)⟩
theorem layAll_of : ∀ {xs : List PyData}, (∀ y ∈ xs, y.canLay0 = true) → PyData.canLayAll0 xs = true
  | [], _ => by rw [PyData.canLayAll0]
  | x :: xs, h => by
    rw [PyData.canLayAll0, h x List.mem_cons_self, layAll_of fun y hy => h y (List.mem_cons_of_mem _ hy)]
    rfl
theorem Okd.depth {n : Nat} {x : PyData} (h : Okd n x) : x.depth ≤ n := by
  induction h with
  | none => rw [PyData.depth]; exact Nat.zero_le _
  | bool b => rw [PyData.depth]; exact Nat.zero_le _
  | int i => rw [PyData.depth]; exact Nat.zero_le _
  | str h => rw [PyData.depth]; exact Nat.zero_le _
  | list h hl ih => rw [PyData.depth]; exact Nat.succ_le_succ (depthAll_le ih)
  | tuple h hl ih => rw [PyData.depth]; exact Nat.succ_le_succ (depthAll_le ih)
theorem Okd.lay {n : Nat} {x : PyData} (h : Okd n x) : x.canLay0 = true := by
  induction h with
  | none => rw [PyData.canLay0]
  | bool b => rw [PyData.canLay0]
  | int i => rw [PyData.canLay0]
  | str h => exact h
  | list h hl ih => rw [PyData.canLay0]; exact layAll_of ih
  | tuple h hl ih => rw [PyData.canLay0]; exact layAll_of ih
theorem Okd.shaped {n : Nat} {x : PyData} (h : Okd n x) (hn : n ≤ 64) : SeqAt.shaped x = true := by
  unfold SeqAt.shaped
  rw [h.lay, decide_eq_true (Nat.le_trans h.depth hn)]
  rfl
/-! ### texts: a sign in a text, texts joined -/
section
variable {C : Ctx} {f f1 f2 : Bool} {ta tb : TE} {da db : DE}
@[simp] def gInS (neg : Bool) : PyData → PyData → (PyData → Prop) → Prop := fun x y Φ => ∃ (c : Nat) (z : Str), x = .str ⟨#[c]⟩ ∧ y = .str z ∧ Φ (.bool (if neg then !decide (c ∈ z.cps.toList) else decide (c ∈ z.cps.toList)))
theorem opd_inS : OpD C (fun x y H Q => ∃ (c : Nat) (z : Str), x = .str ⟨#[c]⟩ ∧ y = .str z ∧ Q (.bl (decide (c ∈ z.cps.toList))) H) (gInS false) := fun H v u x y Φ Q rv ru ⟨c, z, e1, e2, p⟩ q => by
  subst e1 e2
  cases rv
  cases ru
  exact ⟨c, z, rfl, rfl, q _ _ (fun _ => .bl _) p⟩
theorem opd_niS : OpD C (fun x y H Q => ∃ (c : Nat) (z : Str), x = .str ⟨#[c]⟩ ∧ y = .str z ∧ Q (.bl (!decide (c ∈ z.cps.toList))) H) (gInS true) := fun H v u x y Φ Q rv ru ⟨c, z, e1, e2, p⟩ q => by
  subst e1 e2
  cases rv
  cases ru
  exact ⟨c, z, rfl, rfl, q _ _ (fun _ => .bl _) p⟩
theorem rpa_strs {K : PySem.W.Frag} {H : Hp} : ∀ {vs : List V} {ys : List Str}, RpA K H vs (ys.map .str) → vs = ys.map V.str
  | _, [], .nil => rfl
  | _, y :: ys, .cons h r => by
    cases h
    rw [rpa_strs r]
    rfl
@[simp] def gCatT : PyData → PyData → (PyData → Prop) → Prop := fun x y Φ => ∃ a b, x = .str a ∧ y = .str b ∧ a.length + b.length ≤ sizeLine ∧ Φ (.str (a ++ b))
theorem opd_catS : OpD C (fun x y H Q => ∃ i j, x = V.str i ∧ y = V.str j ∧ i.length + j.length ≤ sizeLine ∧ Q (V.str (i ++ j)) H) gCatT := fun H v u x y Φ Q rv ru ⟨a, b, e1, e2, e3, p⟩ q => by
  subst e1 e2
  cases rv
  cases ru
  exact ⟨a, b, rfl, rfl, e3, q _ _ (fun _ => .str _) p⟩
@[simp] def dJoin (da db : DE) : DE := fun δ Φ => da δ fun x => ∃ a, x = .str a ∧ db δ fun y => ∃ ys : List Str, y = .list (ys.map .str) ∧ (ys.map (·.length)).sum + ys.length * a.length ≤ 16777216 ∧ Φ (.str (Txt.join a ys))
theorem sm_join (ha : Sm C f1 ta da) (hb : Sm C f2 tb db) : Sm C f (tM1 (fun x xs H Q => ∃ a p, ∃ ys : List Str, x = V.str a ∧ xs = [V.ref p] ∧ (SqL C.K H p (ys.map V.str) ∨ SqT C.K H p (ys.map V.str)) ∧ (ys.map (fun x => x.length)).sum + ys.length * a.length ≤ 16777216 ∧ Q (V.str (Txt.join a ys)) H) ta tb) (dJoin da db) := fun σ δ H0 H Φ Q s w q =>
  ha σ δ H0 H _ _ s w fun H01 H1 v x g1 r1 ⟨a, e, w1⟩ => by
    subst e
    cases r1
    refine ⟨⟨a, rfl⟩, hb σ δ H01 H1 _ _ (s.go g1) w1 fun H02 H2 u y g2 r2 ⟨ys, e, hl, p⟩ => ?_⟩
    subst e
    cases r2 with
    | lst h r =>
      have e := rpa_strs r
      subst e
      exact ⟨a, _, ys, rfl, rfl, .inl (SqL.of (g2.wf.loc _ _ h)), hl, q _ _ _ _ (g1.trans g2) (.str _) p⟩
end
/-! ### a part of a list, as a new list -/
section
variable {C : Ctx} {f f1 f2 : Bool} {ta tb : TE} {da db : DE} {tl th : TO} {dl dh : DP}
def cutDt (xs : List PyData) (lo hi : Option Int) : List PyData := List.take (HT.sIx xs.length xs.length hi - HT.sIx xs.length 0 lo) (List.drop (HT.sIx xs.length 0 lo) xs)
theorem rpa_drop {K : PySem.W.Frag} {H : Hp} : ∀ (n : Nat) {vs : List V} {xs : List PyData}, RpA K H vs xs → RpA K H (vs.drop n) (xs.drop n)
  | 0, _, _, h => h
  | n + 1, _, _, .nil => by rw [List.drop_nil, List.drop_nil]; exact .nil
  | n + 1, _, _, .cons _ r => rpa_drop n r
theorem rpa_take {K : PySem.W.Frag} {H : Hp} : ∀ (n : Nat) {vs : List V} {xs : List PyData}, RpA K H vs xs → RpA K H (vs.take n) (xs.take n)
  | 0, _, _, _ => .nil
  | n + 1, _, _, .nil => .nil
  | n + 1, _, _, .cons h r => .cons h (rpa_take n r)
theorem rpa_cut {K : PySem.W.Frag} {H : Hp} {vs : List V} {xs : List PyData} (r : RpA K H vs xs) (lo hi : Option Int) : RpA K H (cutV vs lo hi) (cutDt xs lo hi) := by
  unfold cutV cutDt
  rw [r.length]
  exact rpa_take _ (rpa_drop _ r)
@[simp] def oSlice (da : DE) (dl dh : DP) : DO := fun δ Φ => da δ fun x => dl δ fun l => dh δ fun u => ∃ xs, x = .list xs ∧ Φ (cutDt xs l u)
theorem smo_slice (ha : Sm C true ta da) (hl : SmP C tl dl) (hh : SmP C th dh) : SmO C (tSl (rSlL C.K) ta tl th) (oSlice da dl dh) := fun σ δ H0 H Φ Q s w q =>
  ha σ δ H0 H _ _ s w fun H01 H1 v x g1 r1 w1 => hl σ δ H01 H1 _ _ (s.go g1) w1 fun H02 H2 l g2 w2 => hh σ δ H02 H2 _ _ ((s.go g1).go g2) w2 fun H03 H3 u g3 ⟨xs, e, p⟩ => by
    subst e
    have r3 := (r1.mono g2.fz).mono g3.fz
    cases r3 with
    | @lst a1 us1 _ h r =>
      refine ⟨_, us1, rfl, SqL.of (g3.wf.sub _ _ h), fun l' hl' => ?_⟩
      exact q _ _ l' _ _ (((g1.trans g2).trans g3).trans (Go.free (o := .lst _) g3.wf hl')) (((g1.trans g2).trans g3).fresh hl') (g3.wf.none hl') upd_same (rpa_cut r _ _) p
end
/-! ### the least and the greatest of a list of numbers; a number as a test -/
section
variable {C : Ctx} {f f1 f2 : Bool} {ta tb : TE} {da db : DE}
theorem rpa_ints {K : PySem.W.Frag} {H : Hp} : ∀ {vs : List V} {ns : List Int}, RpA K H vs (ns.map .int) → vs = ns.map V.int
  | _, [], .nil => rfl
  | _, n :: ns, .cons h r => by
    cases h
    rw [rpa_ints r]
    rfl
@[simp] def gMinL : List PyData → (PyData → Prop) → Prop := fun xs Φ => ∃ ns : List Int, xs = [.list (ns.map .int)] ∧ 0 < ns.length ∧ ∀ m ∈ ns, (∀ y ∈ ns, m ≤ y) → Φ (.int m)
@[simp] def gMaxL : List PyData → (PyData → Prop) → Prop := fun xs Φ => ∃ ns : List Int, xs = [.list (ns.map .int)] ∧ 0 < ns.length ∧ ∀ m ∈ ns, (∀ y ∈ ns, y ≤ m) → Φ (.int m)
theorem cbd_minL : CbD C (rMin C.K) gMinL := fun H vs xs Φ Q r ⟨ns, e, hl, p⟩ q => by
  subst e
  cases r with
  | cons h n =>
    cases n
    cases h with
    | lst h r =>
      have e := rpa_ints r
      subst e
      exact ⟨_, ns, rfl, SqL.of h, hl, fun m hm hle => q _ _ (fun _ => .int _) (p m hm hle)⟩
theorem cbd_maxL : CbD C (rMax C.K) gMaxL := fun H vs xs Φ Q r ⟨ns, e, hl, p⟩ q => by
  subst e
  cases r with
  | cons h n =>
    cases n
    cases h with
    | lst h r =>
      have e := rpa_ints r
      subst e
      exact ⟨_, ns, rfl, SqL.of h, hl, fun m hm hle => q _ _ (fun _ => .int _) (p m hm hle)⟩
@[simp] def dTru (da : DE) : DT := fun δ Φ => da δ fun x => ∃ i : Int, x = .int i ∧ Φ (i != 0)
theorem smt_tru (ha : Sm C f1 ta da) : SmT C (fun σ H Q => ta σ H fun x H' => ∃ k, TruV C.K x H' k ∧ Q k H') (dTru da) := fun σ δ H0 H Φ Q s w q =>
  ha σ δ H0 H _ _ s w fun H01 H1 v x g1 r1 ⟨i, e, w1⟩ => by
    subst e
    cases r1
    exact ⟨_, rfl, q _ _ _ g1 w1⟩
end
/-! ### any and all of a list of booleans; the bits of a number -/
section
variable {C : Ctx} {f f1 f2 : Bool} {ta tb : TE} {da db : DE}
theorem rpa_bools {K : PySem.W.Frag} {H : Hp} : ∀ {vs : List V} {bs : List Bool}, RpA K H vs (bs.map .bool) → vs = bs.map V.bl
  | _, [], .nil => rfl
  | _, n :: ns, .cons h r => by
    cases h
    rw [rpa_bools r]
    rfl
@[simp] def gAnyL : List PyData → (PyData → Prop) → Prop := fun xs Φ => ∃ bs : List Bool, xs = [.list (bs.map .bool)] ∧ Φ (.bool (bs.any id))
@[simp] def gAllL : List PyData → (PyData → Prop) → Prop := fun xs Φ => ∃ bs : List Bool, xs = [.list (bs.map .bool)] ∧ Φ (.bool (bs.all id))
theorem cbd_any : CbD C (rAny C.K) gAnyL := fun H vs xs Φ Q r ⟨bs, e, p⟩ q => by
  subst e
  cases r with
  | cons h n =>
    cases n
    cases h with
    | lst h r =>
      have e := rpa_bools r
      subst e
      exact ⟨_, bs, rfl, SqL.of h, q _ _ (fun _ => .bl _) p⟩
theorem cbd_all : CbD C (rAll C.K) gAllL := fun H vs xs Φ Q r ⟨bs, e, p⟩ q => by
  subst e
  cases r with
  | cons h n =>
    cases n
    cases h with
    | lst h r =>
      have e := rpa_bools r
      subst e
      exact ⟨_, bs, rfl, SqL.of h, q _ _ (fun _ => .bl _) p⟩
theorem sm_bits (ha : Sm C f1 ta da) : Sm C f (fun σ H Q => ta σ H fun x H1 => ∃ i, x = V.int i ∧ Q (V.int (Builtin.Int.intBits i : Nat)) H1) (dUn (fun i => .int (Builtin.Int.intBits i : Nat)) da) := fun σ δ H0 H Φ Q s w q =>
  ha σ δ H0 H _ _ s w fun H01 H1 v x g1 r1 ⟨i, e, p⟩ => by
    subst e
    cases r1
    exact ⟨i, rfl, q H01 H1 _ _ g1 (.int _) p⟩
end
/-! ### a number or-ed, and-ed in place -/
theorem ip_orI {X : Cx} : PIp X .BitOr (ipI fun i j => Builtin.bitOr i j) := fun pins s σ H x y v u Q inv rx ry ⟨i, j, e1, e2, q⟩ => by
  subst e1 e2
  obtain ⟨t, rfl⟩ := rx
  obtain ⟨t', rfl⟩ := ry
  exact PyProof.Rows.ior_int ⟨.int _, H, inv.tok _, ⟨_, rfl⟩, q⟩
theorem ip_andI {X : Cx} : PIp X .BitAnd (ipI fun i j => Builtin.bitAnd i j) := fun pins s σ H x y v u Q inv rx ry ⟨i, j, e1, e2, q⟩ => by
  subst e1 e2
  obtain ⟨t, rfl⟩ := rx
  obtain ⟨t', rfl⟩ := ry
  exact PyProof.Rows.iand_int ⟨.int _, H, inv.tok _, ⟨_, rfl⟩, q⟩
/-! ### enumerate over a tuple -/
def IteT (K : PySem.W.Frag) (a : Addr) : It := { go := fun i H => ∃ xs x, SqT K H a xs ∧ xs[i]? = some x, yld := fun i H v H' => ∃ T x, v = .ref T ∧ H T = none ∧ H' = upd H T (.tup [.int (i : Int), x]) ∧ ∀ xs, SqT K H a xs → xs[i]? = some x, stop := fun i H => ∃ xs, SqT K H a xs ∧ xs.length = i }
theorem paired_len {α β : Type} {F : α → β → Prop} : ∀ {xs : List α} {ys : List β}, Paired F xs ys → xs.length = ys.length
  | _, _, .nil => rfl
  | _, _, .cons _ r => congrArg Nat.succ (paired_len r)
theorem turn_enumT {P : Program} {w : World} {K : PySem.W.Frag} {elts : List Expr} {kk : Nat} {tpos : Pos} (a e it : Addr) : Turn P w K (Expr.Tuple elts kk tpos) (IteT K a) [e, it] e fun i h => (∃ old, IsEnum h e it (i : Int) old) ∧ h.IsTupleIter it a i ∧ e ≠ it ∧ a ≠ it ∧ e ≠ a := by
  refine ⟨by simp, ?_, ?_, ?_, ?_, ?_⟩
  · rintro i h ⟨⟨old, h1⟩, ⟨o, h2, h3, h4⟩, _⟩ b hb
    simp at hb
    rcases hb with rfl | rfl
    · exact ⟨_, h1, fun v q => by cases q⟩
    · exact ⟨o, h2, fun v q => by rw [h4] at q; cases q⟩
  · rintro i h h' ⟨⟨old, h1⟩, ⟨o, h2, h3, h4⟩, h5⟩ hk
    exact ⟨⟨old, hk e (by simp) _ h1⟩, ⟨o, hk it (by simp) _ h2, h3, h4⟩, h5⟩
  · rintro X rfl rfl rfl hcalm i pins s σ H E inv fp ⟨⟨old, h1⟩, h2, n1, n2, n3⟩ ⟨xs, x, hx, hi⟩
    obtain ⟨its, hv, ht, hl⟩ := inv.tuple hx
    obtain ⟨u, hu, ru⟩ := hv.get hi
    have hlt : i < its.length := (List.getElem?_eq_some_iff.mp hu).1
    have h2b := h2
    obtain ⟨oi, hoi, _⟩ := h2b
    have le : e < s.heap.objs.size := Heap.lt_size h1
    have li : it < s.heap.objs.size := Heap.lt_size hoi
    refine wpAny_pyNext_enum_itemD (Draws.tuple (A := X.A.in1) (inv.ok.hd hcalm) it a n2 its.toArray) h1 ⟨h2, ht⟩ hlt n1 (by simp [n1, n3]) fun x' h' tk hp ho hst htup hsz hpres => ?_
    refine ⟨_, rfl, ?_⟩
    refine wpAny_letOwnedTupleGo_enum ho fun h'' hen hsame => ?_
    have hT : H s.heap.objs.size = none := inv.hok.fresh (Nat.le_refl _)
    have e1 : x' = u := by
      have : its[i]? = some x' := by simpa using hp
      rw [hu] at this
      exact (Option.some.inj this).symm
    subst e1
    have neT : s.heap.objs.size ≠ e := fun q => absurd le (by rw [← q]; exact Nat.lt_irrefl _)
    have niT : s.heap.objs.size ≠ it := fun q => absurd li (by rw [← q]; exact Nat.lt_irrefl _)
    refine ⟨.ref s.heap.objs.size, upd H s.heap.objs.size (.tup [.int (i : Int), x]), ?_, rfl, ⟨_, x, rfl, hT, rfl, fun ys hy => by rw [inv.tuple_inj hy hx]; exact hi⟩, ⟨⟨x', hen⟩, ?_, n1, n2, n3⟩, fun b hb => ?_⟩
    · refine Inv.turnedNew (s := s) (t' := tk + 1) (ch := [e, it]) inv (fun b o hb hg => ?_) fp (Nat.le_refl _) ?_
      · simp at hb
        rw [hsame.2 b hb.1]
        exact hpres b o hb.1 hb.2 hg
      · exact ⟨show 2 ≤ sizeLine by decide, [Value.int (i : Int) tk, x'], .cons ⟨tk, rfl⟩ (.cons ru .nil), _, (by rw [hsame.2 _ neT]; exact htup), rfl, _, rfl⟩
    · obtain ⟨o, o1, o2⟩ := hst.1
      exact ⟨o, by rw [hsame.2 it n1.symm]; exact o1, o2⟩
    · simp at hb
      rcases hb with rfl | rfl
      · rw [upd_ne neT.symm]; exact (fp b (by simp)).1
      · rw [upd_ne niT.symm]; exact (fp b (by simp)).1
  · rintro X rfl rfl rfl hcalm i pins s σ H E inv fp ⟨⟨old, h1⟩, h2, n1, n2, n3⟩ ⟨xs, hx, hi⟩
    obtain ⟨its, hv, ht, hl⟩ := inv.tuple hx
    have hn : its.toArray.size = i := by
      rw [List.size_toArray, ← paired_len hv]
      exact hi
    subst hn
    refine wpAny_pyNext_enum_endD (Draws.tuple (A := X.A.in1) (inv.ok.hd hcalm) it a n2 its.toArray) h1 ⟨h2, ht⟩ fun h' hext => ⟨rfl, ?_⟩
    obtain ⟨f1, f2, f3, f4, f5, f6⟩ := fp it (by simp)
    exact Inv.turned inv hext f1 f2 f4 f5 f6
  · rintro A i s Q E ⟨⟨old, h1⟩, h2⟩ hq
    exact wpAny_pyIter_enum h1 hq
theorem newc (v : Value) : Builtin.SmallTypes.newClass "enumerate" { pos := [Value.type "enumerate", v] } = pure (Value.type "enumerate", [v]) := by
  unfold Builtin.SmallTypes.newClass
  show (do let a ← isSubtype (Value.type "enumerate") (Value.type "enumerate"); _) = _
  rw [sub_enumerate]
  rfl
theorem wp_ite {M : Model} {A : Around} {α : Type} {E : Value → Shared → Prop} {s : Shared} {Q : α → Shared → Prop} {c : Prop} {d : Decidable c} {t u : Sem α} (h1 : wpAny M A t Q E s) (h2 : wpAny M A u Q E s) : wpAny M A (@ite _ c d t u) Q E s := by
  split
  · exact h1
  · exact h2
theorem wp_else {M : Model} {A : Around} {α : Type} {E : Value → Shared → Prop} {s : Shared} {Q : α → Shared → Prop} {c : Prop} {d : Decidable c} {t u : Sem α} (h : ¬ c) (h2 : wpAny M A u Q E s) : wpAny M A (@ite _ c d t u) Q E s := by
  rw [if_neg h]
  exact h2
theorem meets_enum1 {v : Value} {o : Obj} {H : Heap → Prop} (hb : Begins v o H) : Meets (Builtin.«enumerate.__new__» { pos := [Value.type "enumerate", v] }) (fun A R s => H s.heap ∧ R (.ok (.ret (Value.ref (s.heap.push o).objs.size))) { heap := (s.heap.push o).push { cls := Value.type "enumerate", data := Data.fields #[Value.none, Value.bool false, Value.ref s.heap.objs.size, rawInt 0, Value.none, Value.none] }, gens := s.gens, drawn := s.drawn, toks := s.toks, os := s.os }) := by
  refine Meets.of_wp fun prog w A R s h => ?_
  obtain ⟨hh, hr⟩ := h
  unfold Builtin.«enumerate.__new__»
  refine wpAny_bind ?_
  refine wpAny_of_eq (newc v) ?_
  dsimp only
  rw [if_pos (by decide)]
  refine wpAny_bind ?_
  unfold Builtin.SmallTypes.calledThroughType
  refine wpAny_bind ?_
  refine wpAny_stack_any fun st => ?_
  refine wpAny_pure ?_
  have fin : wpAny (model prog w) A.in1 (do
      let i ← pyIter v
      let r ← Builtin.SmallTypes.newRecord (Value.type "enumerate") (Builtin.SmallTypes.ownedTupleFields ++ [i, rawInt 0, Value.none, Value.none])
      ret r) (fun fin s' => ∃ v, fin = Fin.done (Flow.ret v) ∧ R (Except.ok (Flow.ret v)) s') (fun e s' => R (Except.error e) s') s := by
    refine wpAny_bind ?_
    refine hb.iter prog w A.in1 _ s _ hh ?_
    refine wpAny_bind ?_
    unfold Builtin.SmallTypes.newRecord
    dsimp only
    unfold newObj
    dsimp only
    refine wp_else (show ¬ 6 > sizeLine + 2 by decide) ?_
    unfold newObjAsIs
    refine wpAny_bind ?_
    refine wpAny_alloc' ?_
    refine wpAny_pure ?_
    exact wpAny_pure ⟨_, rfl, hr⟩
  refine wp_ite ?_ ?_
  · refine wpAny_bind ?_
    refine wpAny_of_eq (a := (v, none)) rfl ?_
    exact fin
  · refine wpAny_bind ?_
    refine wpAny_of_eq (a := (v, none)) rfl ?_
    exact fin

theorem call_enum1 {prog : Program} {w : World} {A : Around} {E : Value → Shared → Prop} {s : Shared} {v : Value} {o : Obj} {H : Heap → Prop} {Q : Value → Shared → Prop} (hb : Begins v o H) (hh : H s.heap)
    (hq : ∀ (h' : Heap), IsEnum h' (s.heap.objs.size + 1) s.heap.objs.size 0 Value.none → h'.get? s.heap.objs.size = some o → h'.objs.size = s.heap.objs.size + 2 → (∀ (b : Addr) (o : Obj), s.heap.get? b = some o → h'.get? b = some o) → Q (Value.ref (s.heap.objs.size + 1)) { heap := h', gens := s.gens, drawn := s.drawn, toks := s.toks, os := s.os }) :
    wpAny (model prog w) A (call (Value.type "enumerate") [v]) Q E s := by
  refine callType_new F.called_enumerate (by decide) (F.typeCall_enumerate_1 _) (F.newCall_enumerate_1 _) (fun obj => F.args_object_init_2 _ _) F.entry_enumerate_new (meets_enum1 hb) ⟨hh, ?_⟩
  have e1 : (s.heap.push o).objs.size = s.heap.objs.size + 1 := Heap.size_push _ _
  have g1 : (s.heap.push o).get? s.heap.objs.size = some o := Heap.get?_push_size _ hb.free
  have g2 := Heap.get?_push_size (s.heap.push o) (o := { cls := Value.type "enumerate", data := Data.fields #[Value.none, Value.bool false, Value.ref s.heap.objs.size, rawInt 0, Value.none, Value.none] }) rfl
  refine ⟨⟨_, g2, rfl⟩, ?_⟩
  rw [e1] at g2 ⊢
  refine hq _ g2 (Heap.get?_push_of_some _ g1) ?_ (fun b o' h => Heap.get?_push_of_some _ (Heap.get?_push_of_some _ h))
  rw [Heap.size_push, e1]

def iEnumT : PySem.W.Frag → TA → TI := fun K ta σ H R => ta σ H fun vs H1 => ∃ a xs, vs = [V.ref a] ∧ SqT K H1 a xs ∧ R (IteT K a) H1
theorem pi_enumT {X : Cx} {e : Expr} {ta : TA} {p pos tpos : Pos} {elts : List Expr} {kk : Nat} (hg : Gl X "enumerate") (hm : X.mg "enumerate" = none) (ha : PA X [e] ta) (hs : starEach [e] X.env = [(false, eval e X.env)] := by rfl) : PI X (Expr.Tuple elts kk tpos) ((Expr.Name "enumerate" p).Call [e] [] pos) (iEnumT X.K ta) := ⟨fun pins s σ H R inv h => by
  refine PyProof.Rows.Call_ (ld_blt inv hg hm PyProof.Rows.boot_enumerate ?_)
  refine PyProof.Rows.callWith_type1 (thn (ha.run pos pins s σ H _ inv h) fun us s1 ap => ?_) (by rw [hs]; rfl)
  obtain ⟨vs, H1, inv1, hv, a, xs, rfl, hx, hr⟩ := ap
  cases hv with
  | cons r n =>
    cases n
    obtain rfl := r
    obtain ⟨its, hv2, ht, hl⟩ := inv1.tuple hx
    have ht2 := ht
    obtain ⟨oa, hoa, _⟩ := ht2
    have la := Heap.lt_size hoa
    refine call_enum1 (begins_tuple a its.toArray) ht fun h' h1 h2 h3 h4 => ?_
    refine wpAny_pyIter_enum h1 ?_
    have na : a ≠ s1.heap.objs.size := fun q => absurd la (by rw [q]; exact Nat.lt_irrefl _)
    have ne : s1.heap.objs.size + 1 ≠ a := fun q => absurd la (by rw [← q]; exact Nat.not_lt.mpr (Nat.le_succ _))
    refine ⟨_, [s1.heap.objs.size + 1, s1.heap.objs.size], _, IteT X.K a, H1, rfl, inv1.kept (t' := s1.toks) h4, turn_enumT a (s1.heap.objs.size + 1) s1.heap.objs.size, ⟨⟨_, h1⟩, ⟨_, h2, rfl, rfl⟩, Nat.succ_ne_self _, na, ne⟩, fun b hb => ?_, hr⟩
    simp at hb
    have hle : s1.heap.objs.size ≤ b := by
      rcases hb with rfl | rfl
      · exact Nat.le_succ _
      · exact Nat.le_refl _
    exact inv1.fpOk hle (inv1.hok.fresh hle)⟩

section
variable {C : Ctx} {ta : TE} {da : DE}
@[simp] def iEnT (da : DE) : DI := fun δ Φ => da δ fun x => ∃ xs, x = .tuple xs ∧ Φ (enumD xs)
theorem smi_enumT (ha : Sm C true ta da) : SmI C (iEnumT C.K (tCons ta tNil)) (iEnT da) := fun σ δ H0 H Φ R s w q =>
  ha σ δ H0 H _ _ s w fun H01 H1 v x g1 r1 ⟨xs, e, p⟩ => by
    subst e
    cases r1 with
    | @tup a us _ h r =>
      refine ⟨a, us, rfl, same_t g1.wf.sub h, q _ _ _ _ g1 ⟨fun H0' H' i e w hi => ?_, fun H0' H' i e w hi => ?_, fun H0' H' i v H'' e w hi y => ?_⟩ p⟩
      · rw [enumD_len] at hi
        exact ⟨us, same_t w.sub (same_t e h), r.length.trans hi⟩
      · rw [enumD_len] at hi
        obtain ⟨y, hy⟩ := get_lt hi
        obtain ⟨v, h1, h2⟩ := r.get hy
        exact ⟨us, v, same_t w.sub (same_t e h), h1⟩
      · rw [enumD_len] at hi
        obtain ⟨T, z, rfl, hT, rfl, y⟩ := y
        have y := y us (same_t w.sub (same_t e h))
        obtain ⟨d, hd, rd⟩ := r.get' y
        obtain ⟨H0'', g, r2⟩ := tup_new w hT (.cons (.int (i : Int)) (.cons (rd.mono e) .nil))
        exact ⟨H0'', _, g, enumD_get hd, r2⟩
end
end VL

/-! More rules of the layer: texts by their letters, tuples added and cut, comprehensions with any target. -/
namespace VL
open PySem L2
theorem ofStr_inj_h {a b : String} (h : Str.ofString a = Str.ofString b) : a = b := by
  rw [Str.ofString_eq_toList, Str.ofString_eq_toList] at h
  have h1 := congrArg Str.cps h
  have h2 : a.toList.map Char.toNat = b.toList.map Char.toNat := by
    have := congrArg Array.toList h1
    simpa using this
  have h3 : a.toList = b.toList := by
    exact (List.map_inj_right (fun x y e => Char.ext (UInt32.toNat_inj.mp e))).mp h2
  exact String.toList_inj.mp h3
@[simp] theorem ofStr_inj (a b : String) : (Str.ofString a = Str.ofString b) = (a = b) := propext ⟨ofStr_inj_h, fun h => by rw [h]⟩
section
variable {C : Ctx} {f f1 f2 : Bool} {ta tb : TE} {da db : DE} {tl th : TO} {dl dh : DP}
/-! ### tuples added, a part of a tuple -/
theorem kx_catA {X : Cx} {K : PySem.W.Frag} (h : X.K = K) : OpR X (binaryOp .Add) (rCatA K) := by subst h; exact op_catA
theorem kx_slTA {X : Cx} {K : PySem.W.Frag} (h : X.K = K) : SlR X (rSlA K) := by subst h; exact sl_tupA
@[simp] def dCatA (da db : DE) : DE := fun δ Φ => da δ fun x => db δ fun y => ∃ xs ys, x = .tuple xs ∧ y = .tuple ys ∧ xs.length + ys.length ≤ sizeLine ∧ Φ (.tuple (xs ++ ys))
theorem sm_catA (ha : Sm C true ta da) (hb : Sm C true tb db) : Sm C f (tOp (rCatA C.K) ta tb) (dCatA da db) := fun σ δ H0 H Φ Q s w q =>
  ha σ δ H0 H _ _ s w fun H01 H1 v x g1 r1 w1 => hb σ δ H01 H1 _ _ (s.go g1) w1 fun H02 H2 u y g2 r2 ⟨xs, ys, e1, e2, e3, pp⟩ => by
    subst e1 e2
    have r3 := r1.mono g2.fz
    cases r3 with
    | @tup a1 us1 _ h r =>
      cases r2 with
      | @tup a2 us2 _ h' r' =>
        refine ⟨a1, a2, us1, us2, rfl, rfl, same_t g2.wf.sub h, same_t g2.wf.sub h', by rw [r.length, r'.length]; exact e3, fun z => ?_, fun z1 z2 => ?_, fun z1 z2 p hp => ?_⟩
        · subst z
          cases r
          exact q _ _ _ _ (g1.trans g2) (Rp.mono g2.wf.to (.tup h' r')) pp
        · subst z2
          cases r'
          rw [List.append_nil] at pp
          exact q _ _ _ _ (g1.trans g2) (Rp.mono g2.wf.to (.tup h r)) pp
        · have g3 := Go.new (o := .tup (us1 ++ us2)) g2.wf hp
          exact q _ _ _ _ ((g1.trans g2).trans g3) (Rp.mono g3.wf.to (.tup (SqT.of upd_same) ((r.append r').mono (Go.same_new (g2.wf.none hp))))) pp
theorem cutDt_whole {xs : List PyData} {lo hi : Option Int} (h : HT.sIx xs.length 0 lo = 0 ∧ HT.sIx xs.length xs.length hi = xs.length) : cutDt xs lo hi = xs := by
  unfold cutDt
  rw [h.1, h.2, List.drop_zero, Nat.sub_zero, List.take_length]
@[simp] def dSlT (da : DE) (dl dh : DP) : DE := fun δ Φ => da δ fun x => dl δ fun l => dh δ fun u => ∃ xs, x = .tuple xs ∧ Φ (.tuple (cutDt xs l u))
theorem sm_sl_tupA (ha : Sm C true ta da) (hl : SmP C tl dl) (hh : SmP C th dh) : Sm C f (tSl (rSlA C.K) ta tl th) (dSlT da dl dh) := fun σ δ H0 H Φ Q s w q =>
  ha σ δ H0 H _ _ s w fun H01 H1 v x g1 r1 w1 => hl σ δ H01 H1 _ _ (s.go g1) w1 fun H02 H2 l g2 w2 => hh σ δ H02 H2 _ _ ((s.go g1).go g2) w2 fun H03 H3 u g3 ⟨xs, e, p⟩ => by
    subst e
    have r3 := (r1.mono g2.fz).mono g3.fz
    cases r3 with
    | @tup a1 us1 _ h r =>
      have g123 := (g1.trans g2).trans g3
      refine ⟨a1, us1, rfl, same_t g3.wf.sub h, fun z => ?_, fun z p' hp => ?_⟩
      · rw [r.length] at z
        rw [cutDt_whole z] at p
        exact q _ _ _ _ g123 (Rp.mono g3.wf.to (.tup h r)) p
      · have g4 := Go.new (o := .tup (cutV us1 l u)) g3.wf hp
        exact q _ _ _ _ (g123.trans g4) (Rp.mono g4.wf.to (.tup (SqT.of upd_same) ((rpa_cut r l u).mono (Go.same_new (g3.wf.none hp))))) p
end
/-! ### comprehensions with any target of names -/
theorem wipe_set_out {σ : L2.St} {i : Nat} {x : Option V} : ∀ {vs : List Nat}, i ∉ vs → wipe (σ.set i x) vs = (wipe σ vs).set i x
  | [], _ => rfl
  | v :: vs, h => by
    rw [List.mem_cons, not_or] at h
    show (wipe (σ.set i x) vs).set v none = ((wipe σ vs).set v none).set i x
    rw [wipe_set_out h.2, List.set_comm _ _ h.1]
theorem wipe_set_in {σ : L2.St} {i : Nat} {x : Option V} : ∀ {vs : List Nat}, i ∈ vs → wipe (σ.set i x) vs = wipe σ vs
  | v :: vs, h => by
    show (wipe (σ.set i x) vs).set v none = (wipe σ vs).set v none
    by_cases k : i ∈ vs
    · rw [wipe_set_in k]
    · have e : i = v := by
        rcases List.mem_cons.mp h with h | h
        · exact h
        · exact absurd h k
      subst e
      rw [wipe_set_out k, List.set_set]
theorem wipe_wipe {σ : L2.St} : ∀ {vs : List Nat}, wipe (wipe σ vs) vs = wipe σ vs
  | [] => rfl
  | v :: vs => by
    show (wipe ((wipe σ vs).set v none) vs).set v none = (wipe σ vs).set v none
    by_cases k : v ∈ vs
    · rw [wipe_set_in k, wipe_wipe]
    · rw [wipe_set_out k, wipe_wipe, List.set_set]
def dwipe (δ : Dl) : List Nat → Dl
  | [] => δ
  | v :: vs => (dwipe δ vs).set v none
@[simp] theorem dwipe_nil (δ : Dl) : dwipe δ [] = δ := rfl
@[simp] theorem dwipe_cons (δ : Dl) (v : Nat) (vs : List Nat) : dwipe δ (v :: vs) = (dwipe δ vs).set v none := rfl
theorem St.wipe {C : Ctx} {H0 H : Hp} {σ : L2.St} {δ : Dl} (s : St C H0 H σ δ) : ∀ vs : List Nat, St C H0 H (L2.wipe σ vs) (dwipe δ vs)
  | [] => s
  | v :: vs => (St.wipe s vs).none v
def Kps (own : List Nat) (g : TG) : Prop := ∀ v σ H Q, g v σ H Q → g v σ H fun σ' H' => wipe σ' own = wipe σ own ∧ Q σ' H'
def KpsS (own : List Nat) (g : TGs) : Prop := ∀ v σ H Q, g v σ H Q → g v σ H fun σ' H' => wipe σ' own = wipe σ own ∧ Q σ' H'
theorem kps_name {own : List Nat} {i : Nat} (h : i ∈ own) : Kps own (gName i) := fun v σ H Q q => ⟨wipe_set_in h, q⟩
theorem kps_nil {own : List Nat} : KpsS own gNil := fun v σ H Q ⟨e, q⟩ => ⟨e, rfl, q⟩
theorem gcons_mono {t : TG} {u : TGs} {vs : List V} {σ : L2.St} {H : Hp} {Q : L2.St → Hp → Prop} : gCons t u vs σ H Q ↔ ∃ v r, vs = v :: r ∧ t v σ H fun σ' H' => u r σ' H' Q := Iff.rfl
theorem kps_cons {own : List Nat} {i : Nat} {gs : TGs} (h : i ∈ own) (k : KpsS own gs) : KpsS own (gCons (gName i) gs) := fun vs σ H Q ⟨v, r, e, q⟩ => by
  refine ⟨v, r, e, ?_⟩
  have := k r (σ.set i (some v)) H Q q
  rw [wipe_set_in h] at this
  exact this
theorem kps_tup {own : List Nat} {K : PySem.W.Frag} {n : Nat} {gs : TGs} (k : KpsS own gs) : Kps own (gTup K n gs) := fun v σ H Q ⟨a, xs, e, h, hl, q⟩ => ⟨a, xs, e, h, hl, k xs σ H Q q⟩
def oLcG (di : DI) (own : List Nat) (dg : DG) (dt : DT) (de : DE) : DO := fun δ Φ => di δ fun xs => ∃ I : Nat → List PyData → Prop, I 0 [] ∧
  (∀ k y acc, xs[k]? = some y → I k acc → dg y (dwipe δ own) fun δ' => dt δ' fun b => if b = true then de δ' fun z => acc.length < sizeLine ∧ I (k + 1) (acc ++ [z]) else I (k + 1) acc) ∧ ∀ acc, I xs.length acc → Φ acc
section
variable {C : Ctx} {te : TE} {de : DE} {tt : TT} {dt : DT} {g : TG} {dg : DG} {ti : TI} {di : DI}
theorem smo_lcG {own : List Nat} (hk : Kps own g) (hi : SmI C ti di) (hg : SmG C g dg) (ht : SmT C tt dt) (he : Sm C true te de) : SmO C (tLc ti g tt te own) (oLcG di own dg dt de) := fun σ δ H0 H Φ Q s w q =>
  hi σ δ H0 H _ _ s w fun H01 H1 J xs g1 wk ⟨I, i0, it, ie⟩ D hD => by
    have hD0 : H D = none := g1.fresh hD
    refine ⟨fun k m H' => m = xs.length - k ∧ k ≤ xs.length ∧ ∃ H0' us acc, Go C H01 H1 H0' H' ∧ H0' D = none ∧ H' D = some (.lst us) ∧ RpA C.K H0' us acc ∧ I k acc, ⟨_, rfl, Nat.zero_le _, H01, [], [], Go.free g1.wf hD, g1.wf.none hD, upd_same, .nil, i0⟩, ?_⟩
    rintro k m H' ⟨rfl, hk', H0', us, acc, g2, hn, hl, r, p⟩
    have nex : C.ex ≠ some D := (Go.he g1.wf hD).2
    by_cases hlt : k < xs.length
    · refine .inr ⟨wk.go H0' H' k g2.fz g2.wf hlt, fun H3 => ∃ H0' us acc, Go C H01 H1 H0' H3 ∧ H0' D = none ∧ H3 D = some (.lst us) ∧ RpA C.K H0' us acc ∧ I (k + 1) acc, fun H3 h => ⟨_, by omega, rfl, hlt, h⟩, fun v H'' y => ?_⟩
      obtain ⟨H02, z, g3, hz, rz⟩ := wk.yld H0' H' k v H'' g2.fz g2.wf hlt y
      have g23 := g2.trans g3
      have keep : ∀ {A B : Hp}, Go C H02 H'' A B → A D = none ∧ B D = some (.lst us) := fun {A B} gg => by
        have h1 : B D = some (.lst us) := gg.kp D _ nex (g3.kp D _ nex hl)
        refine ⟨?_, h1⟩
        cases e : A D with
        | none => rfl
        | some u =>
          rcases (g3.trans gg).nw D u e with h2 | h2
          · rw [hn] at h2; cases h2
          · rw [hl] at h2; cases h2
      have sw : St C H02 H'' (wipe σ own) (dwipe δ own) := (s.go ((g1.trans g2).trans g3)).wipe own
      have fin := hk v (wipe σ own) H'' _ (hg v z (wipe σ own) (dwipe δ own) H02 H'' _ (fun σ2 H2 => tt σ2 H2 fun b H3 => if b = true then te σ2 H3 fun y H4 => ∃ acc, H4 D = some (.lst acc) ∧ acc.length < sizeLine ∧ ∃ H0' us acc', Go C H01 H1 H0' (upd H4 D (.lst (acc ++ [y]))) ∧ H0' D = none ∧ (upd H4 D (.lst (acc ++ [y]))) D = some (.lst us) ∧ RpA C.K H0' us acc' ∧ I (k + 1) acc' else ∃ H0' us acc, Go C H01 H1 H0' H3 ∧ H0' D = none ∧ H3 D = some (.lst us) ∧ RpA C.K H0' us acc ∧ I (k + 1) acc) sw rz (it k z acc hz p) fun σ2 δ2 s2 w2 => ?_)
      · rw [wipe_wipe] at fin
        exact fin
      · refine ht _ _ H02 H'' _ _ s2 w2 fun H04 H4 b g4 w4 => ?_
        cases b with
        | false => exact iteF ⟨H04, us, acc, g23.trans g4, (keep g4).1, (keep g4).2, r.mono (g3.fz.trans g4.fz), by simpa using w4⟩
        | true =>
          refine iteT (he _ _ H04 H4 (fun z => acc.length < sizeLine ∧ I (k + 1) (acc ++ [z])) _ (s2.go g4) (by simpa using w4) fun H05 H5 y' z' g5 r5 ⟨w5, p5⟩ => ?_)
          have k5 := keep (g4.trans g5)
          refine ⟨us, k5.2, by rw [r.length]; exact w5, H05, us ++ [y'], acc ++ [z'], ?_, k5.1, upd_same, (r.mono (g3.fz.trans (g4.fz.trans g5.fz))).snoc r5, p5⟩
          have gg := (g23.trans g4).trans g5
          refine ⟨⟨fun b u e => ?_, fun b u n e => ?_, gg.wf.fz, gg.wf.nw, fun c e => ?_⟩, gg.fz, fun b u n e => ?_, gg.nw⟩
          · rw [upd_ne (fun z => by rw [z, k5.1] at e; cases e)]; exact gg.wf.sub b u e
          · rw [upd_ne (fun z => by rw [z, (Go.he g1.wf hD).1] at e; cases e)]; exact gg.wf.kp b u n e
          · exact (gg.wf.dr c e).keep (Same.refl _) (gg.wf.dr c e).no (upd_ne (fun z => nex (by rw [← z]; exact e)))
          · rw [upd_ne (fun z => by rw [z, hD] at e; cases e)]; exact gg.kp b u n e
    · have hk' : k = xs.length := by omega
      refine .inl ⟨wk.stop H0' H' k g2.fz g2.wf (by omega), q H0' H' D us acc (g1.trans g2) hD0 hn hl r (ie acc (hk' ▸ p))⟩
end
/-! ### loops by an invariant, their bodies untouched -/
theorem dFor_n {da : DE} {i : Nat} {db : DS} {E : DEnds} {δ : Dl} {n : Nat} (hn : n < 4611686018427387904) (h : ∀ Ψ : PyData → Prop, Ψ (.int n) → da δ Ψ) (I : Nat → Dl → Prop) (h0 : I 0 δ)
    (hs : ∀ (k : Nat) (δ' : Dl), k < n → I k δ' → db { E with nx := I (k + 1), ct := I (k + 1), bk := E.nx } (δ'.set i (some (.d (.int k))))) (he : ∀ δ', I n δ' → E.nx δ') : dFor (iR1 da) (dgName i) db E δ := by
  unfold dFor
  refine h _ ⟨n, rfl, by omega, by omega, I, h0, fun k y δ' hy hI => ?_, fun δ' hI => ?_⟩
  · obtain ⟨hk, rfl⟩ := rng_get hy
    have := hs k δ' hk hI
    rw [show (k : Int) = 0 + (k : Int) from (Int.zero_add _).symm] at this
    exact this
  · rw [rng_len] at hI
    exact he δ' hI
theorem dFor_w {di : DI} {dg : DG} {db : DS} {E : DEnds} {δ : Dl} {xs : List PyData} (h : ∀ Ψ : List PyData → Prop, Ψ xs → di δ Ψ) (I : Nat → Dl → Prop) (h0 : I 0 δ)
    (hs : ∀ (k : Nat) (y : PyData) (δ' : Dl), xs[k]? = some y → I k δ' → dg y δ' fun δ'' => db { E with nx := I (k + 1), ct := I (k + 1), bk := E.nx } δ'') (he : ∀ δ', I xs.length δ' → E.nx δ') : dFor di dg db E δ := by
  unfold dFor
  exact h _ ⟨I, h0, hs, he⟩
/-! ### side conditions that numbers settle -/
theorem le_size {n : Nat} (h : n ≤ 1000000) : (n ≤ sizeLine) = True := eq_true (Nat.le_trans h (by decide))
theorem lt_size {n : Nat} (h : n ≤ 1000000) : (n < sizeLine) = True := eq_true (Nat.lt_of_le_of_lt h (by decide))
theorem cmul_l {i j : Int} (h0 : -1000000000000000000 < i) (h1 : i < 1000000000000000000) : CMul i j = True := eq_true (.inl ⟨by omega, by omega⟩)
theorem cpow_l {i j : Int} (h0 : 0 ≤ j) (h1 : j ≤ 1000) (h2 : -1000000 ≤ i) (h3 : i ≤ 1000000) : CPow i j = True := eq_true ⟨h0, by omega, by omega⟩
theorem cdiv_l {i j : Int} (h0 : 0 < j) (h1 : j ≤ 18446744073709551616) : CDivW i j = True := eq_true ⟨h0, Nat.lt_of_lt_of_le (PySem.Flt.log2_lt_of (k := 65) (by decide) (by omega)) (by decide)⟩
@[simp] theorem own_ex2 {α β : Type} {a0 : α} {xs0 : β} {P : α → β → Prop} : (∃ a xs, (a0 = a ∧ xs = xs0) ∧ P a xs) ↔ P a0 xs0 := ⟨fun ⟨_, _, ⟨e1, e2⟩, h⟩ => by subst e1 e2; exact h, fun h => ⟨_, _, ⟨rfl, rfl⟩, h⟩⟩
/-- a statement at a time: what follows is a letter -/
theorem seq_op {d1 d2 : DS} {E : DEnds} {δ : Dl} (h : ∀ N : Dl → Prop, (∀ δ', d2 E δ' → N δ') → d1 { E with nx := N } δ) : dSeq d1 d2 E δ := h _ fun _ h => h
end VL

/-! max of a list of numbers, with a default. -/
namespace VL
open PySem L2
def rMaxD (K : PySem.W.Frag) : List V → List V → Hp → VK → Prop := fun xs zs H Q => ∃ (a : Addr) (ns : List Int) (d : Int), xs = [V.ref a] ∧ zs = [V.int d] ∧ SqL K H a (ns.map V.int) ∧ (ns = [] → Q (V.int d) H) ∧ ∀ m ∈ ns, (∀ y ∈ ns, y ≤ m) → Q (V.int m) H
theorem reads_ints {h : Heap} : ∀ {us : List Value} {ns : List Int}, PyProof.Rows.IntsAre us ns → ReadsAll h us (ns.map .int) []
  | _, _, .nil => .nil
  | _, _, .cons n t r => .cons (.int n t) (reads_ints r)
theorem foldl_max (n : Int) : ∀ ns : List Int, ns.foldl max n ∈ n :: ns ∧ ∀ y ∈ n :: ns, y ≤ ns.foldl max n := by
  intro ns
  induction ns generalizing n with
  | nil => exact ⟨List.mem_cons_self, fun y hy => by rw [List.mem_singleton.mp hy]; exact Int.le_refl _⟩
  | cons k r ih =>
    obtain ⟨h1, h2⟩ := ih (max n k)
    rw [List.foldl_cons]
    refine ⟨?_, fun y hy => ?_⟩
    · rcases List.mem_cons.mp h1 with h1 | h1
      · rw [h1]
        by_cases c : n ≤ k
        · rw [Int.max_eq_right c]; simp
        · rw [Int.max_eq_left (by omega)]; simp
      · simp [h1]
    · have hm := h2 (max n k) List.mem_cons_self
      rcases List.mem_cons.mp hy with rfl | hy
      · omega
      · rcases List.mem_cons.mp hy with rfl | hy
        · omega
        · exact h2 y (List.mem_cons_of_mem _ hy)
theorem crk_maxD {X : Cx} (hc : X.calm = true) (hu : X.A.units + 1 < cLine) : CallRK X (.builtin "max") ["default"] (rMaxD X.K) := by
  intro pins s σ H xs zs us ws Q I r1 r2 h
  obtain ⟨a, ns, d, rfl, rfl, hs, q0, q1⟩ := h
  obtain ⟨its, rv, hl, _⟩ := I.list hs
  rw [Vals.ref1 r1]
  cases r2 with
  | cons rd rn =>
    cases rn
    obtain ⟨t, rfl⟩ := rd
    have hi := rv.ints
    refine PySem.W.max_list_default (I.ok.hd hc) hl.isList (reads_ints hi) ⟨?_, ?_⟩ ?_ ?_ ?_
    · intro x hx y hy
      obtain ⟨i, _, rfl⟩ := List.mem_map.mp hx
      obtain ⟨j, _, rfl⟩ := List.mem_map.mp hy
      rfl
    · intro x hx
      obtain ⟨i, _, rfl⟩ := List.mem_map.mp hx
      intro z
      cases z
    · rw [depth_ints]
      exact hu
    · intro e h' tk hk
      exact ⟨.int _, H, I.kept hk, ⟨_, rfl⟩, q0 (List.map_eq_nil_iff.mp e)⟩
    · intro y ys i v h' tk bs e hv hr hk
      cases ns with
      | nil => cases e
      | cons n ns =>
        cases e
        rw [PySem.W.maxD_ints] at hr
        cases hr
        obtain ⟨m1, m2⟩ := foldl_max n ns
        exact ⟨.int _, H, I.kept hk, ⟨_, rfl⟩, q1 _ m1 m2⟩
theorem kx_maxD {X : Cx} {K : PySem.W.Frag} (h : X.K = K) (hc : X.calm = true) (hu : X.A.units + 1 < cLine) : CallRK X (.builtin "max") ["default"] (rMaxD K) := by subst h; exact crk_maxD hc hu
section
variable {C : Ctx} {f f1 f2 : Bool} {ta tb : TE} {da db : DE}
@[simp] def dMaxD (da db : DE) : DE := fun δ Φ => da δ fun x => db δ fun y => ∃ (ns : List Int) (d : Int), x = .list (ns.map .int) ∧ y = .int d ∧ (ns = [] → Φ (.int d)) ∧ ∀ m ∈ ns, (∀ y ∈ ns, y ≤ m) → Φ (.int m)
theorem sm_maxD (ha : Sm C f1 ta da) (hb : Sm C f2 tb db) : Sm C f (tCKw (rMaxD C.K) (tCons ta tNil) (tCons tb tNil)) (dMaxD da db) := fun σ δ H0 H Φ Q s w q =>
  ha σ δ H0 H _ _ s w fun H01 H1 v x g1 r1 w1 => hb σ δ H01 H1 _ _ (s.go g1) w1 fun H02 H2 u y g2 r2 ⟨ns, d, e1, e2, q0, q1⟩ => by
    subst e1 e2
    have r3 := r1.mono g2.loc
    cases r3 with
    | lst h r =>
      have e := rpa_ints r
      subst e
      cases r2
      exact ⟨_, ns, d, rfl, rfl, SqL.of (g2.wf.loc _ _ h), fun e => q _ _ _ _ (g1.trans g2) (.int _) (q0 e), fun m m1 m2 => q _ _ _ _ (g1.trans g2) (.int _) (q1 m m1 m2)⟩
end
end VL
namespace VL
open PySem L2
/-! ### a written tuple of the program's top -/
def KTu (K : PySem.W.Frag) (a : Addr) (ds : List PyData) : Prop := ∃ xs : List V, (∃ (o : Obj) (its : Array Value) (n : Nat), K.lookup a = some o ∧ o.cls = .type "tuple" ∧ o.data = .seq its n ∧ its.size ≤ sizeLine ∧ Vals xs its.toList) ∧ ∀ H, RpA K H xs ds
/-- scalar items as values -/
inductive PaiV : List Value → List PyData → Prop
  | nil : PaiV [] []
  | cons {v : Value} {d : PyData} {vs : List Value} {ds : List PyData} (h : (∃ x : V, RelV x v ∧ isScalV x = some d)) (r : PaiV vs ds) : PaiV (v :: vs) (d :: ds)
theorem PaiV.n : ∃ x : V, RelV x Value.none ∧ isScalV x = some .none := ⟨.non, rfl, rfl⟩
theorem PaiV.b {k : Bool} : ∃ x : V, RelV x (Value.bool k) ∧ isScalV x = some (.bool k) := ⟨.bl k, rfl, rfl⟩
theorem PaiV.i {k : Int} {t : Tok} : ∃ x : V, RelV x (Value.int k t) ∧ isScalV x = some (.int k) := ⟨.int k, ⟨t, rfl⟩, rfl⟩
theorem PaiV.s {k : Str} {t : Tok} : ∃ x : V, RelV x (Value.str k t) ∧ isScalV x = some (.str k) := ⟨.str k, ⟨t, rfl⟩, rfl⟩
theorem PaiV.vals {K : PySem.W.Frag} : ∀ {vs : List Value} {ds : List PyData}, PaiV vs ds → ∃ xs : List V, Vals xs vs ∧ ∀ H, RpA K H xs ds
  | _, _, .nil => ⟨[], .nil, fun _ => .nil⟩
  | _, _, .cons ⟨x, h1, h2⟩ r => by
    obtain ⟨xs, k1, k2⟩ := PaiV.vals (K := K) r
    exact ⟨x :: xs, .cons h1 k1, fun H => .cons (isScal_rp h2 H) (k2 H)⟩
theorem KTu.mk {K : PySem.W.Frag} {a : Addr} {ds : List PyData} {o : Obj} {its : Array Value} {n : Nat} {vs : List Value} (h : K.lookup a = some o) (hc : o.cls = .type "tuple") (hd : o.data = .seq its n) (hi : its.toList = vs) (hl : vs.length ≤ 100) (p : PaiV vs ds) : KTu K a ds := by
  obtain ⟨xs, k1, k2⟩ := p.vals (K := K)
  refine ⟨xs, ⟨o, its, n, h, hc, hd, ?_, by rw [hi]; exact k1⟩, k2⟩
  rw [← Array.length_toList, hi]
  exact Nat.le_trans hl (by decide)
theorem sm_globT {C : Ctx} {f : Bool} {a : Addr} {ds : List PyData} {v : V} (hv : v = .ref a) (h : KTu C.K a ds) : Sm C f (tC v) (dC (.tuple ds)) := fun σ δ H0 H Φ Q s p q => by
  obtain ⟨xs, h1, h2⟩ := h
  subst hv
  exact q H0 H _ _ (.refl s.toWf) (.tup (.inr h1) (h2 _)) p
end VL
namespace VL
open PySem L2
section
variable {C : Ctx} {te : TE} {de : DE}
/-- xs.extend(ys), xs an owned list -/
@[simp] def dExt (i : Nat) (de : DE) : DS := fun E δ => ∃ a xs, δ[i]? = some (some (.own a xs)) ∧ de δ fun x => ∃ ys, x = .list ys ∧ xs.length + ys.length ≤ sizeLine ∧ E.nx (δ.set i (some (.own a (xs ++ ys))))
theorem sms_ext (i : Nat) (h : Sm C true te de) : SmS C (tDrop (tBM C.K "list" rExtend (tVar i) (tCons te tNil))) (dExt i de) := fun σ δ H0 H E D s ⟨a0, xs0, e0, w⟩ e => by
  obtain ⟨v, e1, rfl, h1, h2, h3, vs, h4, h5⟩ := s.sl i _ e0
  refine ⟨_, e1, .inl ⟨rfl, vs, SqL.of h4⟩, h σ δ H0 H _ _ s w fun H0' H' y x g1 r ⟨ys, ex, hl, p⟩ => ?_⟩
  subst ex
  have s1 := s.go g1
  obtain ⟨v', f1, f2, f3, f4, f5, us, f6, f7⟩ := s1.sl i _ e0
  cases r with
  | @lst b zs _ hb rb =>
    exact ⟨a0, b, us, zs, rfl, rfl, f6, g1.wf.sub _ _ hb, by rw [f7.length, rb.length]; exact hl, e.nx H0' _ σ _ g1.fz (s1.write i e0 (f7.append rb)) p⟩
end
end VL
namespace VL
open PySem L2
theorem oLcG_map {di : DI} {own : List Nat} {dg : DG} {de : DE} {δ : Dl} {Φ : List PyData → Prop} {xs : List PyData} (F : PyData → PyData) (hn : xs.length < 1000000) (h : ∀ Ψ : List PyData → Prop, Ψ xs → di δ Ψ)
    (hs : ∀ (k : Nat) (y : PyData) (Ψ : PyData → Prop), xs[k]? = some y → Ψ (F y) → dg y (dwipe δ own) fun δ' => de δ' Ψ) (hΦ : Φ (xs.map F)) : oLcG di own dg dYes de δ Φ := by
  unfold oLcG
  refine h _ ⟨fun k acc => acc = (xs.take k).map F, by simp, fun k y acc hy ha => ?_, fun acc ha => ?_⟩
  · subst ha
    have hk := (List.getElem?_eq_some_iff.mp hy).1
    refine hs k y _ hy ⟨?_, ?_⟩
    · rw [List.length_map, List.length_take]
      exact Nat.lt_of_lt_of_le (show min k xs.length < 1000000 by omega) (by decide)
    · show (xs.take k).map F ++ [F y] = (xs.take (k + 1)).map F
      rw [List.take_add_one, hy, List.map_append]
      rfl
  · subst ha
    rw [List.take_length]
    exact hΦ
end VL

/-! Texts put together: f'..', zip of two tuples. -/
namespace VL
open PySem L2 RZ
section
variable {C : Ctx} {f f1 f2 : Bool} {te ta tb : TE} {de da db : DE}
@[simp] def dFmt (da : DE) : DE := fun δ Φ => da δ fun x => match x with
  | .str y => y.length ≤ sizeLine ∧ Φ (.str y)
  | .int i => i.natAbs.log2 < 1920 ∧ Φ (.str (toString i))
  | _ => False
theorem sm_fmt (ha : Sm C f1 ta da) : Sm C f (tFmt ta) (dFmt da) := fun σ δ H0 H Φ Q s w q =>
  ha σ δ H0 H _ _ s w fun H01 H1 v x g1 r1 w1 => by
    cases r1 with
    | str y => exact .inl ⟨y, rfl, w1.1, q _ _ _ _ g1 (.str _) w1.2⟩
    | int i => exact .inr ⟨i, rfl, w1.1, q _ _ _ _ g1 (.str _) w1.2⟩
    | _ => exact w1.elim
def dJs : List DE → Str → Dl → (Str → Prop) → Prop
  | [], acc, _, Φ => Φ acc
  | d :: ds, acc, δ, Φ => d δ fun x => ∃ y : Str, x = .str y ∧ (acc ++ y).length ≤ sizeLine ∧ dJs ds (acc ++ y) δ Φ
@[simp] theorem dJs_nil (acc : Str) (δ : Dl) (Φ : Str → Prop) : dJs [] acc δ Φ = Φ acc := rfl
@[simp] theorem dJs_cons (d : DE) (ds : List DE) (acc : Str) (δ : Dl) (Φ : Str → Prop) : dJs (d :: ds) acc δ Φ = d δ fun x => ∃ y : Str, x = .str y ∧ (acc ++ y).length ≤ sizeLine ∧ dJs ds (acc ++ y) δ Φ := rfl
@[simp] def dJoined (ds : List DE) : DE := fun δ Φ => dJs ds Str.empty δ fun out => Φ (.str out)
inductive SmJ (C : Ctx) : List TE → List DE → Prop
  | nil : SmJ C [] []
  | cons {te : TE} {de : DE} {ts : List TE} {ds : List DE} (h : Sm C false te de) (r : SmJ C ts ds) : SmJ C (te :: ts) (de :: ds)
theorem smj_run {ts : List TE} {ds : List DE} (h : SmJ C ts ds) : ∀ (acc : Str) (σ : L2.St) (δ : Dl) (H0 H : Hp) (Φ : Str → Prop) (Q : Str → Hp → Prop), St C H0 H σ δ → dJs ds acc δ Φ → (∀ H0' H' out, Go C H0 H H0' H' → Φ out → Q out H') → tJs ts acc σ H Q := by
  induction h with
  | nil => exact fun acc σ δ H0 H Φ Q s w q => q H0 H acc (.refl s.toWf) w
  | cons h r ih =>
    intro acc σ δ H0 H Φ Q s w q
    refine h σ δ H0 H _ _ s w fun H01 H1 v x g1 r1 ⟨y, e, hl, w1⟩ => ?_
    subst e
    cases r1
    exact ⟨y, rfl, hl, ih (acc ++ y) σ δ H01 H1 Φ Q (s.go g1) w1 fun H02 H2 out g2 p => q _ _ _ (g1.trans g2) p⟩
theorem sm_joined {ts : List TE} {ds : List DE} (h : SmJ C ts ds) : Sm C f (fun σ H Q => tJs ts Str.empty σ H fun out H1 => Q (.str out) H1) (dJoined ds) := fun σ δ H0 H Φ Q s w q =>
  smj_run h Str.empty σ δ H0 H _ _ s w fun H0' H' out g p => q _ _ _ _ g (.str _) p
/-- zip of two tuples -/
@[simp] def iZpT (da db : DE) : DI := fun δ Φ => da δ fun x => db δ fun y => ∃ xs ys, x = .tuple xs ∧ y = .tuple ys ∧ Φ (zipD xs ys)
theorem smi_zipT (ha : Sm C true ta da) (hb : Sm C true tb db) : SmI C (iZipA C.K (tCons ta (tCons tb tNil))) (iZpT da db) := fun σ δ H0 H Φ R s w q =>
  ha σ δ H0 H _ _ s w fun H01 H1 v x g1 r1 w1 => hb σ δ H01 H1 _ _ (s.go g1) w1 fun H02 H2 u y g2 r2 ⟨xs, ys, e1, e2, p⟩ => by
    subst e1 e2
    have r3 := r1.mono g2.fz
    cases r3 with
    | @tup a us _ h r =>
      cases r2 with
      | @tup b ws _ h' r' =>
        refine ⟨a, b, us, ws, rfl, .inr ⟨same_t g2.wf.sub h, same_t g2.wf.sub h', q _ _ _ _ (g1.trans g2) ⟨fun H0' H' i e w hi0 => have hi := Nat.le_of_eq hi0; ?_, fun H0' H' i e w hi => ?_, fun H0' H' i v H'' e w hi y => ?_⟩ p⟩⟩
        · unfold zipD at hi
          rw [List.length_zipWith] at hi
          refine ⟨us, ws, same_t w.sub (same_t e h), same_t w.sub (same_t e h'), ?_⟩
          rw [r.length, r'.length]
          omega
        · unfold zipD at hi
          rw [List.length_zipWith] at hi
          obtain ⟨y1, hy1⟩ := get_lt (show i < xs.length by omega)
          obtain ⟨v1, h1, _⟩ := r.get hy1
          obtain ⟨y2, hy2⟩ := get_lt (show i < ys.length by omega)
          obtain ⟨v2, h2, _⟩ := r'.get hy2
          exact ⟨us, ws, v1, v2, same_t w.sub (same_t e h), same_t w.sub (same_t e h'), h1, h2⟩
        · obtain ⟨T, x1, x2, rfl, hT, rfl, y1, y2⟩ := y
          have y1 := y1 us (same_t w.sub (same_t e h))
          have y2 := y2 ws (same_t w.sub (same_t e h'))
          obtain ⟨d1, hd1, rd1⟩ := r.get' y1
          obtain ⟨d2, hd2, rd2⟩ := r'.get' y2
          obtain ⟨H0'', g, r2⟩ := tup_new w hT (.cons (rd1.mono e) (.cons (Rp.mono e rd2) .nil))
          refine ⟨H0'', _, g, ?_, r2⟩
          unfold zipD
          rw [List.getElem?_zipWith, hd1, hd2]
end
/-! ### texts of numbers, their lengths -/
theorem len_app (a b : Str) : (a ++ b).length = a.length + b.length := by
  show (a.cps ++ b.cps).size = _
  rw [Array.size_append]
  rfl
theorem len_lit (s : String) : (Str.ofString s).length = s.length := PyProof.Rows.ofString_len s
theorem len_nat {v : Int} (h0 : 0 ≤ v) (h : v < 100000000000000000000) : (Str.ofString (toString v)).length ≤ 20 := PyProof.Rows.toString_length_le (k := 20) h0 (by decide) (by simpa using h)
theorem neg_str {n : Nat} : toString (-((n + 1 : Nat) : Int)) = "-" ++ toString ((n + 1 : Nat) : Int) := rfl
theorem len_int {v : Int} (h0 : -(100000000000000000000) < v) (h : v < 100000000000000000000) : (Str.ofString (toString v)).length ≤ 21 := by
  by_cases c : 0 ≤ v
  · have := len_nat c h
    omega
  · obtain ⟨n, rfl⟩ : ∃ n : Nat, v = -((n + 1 : Nat) : Int) := ⟨(-v - 1).toNat, by omega⟩
    rw [neg_str, len_lit, String.length_append]
    have h2 := len_nat (v := ((n + 1 : Nat) : Int)) (by omega) (by omega)
    rw [len_lit] at h2
    have : "-".length = 1 := rfl
    omega
theorem log_int {v : Int} (h0 : -(100000000000000000000) < v) (h : v < 100000000000000000000) : v.natAbs.log2 < 1920 := by
  have : v.natAbs < 2 ^ 70 := by omega
  exact Nat.lt_of_lt_of_le (PySem.Flt.log2_lt_of (k := 70) (by decide) this) (by decide)
end VL
namespace VL
open PySem L2
theorem oLc_of {α : Type} {di : DI} {i : Nat} {de : DE} {δ : Dl} {Φ : List PyData → Prop} (xs : List α) (D G : α → PyData) (hn : xs.length < 1000000) (h : ∀ Ψ : List PyData → Prop, Ψ (xs.map D) → di δ Ψ)
    (hs : ∀ (k : Nat) (a : α) (Ψ : PyData → Prop), xs[k]? = some a → Ψ (G a) → de (δ.set i (some (.d (D a)))) Ψ) (hΦ : Φ (xs.map G)) : oLc di i dYes de δ Φ := by
  unfold oLc
  refine h _ ⟨fun k acc => acc = (xs.take k).map G, by simp, fun k y acc hy ha => ?_, fun acc ha => ?_⟩
  · subst ha
    rw [List.getElem?_map] at hy
    obtain ⟨a, ha, rfl⟩ := Option.map_eq_some_iff.mp hy
    unfold dYes
    dsimp only
    rw [if_pos rfl]
    have hk := (List.getElem?_eq_some_iff.mp ha).1
    refine hs k a _ ha ⟨?_, ?_⟩
    · rw [List.length_map, List.length_take]
      exact Nat.lt_of_lt_of_le (show min k xs.length < 1000000 by omega) (by decide)
    · show (xs.take k).map G ++ [G a] = (xs.take (k + 1)).map G
      rw [List.take_add_one, ha, List.map_append]
      rfl
  · subst ha
    rw [List.length_map, List.take_length]
    exact hΦ
end VL

/-! A slot that holds a def; a list extended with a tuple. -/
namespace VL
open PySem L2
open PySem.AutoSeq1 in
theorem list_extend_tup (l : Addr) (items : Array Value) (n : Nat) (b : Addr) (items2 : Array Value) (n2 : Nat) (c2 : Value) (dd : Option Addr) (sl : Array (Option Value)) (hc : c2 = .type "tuple") (hs0 : ¬(!items.isEmpty && Builtin.List.listTooLong (items.size + items2.size)) = true) (hs1 : items.size ≤ sizeLine) (hs2 : items.size + items2.size ≤ sizeLine + 1) :
    Meets (Builtin.«list.extend» ⟨[.ref l, .ref b], []⟩) (fun _ R s => s.heap.get? l = some { cls := .type "list", dict := none, data := .seq items n, slots := #[] } ∧ s.heap.get? b = some { cls := c2, dict := dd, data := .seq items2 n2, slots := sl } ∧ R (.ok (.ret Value.none)) { s with heap := s.heap.update l (Obj.mapSeq fun x => x ++ items2), toks := s.toks }) := by
  subst hc
  exact .of_wp fun prog w A R s h => by
    obtain ⟨hp, g, d, tk, os⟩ := s; obtain ⟨hl, hb, h⟩ := h; have f1 := idx_int; have f2 := sub_tuple_tuple; have f3 := sub_list_list; have f4 := sub_tuple_list; have f5 := sub_list_tuple;
    have hz' : (items ++ items2).size ≤ sizeLine + 1 := by rw [Array.size_append]; exact hs2
    wp_walk using (wpAny_updateSeq hl rfl (hz := hs1) (_hz' := hz')), wpAny_loadPart' hl, wpAny_loadPart' hb; exact ⟨_, rfl, h⟩
def rExtT (K : PySem.W.Frag) : V → List V → Hp → VK → Prop := fun x vs H Q => ∃ l b xs zs, x = .ref l ∧ vs = [.ref b] ∧ H l = some (.lst xs) ∧ SqT K H b zs ∧ xs.length + zs.length ≤ sizeLine ∧ Q .non (upd H l (.lst (xs ++ zs)))
theorem mt_extT {X : Cx} : MtM X "list.extend" (rExtT X.K) := by
  intro pins s σ H x vs v us Q I rx rv h
  obtain ⟨l, b, xs, zs, rfl, rfl, hH, hB, hz, q⟩ := h
  cases rx
  obtain ⟨u, rfl, ru⟩ := rv.one
  cases ru
  obtain ⟨z, its, n, r, hl, e⟩ := I.lstM hH
  obtain ⟨its2, r2, ⟨o, e2, hc, n2, hd⟩, z2⟩ := I.tuple hB
  obtain ⟨c2, dd, da, sl⟩ := o
  simp only at hc hd
  subst hd
  have hl2 := r2.length
  have hsz : its.toArray.size + its2.toArray.size ≤ sizeLine := by rw [List.size_toArray, List.size_toArray]; omega
  have hlong : ¬ (!its.toArray.isEmpty && Builtin.List.listTooLong (its.toArray.size + its2.toArray.size)) = true := by
    rw [notLongL hsz, Bool.and_false]
    exact Bool.false_ne_true
  refine call_meets F.slot_list_extend ⟨_, e, rfl⟩ F.entry_list_extend (F.args_list_extend_2 _ _)
    (list_extend_tup l its.toArray n b its2.toArray n2 c2 dd sl hc hlong (by rw [List.size_toArray]; omega) (by omega)) ⟨e, e2, ?_⟩
  refine ⟨.non, _, I.lset (its' := its ++ its2) hH e (by simp) (r.append r2) ?_, rfl, q⟩
  rw [List.length_append]
  omega
theorem kx_extT {X : Cx} {K : PySem.W.Frag} (h : X.K = K) : MtM X "list.extend" (rExtT K) := by subst h; exact mt_extT
section
variable {C : Ctx} {te : TE} {de : DE} {tas : TA} {dqs : DR} {f : Bool}
/-- xs.extend(ys), xs an owned list, ys a tuple -/
@[simp] def dExtT (i : Nat) (de : DE) : DS := fun E δ => ∃ a xs, δ[i]? = some (some (.own a xs)) ∧ de δ fun x => ∃ ys, x = .tuple ys ∧ xs.length + ys.length ≤ sizeLine ∧ E.nx (δ.set i (some (.own a (xs ++ ys))))
theorem sms_extT (i : Nat) (h : Sm C true te de) : SmS C (tDrop (tBM C.K "list" (rExtT C.K) (tVar i) (tCons te tNil))) (dExtT i de) := fun σ δ H0 H E D s ⟨a0, xs0, e0, w⟩ e => by
  obtain ⟨v, e1, rfl, h1, h2, h3, vs, h4, h5⟩ := s.sl i _ e0
  refine ⟨_, e1, .inl ⟨rfl, vs, SqL.of h4⟩, h σ δ H0 H _ _ s w fun H0' H' y x g1 r ⟨ys, ex, hl, p⟩ => ?_⟩
  subst ex
  have s1 := s.go g1
  obtain ⟨v', f1, f2, f3, f4, f5, us, f6, f7⟩ := s1.sl i _ e0
  cases r with
  | @tup b zs _ hb rb =>
    exact ⟨a0, b, us, zs, rfl, rfl, f6, same_t g1.wf.sub hb, by rw [f7.length, rb.length]; exact hl, e.nx H0' _ σ _ g1.fz (s1.write i e0 (f7.append rb)) p⟩
/-- a call of a def that a slot holds -/
@[simp] def dCallL (i : Nat) (fa : Addr) (p : VSp) (ds : DR) : DE := fun δ Φ => δ[i]? = some (some (.raw (.ref fa))) ∧ dCall p ds δ Φ
theorem sm_callL {n : Nat} {p : VSp} {E : XK} {fa : Addr} (i : Nat) (hp : ∀ rs Φ, p rs Φ → rs.length = n) (ha : SmQ C tas dqs) : Sm C f (tCallL i fa (toSp C.K n p) [] E tas) (dCallL i fa p dqs) := fun σ δ H0 H Φ Q s ⟨e, w⟩ q => by
  obtain ⟨v, e1, e2⟩ := s.sl i _ e
  have e3 : v = .ref fa := e2
  subst e3
  exact ⟨e1, (sm_call (f := f) (E := E) hp ha) σ δ H0 H Φ Q s w q⟩
/-- a def of the program's top, handed to another -/
@[simp] def qGlob (v : V) (ds : DR) : DR := fun δ Φ => ds δ fun xs => Φ (.raw v :: xs)
theorem smq_glob {v : V} (hb : SmQ C tas dqs) : SmQ C (tCons (tC v) tas) (qGlob v dqs) := fun σ δ H0 H Φ Q s w q =>
  hb σ δ H0 H _ _ s w fun H02 H2 us ys g2 r2 w2 => q H02 H2 _ _ g2 (RRas.cons (r := R.raw v) rfl r2) w2
/-- a slot that holds a def, handed on -/
@[simp] def qRaw (i : Nat) (ds : DR) : DR := fun δ Φ => ∃ v, δ[i]? = some (some (.raw v)) ∧ ds δ fun xs => Φ (.raw v :: xs)
theorem smq_raw (i : Nat) (hb : SmQ C tas dqs) : SmQ C (tCons (tVar i) tas) (qRaw i dqs) := fun σ δ H0 H Φ Q s ⟨v, e, w⟩ q => by
  obtain ⟨u, e1, e2⟩ := s.sl i _ e
  have e3 : u = v := e2
  subst e3
  exact ⟨u, e1, hb σ δ H0 H _ _ s w fun H02 H2 us ys g2 r2 w2 => q H02 H2 _ _ g2 (RRas.cons (r := R.raw u) rfl r2) w2⟩
end
end VL

/-! zip of any two sources: each is known by its next item, its end, and what it keeps. -/
namespace VZ
open PySem PySem.Spec PyProof.Rows L2 RZ
/-- at turn k the iterator `it` over the object `l` of the items xs stands so -/
structure Src (it l : Addr) (xs : Array Value) (S : Heap → Nat → Prop) : Prop where
  keep : ∀ {h h' : Heap} {k : Nat}, S h k → (∀ o, h.get? it = some o → h'.get? it = some o) → (∀ o, h.get? l = some o → h'.get? l = some o) → S h' k
  obj : ∀ {h : Heap} {k : Nat}, S h k → ∃ o, h.get? it = some o ∧ ∀ v, o.data ≠ .cell v
  item : ∀ {prog : Program} {w : World} {A : Around} {E : Value → Shared → Prop} {s : Shared} {k : Nat} {x : Value} {Q : Value → Shared → Prop}, S s.heap k → xs[k]? = some x →
    (∀ h', S h' (k + 1) → Heap.SameBut it s.heap h' → Q x { s with heap := h' }) → wpAny (model prog w) A (Builtin.SmallTypes.nextOf (.ref it)) Q E s
  stop : ∀ {prog : Program} {w : World} {A : Around} {E : Value → Shared → Prop} {s : Shared} {k : Nat} {Q : Value → Shared → Prop}, A.handled = none → S s.heap k → xs[k]? = none →
    (∀ h' e, Heap.ExtBut it s.heap h' → (∃ o, h'.get? e = some o ∧ o.cls = .type "StopIteration") → E (.ref e) { s with heap := h' }) → wpAny (model prog w) A (Builtin.SmallTypes.nextOf (.ref it)) Q E s
def SL (it l : Addr) (xs : Array Value) (h : Heap) (k : Nat) : Prop := h.IsListIter it l k ∧ h.IsList l xs
def ST (it l : Addr) (xs : Array Value) (h : Heap) (k : Nat) : Prop := h.IsTupleIter it l k ∧ h.IsTuple l xs
theorem srcL {it l : Addr} {xs : Array Value} (ne : l ≠ it) : Src it l xs (SL it l xs) where
  keep := fun ⟨a, b⟩ f g => ⟨Heap.IsListIter.at a f, Heap.IsList.at b g⟩
  obj := fun ⟨⟨o, e, _, d⟩, _⟩ => ⟨o, e, fun v q => by rw [d] at q; cases q⟩
  item := fun ⟨a, b⟩ hx q => wpAny_nextOf_list_item a b hx fun h' c d => q h' ⟨c, b.extBut d.extBut ne⟩ d
  stop := fun hh ⟨a, b⟩ hx q => wpAny_nextOf_list_end hh a b hx q
theorem srcT {it l : Addr} {xs : Array Value} (ne : l ≠ it) : Src it l xs (ST it l xs) where
  keep := fun ⟨a, b⟩ f g => ⟨Heap.IsTupleIter.at a f, Heap.IsTuple.at b g⟩
  obj := fun ⟨⟨o, e, _, d⟩, _⟩ => ⟨o, e, fun v q => by rw [d] at q; cases q⟩
  item := fun ⟨a, b⟩ hx q => nextOf_tuple_item a b hx fun h' c d => q h' ⟨c, b.extBut d.extBut ne⟩ d
  stop := fun hh ⟨a, b⟩ hx q => nextOf_tuple_end hh a b hx q
section
variable {prog : Program} {w : World} {A : Around} {E : Value → Shared → Prop} {s : Shared} {z TI TO i1 i2 l1 l2 : Addr} {xs ys : Array Value} {S1 S2 : Heap → Nat → Prop} {k : Nat}
theorem Src.bump {it l c : Addr} {S : Heap → Nat → Prop} {h h' : Heap} (sr : Src it l xs S) (st : S h k) (e : Heap.ExtBut c h h') (n1 : it ≠ c) (n2 : l ≠ c) : S h' k := sr.keep st (fun o q => e _ o n1 q) fun o q => e _ o n2 q
/-- the two places of the pair that stands ready, one behind the other -/
theorem next_item (s1 : Src i1 l1 xs S1) (s2 : Src i2 l2 ys S2) {x y a b : Value} {Q : Value → Shared → Prop} (D : ZipApart z TI TO i1 i2 l1 l2)
    (hz : IsZip s.heap z TI TO .none) (hTI : IsPair s.heap TI (.ref i1) (.ref i2)) (hTO : IsPair s.heap TO a b) (h1 : S1 s.heap k) (h2 : S2 s.heap k) (hx : xs[k]? = some x) (hy : ys[k]? = some y)
    (hQ : ∀ h', IsZip h' z TI TO (rawInt s.heap.objs.size) → IsPair h' TO x y → S1 h' (k + 1) → S2 h' (k + 1) → IsPair h' s.heap.objs.size x y →
      (∀ c o, c ≠ z → c ≠ TO → c ≠ i1 → c ≠ i2 → s.heap.get? c = some o → h'.get? c = some o) → Q (.ref s.heap.objs.size) { s with heap := h' }) :
    wpAny (model prog w) A (Builtin.«zip.__next__» ⟨[.ref z], []⟩) (fun fin s' => ∃ v, fin = .done (.ret v) ∧ Q v s') E s := by
  show wpAny _ _ (field (.ref z) 2 >>= _) _ _ _
  refine wpAny_bind (wpAny_field hz rfl (x := .bool false) rfl ?_)
  show wpAny _ _ (field (.ref z) 3 >>= _) _ _ _
  refine wpAny_bind (wpAny_field hz rfl (x := .ref TI) rfl (wpAny_bind (wpAny_seqItems hTI rfl ?_)))
  show wpAny _ _ (Builtin.SmallTypes.ownedTupleIsFree (.ref z) >>= _) _ _ _
  refine wpAny_bind ?_
  unfold Builtin.SmallTypes.ownedTupleIsFree
  refine wpAny_bind (wpAny_field hz rfl (x := .none) rfl (wpAny_pure ?_))
  simp only [if_true]
  refine wpAny_bind (wpAny_rule (wpAny_bind (wpAny_field hz rfl (x := .ref TO) rfl (wpAny_bind (wpAny_setField_rec hz (by simp) fun ha za ea => ?_)))))
  replace za : IsZip ha z TI TO .ellipsis := za
  have pa : IsPair ha TO a b := ea.extBut _ _ D.TOz hTO
  have qa1 := s1.bump h1 ea.extBut D.i1z D.l1z
  have qa2 := s2.bump h2 ea.extBut D.i2z D.l2z
  refine wpAny_bind ?_
  simp only [List.zipIdx_cons, List.zipIdx_nil, List.forIn_cons, List.forIn_nil]
  refine wpAny_bind (wpAny_bind (wpAny_onRaise ?_))
  show wpAny _ _ (Builtin.SmallTypes.nextOf (.ref i1) >>= _) _ _ _
  refine wpAny_bind (s1.item qa1 hx fun hb qb1 eb => wpAny_pure ?_)
  have pb : IsPair hb TO a b := eb.extBut _ _ D.TOi1 pa
  have qb2 := s2.bump qa2 eb.extBut D.i12.symm D.l2i1
  refine wpAny_bind (wpAny_seqItems pb rfl (wpAny_bind (wpAny_updateSeq_pair pb fun hc pc ec => ?_)))
  replace pc : IsPair hc TO x b := pc
  have qc1 := s1.bump qb1 ec.extBut D.TOi1.symm D.l1TO
  have qc2 := s2.bump qb2 ec.extBut D.TOi2.symm D.l2TO
  refine wpAny_bind (wpAny_letGo (wpAny_pure ?_))
  refine wpAny_bind (wpAny_bind (wpAny_onRaise ?_))
  show wpAny _ _ (Builtin.SmallTypes.nextOf (.ref i2) >>= _) _ _ _
  refine wpAny_bind (s2.item qc2 hy fun hd qd2 ed => wpAny_pure ?_)
  have pd : IsPair hd TO x b := ed.extBut _ _ D.TOi2 pc
  have qd1 := s1.bump qc1 ed.extBut D.i12 D.l1i2
  refine wpAny_bind (wpAny_seqItems pd rfl (wpAny_bind (wpAny_updateSeq_pair pd fun he pe ee => ?_)))
  replace pe : IsPair he TO x y := pe
  have qe1 := s1.bump qd1 ee.extBut D.TOi1.symm D.l1TO
  have qe2 := s2.bump qd2 ee.extBut D.TOi2.symm D.l2TO
  refine wpAny_bind (wpAny_letGo (wpAny_pure (wpAny_pure ?_)))
  refine wpAny_bind (wpAny_seqItems pe rfl (wpAny_bind (wpAny_newTuple ?_)))
  have sz : he.objs.size = s.heap.objs.size := by rw [ee.1, ed.1, ec.1, eb.1, ea.1]
  have ze : IsZip he z TI TO .ellipsis := ee.extBut _ _ D.TOz.symm (ed.extBut _ _ D.i2z.symm (ec.extBut _ _ D.TOz.symm (eb.extBut _ _ D.i1z.symm za)))
  have ke : ∀ c o, c ≠ z → c ≠ TO → c ≠ i1 → c ≠ i2 → s.heap.get? c = some o → he.get? c = some o := fun c o c1 c2 c3 c4 e =>
    ee.extBut _ _ c2 (ed.extBut _ _ c4 (ec.extBut _ _ c2 (eb.extBut _ _ c3 (ea.extBut _ _ c1 e))))
  have lz : z < he.objs.size := Heap.lt_size ze
  show wpAny _ _ (Builtin.SmallTypes.ownedTupleHandOut (.ref z) (.ref he.objs.size) >>= _) _ _ _
  refine wpAny_bind ?_
  unfold Builtin.SmallTypes.ownedTupleHandOut
  have zf : IsZip (he.push { cls := .type "tuple", data := .seq #[x, y] }) z TI TO .ellipsis := Heap.get?_push_of_some _ ze
  refine wpAny_bind (wpAny_setField_rec zf (by simp) fun hg zg eg => ?_)
  replace zg : IsZip hg z TI TO (rawInt he.objs.size) := zg
  refine wpAny_setField_rec zg (by simp) fun hi zi ei => ?_
  replace zi : IsZip hi z TI TO (rawInt he.objs.size) := zi
  have up : ∀ c o, c ≠ z → he.get? c = some o → hi.get? c = some o := fun c o c1 e => ei.extBut _ _ c1 (eg.extBut _ _ c1 (Heap.get?_push_of_some _ e))
  have pi : IsPair hi he.objs.size x y := ei.extBut _ _ (Nat.ne_of_gt lz) (eg.extBut _ _ (Nat.ne_of_gt lz) (Heap.get?_push_size _ rfl))
  rw [sz] at zi pi
  refine wpAny_pure ⟨_, rfl, ?_⟩
  show Q (.ref he.objs.size) _
  rw [sz]
  exact hQ hi zi (up _ _ D.TOz pe) (s1.keep qe1 (fun o e => up _ o D.i1z e) fun o e => up _ o D.l1z e) (s2.keep qe2 (fun o e => up _ o D.i2z e) fun o e => up _ o D.l2z e) pi fun c o c1 c2 c3 c4 e => up c o c1 (ke c o c1 c2 c3 c4 e)
theorem next_end (s1 : Src i1 l1 xs S1) (s2 : Src i2 l2 ys S2) {a b : Value} {Q : Fin → Shared → Prop} (hh : A.handled = none) (D : ZipApart z TI TO i1 i2 l1 l2)
    (hz : IsZip s.heap z TI TO .none) (hTI : IsPair s.heap TI (.ref i1) (.ref i2)) (hTO : IsPair s.heap TO a b) (h1 : S1 s.heap k) (h2 : S2 s.heap k) (hend : xs[k]? = none ∨ ys[k]? = none)
    (hE : ∀ h' e, (∀ c o, c ≠ z → c ≠ TO → c ≠ i1 → c ≠ i2 → s.heap.get? c = some o → h'.get? c = some o) → (∃ o, h'.get? e = some o ∧ o.cls = .type "StopIteration") → E (.ref e) { s with heap := h' }) :
    wpAny (model prog w) A (Builtin.«zip.__next__» ⟨[.ref z], []⟩) Q E s := by
  show wpAny _ _ (field (.ref z) 2 >>= _) _ _ _
  refine wpAny_bind (wpAny_field hz rfl (x := .bool false) rfl ?_)
  show wpAny _ _ (field (.ref z) 3 >>= _) _ _ _
  refine wpAny_bind (wpAny_field hz rfl (x := .ref TI) rfl (wpAny_bind (wpAny_seqItems hTI rfl ?_)))
  show wpAny _ _ (Builtin.SmallTypes.ownedTupleIsFree (.ref z) >>= _) _ _ _
  refine wpAny_bind ?_
  unfold Builtin.SmallTypes.ownedTupleIsFree
  refine wpAny_bind (wpAny_field hz rfl (x := .none) rfl (wpAny_pure ?_))
  simp only [if_true]
  refine wpAny_bind (wpAny_rule (wpAny_bind (wpAny_field hz rfl (x := .ref TO) rfl (wpAny_bind (wpAny_setField_rec hz (by simp) fun ha za ea => ?_)))))
  replace za : IsZip ha z TI TO .ellipsis := za
  have pa : IsPair ha TO a b := ea.extBut _ _ D.TOz hTO
  have qa1 := s1.bump h1 ea.extBut D.i1z D.l1z
  have qa2 := s2.bump h2 ea.extBut D.i2z D.l2z
  -- what is raised leaves the pair's mark free again
  have free : ∀ (h' : Heap) (e : Addr), IsZip h' z TI TO .ellipsis → (∃ o, h'.get? e = some o ∧ o.cls = .type "StopIteration") → ∀ h'', Heap.SameBut z h' h'' → ∃ o, h''.get? e = some o ∧ o.cls = .type "StopIteration" := fun h' e zq ⟨o, ho, hc⟩ h'' eq =>
    ⟨o, eq.extBut _ _ (fun x => by subst x; rw [zq] at ho; cases ho; simp at hc) ho, hc⟩
  refine wpAny_bind ?_
  simp only [List.zipIdx_cons, List.zipIdx_nil, List.forIn_cons, List.forIn_nil]
  refine wpAny_bind (wpAny_bind (wpAny_onRaise ?_))
  show wpAny _ _ (Builtin.SmallTypes.nextOf (.ref i1) >>= _) _ _ _
  cases hx : xs[k]? with
  | none =>
    refine wpAny_bind (s1.stop hh qa1 hx fun hb e eb he => ?_)
    have zb : IsZip hb z TI TO .ellipsis := eb _ _ D.i1z.symm za
    exact wpAny_setField_rec zb (by simp) fun hc _ ec => hE hc e (fun c o c1 _ c3 _ x => ec.extBut _ _ c1 (eb _ _ c3 (ea.extBut _ _ c1 x))) (free hb e zb he hc ec)
  | some x =>
    have hy : ys[k]? = none := hend.elim (fun q => by rw [hx] at q; cases q) id
    refine wpAny_bind (s1.item qa1 hx fun hb qb1 eb => wpAny_pure ?_)
    have pb : IsPair hb TO a b := eb.extBut _ _ D.TOi1 pa
    have qb2 := s2.bump qa2 eb.extBut D.i12.symm D.l2i1
    refine wpAny_bind (wpAny_seqItems pb rfl (wpAny_bind (wpAny_updateSeq_pair pb fun hc pc ec => ?_)))
    have qc2 := s2.bump qb2 ec.extBut D.TOi2.symm D.l2TO
    refine wpAny_bind (wpAny_letGo (wpAny_pure ?_))
    refine wpAny_bind (wpAny_bind (wpAny_onRaise ?_))
    show wpAny _ _ (Builtin.SmallTypes.nextOf (.ref i2) >>= _) _ _ _
    refine wpAny_bind (s2.stop hh qc2 hy fun hd e ed he => ?_)
    have zd : IsZip hd z TI TO .ellipsis := ed _ _ D.i2z.symm (ec.extBut _ _ D.TOz.symm (eb.extBut _ _ D.i1z.symm za))
    exact wpAny_setField_rec zd (by simp) fun hf _ ef => hE hf e (fun c o c1 c2 c3 c4 x => ef.extBut _ _ c1 (ed _ _ c4 (ec.extBut _ _ c2 (eb.extBut _ _ c3 (ea.extBut _ _ c1 x))))) (free hd e zd he hf ef)
end
/-- a tuple at a beside a list at b -/
def ItzM (K : PySem.W.Frag) (a b : Addr) : It where
  go := fun i H => ∃ (xs ys : List V) (x y : V), SqT K H a xs ∧ SqL K H b ys ∧ xs[i]? = some x ∧ ys[i]? = some y
  yld := fun i H v H' => ∃ T x y, v = .ref T ∧ H T = none ∧ H' = upd H T (.tup [x, y]) ∧ (∀ xs, SqT K H a xs → xs[i]? = some x) ∧ ∀ ys, SqL K H b ys → ys[i]? = some y
  stop := fun i H => ∃ xs ys : List V, SqT K H a xs ∧ SqL K H b ys ∧ (xs.length ≤ i ∨ ys.length ≤ i)
theorem turnM {P : Program} {w : World} {K : PySem.W.Frag} {elts : List Expr} {kk : Nat} {tpos : Pos} {a b z TI TO i1 i2 : Addr} (D : ZipApart z TI TO i1 i2 a b) :
    Turn P w K (.Tuple elts kk tpos) (ItzM K a b) [z, TI, TO, i1, i2] z (fun i h => IsZip h z TI TO .none ∧ IsPair h TI (.ref i1) (.ref i2) ∧ (∃ x y, IsPair h TO x y) ∧ h.IsTupleIter i1 a i ∧ h.IsListIter i2 b i) where
  mem := by simp
  obj := fun i h ⟨hz, hTI, ⟨x, y, hTO⟩, ⟨o1, e1, _, d1⟩, ⟨o2, e2, _, d2⟩⟩ c hc => by
    simp only [List.mem_cons, List.not_mem_nil, or_false] at hc
    rcases hc with rfl | rfl | rfl | rfl | rfl
    · exact ⟨_, hz, fun v q => nomatch q⟩
    · exact ⟨_, hTI, fun v q => nomatch q⟩
    · exact ⟨_, hTO, fun v q => nomatch q⟩
    · exact ⟨o1, e1, fun v q => by rw [d1] at q; cases q⟩
    · exact ⟨o2, e2, fun v q => by rw [d2] at q; cases q⟩
  keep := fun i h h' ⟨hz, hTI, ⟨x, y, hTO⟩, h1, h2⟩ k => ⟨k z (by simp) _ hz, k TI (by simp) _ hTI, ⟨x, y, k TO (by simp) _ hTO⟩, h1.at (k i1 (by simp)), h2.at (k i2 (by simp))⟩
  item := by
    intro X hP hw hK hc i pins s σ H E I hf ⟨hz, hTI, ⟨x0, y0, hTO⟩, h1, h2⟩ ⟨xs, ys, x, y, hqx, hqy, hx, hy⟩
    subst hP hw hK
    obtain ⟨its, rv, p, _⟩ := I.tuple hqx
    obtain ⟨its2, rv2, p2, _⟩ := I.list hqy
    obtain ⟨u, hu, ru⟩ := rv.get hx
    obtain ⟨u2, hu2, ru2⟩ := rv2.get hy
    have hT : s.TypeIs (.ref z) "zip" := ⟨_, hz, rfl⟩
    have lz : z < s.heap.objs.size := Heap.lt_size hz
    unfold pyNext
    refine wpAny_bind (wpAny_attempt (wpAny_callSpecial?_slot (name := Str.ofString "__next__") hT F.slot_zip_next (wpAny_call_entry F.slot_zip_next hT F.entry_zip_next
      (next_item (k := i) (srcT (xs := its.toArray) D.l1i1) (srcL (xs := its2.toArray) D.l2i2) D hz hTI hTO ⟨h1, p⟩ ⟨h2, p2.isList⟩ (x := u) (y := u2) (by simpa using hu) (by simpa using hu2) fun h' z' TO' h1' h2' pT hk => wpAny_pure ?_) (F.args_zip_next_1 _))))
    refine ⟨_, rfl, wpAny_letOwnedTupleGo_zip (s := { s with heap := h' }) z' fun h'' z'' sb => ?_⟩
    have pT2 : h''.get? s.heap.objs.size = some { cls := .type "tuple", data := .seq #[u, u2] } := (sb.2 _ (Nat.ne_of_gt lz)).trans pT
    have new : ObjOk X.prog X.w (upd H s.heap.objs.size (.tup [x, y])) h'' s.heap.objs.size (.tup [x, y]) :=
      ⟨by show 2 ≤ sizeLine; decide, [u, u2], .cons ru (.cons ru2 .nil), ⟨_, pT2, rfl, _, rfl⟩⟩
    have I1 : Inv X pins σ (upd H s.heap.objs.size (.tup [x, y])) { s with heap := h'' } :=
      I.turnedNew (t' := s.toks) (ch := [z, TI, TO, i1, i2]) (fun c o hb q => (sb.2 c (fun q' => hb (by simp [q']))).trans (hk c o (fun q' => hb (by simp [q'])) (fun q' => hb (by simp [q'])) (fun q' => hb (by simp [q'])) (fun q' => hb (by simp [q'])) q)) hf (Nat.le_refl _) new
    refine ⟨.ref s.heap.objs.size, _, I1, rfl, ⟨_, x, y, rfl, I.hok.fresh (Nat.le_refl _), rfl, fun l hl => by rw [I.tuple_inj hl hqx]; exact hx, fun l hl => by rw [I.list_inj hl hqy]; exact hy⟩, ⟨z'', ?_, ⟨u, u2, (sb.2 _ D.TOz).trans TO'⟩, h1'.1.at fun o q => (sb.2 _ D.i1z).trans q, h2'.1.at fun o q => (sb.2 _ D.i2z).trans q⟩, fun c hcm => ?_⟩
    · exact (sb.2 _ D.TIz).trans (hk _ _ D.TIz D.TITO D.TIi1 D.TIi2 hTI)
    · have hlt : c < s.heap.objs.size := by
        obtain ⟨o1, e1, _⟩ := h1
        obtain ⟨o2, e2, _⟩ := h2
        have cm := hcm
        simp only [List.mem_cons, List.not_mem_nil, or_false] at cm
        rcases cm with rfl | rfl | rfl | rfl | rfl
        · exact lz
        · exact Heap.lt_size hTI
        · exact Heap.lt_size hTO
        · exact Heap.lt_size e1
        · exact Heap.lt_size e2
      rw [upd_ne (Nat.ne_of_lt hlt)]
      exact (hf c hcm).1
  done := by
    intro X hP hw hK hc i pins s σ H E I hf ⟨hz, hTI, ⟨x0, y0, hTO⟩, h1, h2⟩ ⟨xs, ys, hqx, hqy, hend⟩
    subst hP hw hK
    obtain ⟨its, rv, p, _⟩ := I.tuple hqx
    obtain ⟨its2, rv2, p2, _⟩ := I.list hqy
    have l1 := rv.length
    have l2 := rv2.length
    have he : its.toArray[i]? = none ∨ its2.toArray[i]? = none := hend.elim (fun q => .inl (by simp; omega)) fun q => .inr (by simp; omega)
    have hT : s.TypeIs (.ref z) "zip" := ⟨_, hz, rfl⟩
    unfold pyNext
    refine wpAny_bind (wpAny_attempt (wpAny_callSpecial?_slot (name := Str.ofString "__next__") hT F.slot_zip_next (wpAny_call_entry F.slot_zip_next hT F.entry_zip_next
      (next_end (k := i) (srcT (xs := its.toArray) D.l1i1) (srcL (xs := its2.toArray) D.l2i2) (I.ok.hd hc) D hz hTI hTO ⟨h1, p⟩ ⟨h2, p2.isList⟩ he fun h' e hk ⟨o, ho, hcl⟩ => ?_) (F.args_zip_next_1 _))))
    refine wpAny_bind (wpAny_isInstance (T := "StopIteration") (b := true) ⟨o, ho, hcl⟩ isSubtype_stop (wpAny_pure ?_))
    exact ⟨rfl, I.turnedL (t' := s.toks) (ch := [z, TI, TO, i1, i2]) (fun c o hb q => hk c o (fun q' => hb (by simp [q'])) (fun q' => hb (by simp [q'])) (fun q' => hb (by simp [q'])) (fun q' => hb (by simp [q'])) q) hf⟩
  self := fun A i s Q E st h => wpAny_pyIter_zip st.1 h
/-- the heap after each of the five new objects -/
abbrev g1 (h : Heap) (a : Addr) : Heap := h.push { cls := .type "tuple_iterator", data := .fields #[.ref a, .int 0 0] }
abbrev g2 (h : Heap) (a b : Addr) : Heap := (g1 h a).push { cls := .type "list_iterator", data := .fields #[.ref b, .int 0 0] }
abbrev g3 (h : Heap) (a b : Addr) : Heap := (g2 h a b).push { cls := .type "tuple", data := .seq #[.ref h.objs.size, .ref (g1 h a).objs.size] }
abbrev g4 (h : Heap) (a b : Addr) : Heap := (g3 h a b).push { cls := .type "tuple", data := .seq #[.none, .none] }
abbrev g5 (h : Heap) (a b : Addr) : Heap := (g4 h a b).push { cls := .type "zip", data := .fields #[.none, .bool false, .bool false, .ref (g2 h a b).objs.size, .ref (g3 h a b).objs.size] }
theorem meets_new (a b : Addr) (xs ys : Array Value) :
    Meets (Builtin.«zip.__new__» ⟨[.type "zip", .ref a, .ref b], []⟩) (fun _ R s => s.heap.IsTuple a xs ∧ s.heap.IsList b ys ∧ R (.ok (.ret (.ref (g4 s.heap a b).objs.size))) { s with heap := g5 s.heap a b }) :=
  .of_wp fun prog w A R s h => by
    obtain ⟨hp, g, d, tk, os⟩ := s
    obtain ⟨ha, hb, h⟩ := h
    have hsub := sub_zip
    have hL1 : Heap.IsTuple (Shared.heap ⟨hp, g, d, tk, os⟩) a xs := ha
    have hL2 : Heap.IsList (Shared.heap ⟨hp.push { cls := .type "tuple_iterator", data := .fields #[.ref a, .int 0 0] }, g, d, tk, os⟩) b ys := Heap.IsList.at hb fun o q => Heap.get?_push_of_some _ q
    wp_walk using wpAny_pyIter_tuple hL1, wpAny_pyIter_list hL2
    exact ⟨_, rfl, h⟩
theorem call_new {prog : Program} {w : World} {A : Around} {E : Value → Shared → Prop} {s : Shared} {a b : Addr} {xs ys : Array Value} {Q : Value → Shared → Prop} (ha : s.heap.IsTuple a xs) (hb : s.heap.IsList b ys)
    (h : ∀ h', IsZip h' (s.heap.objs.size + 4) (s.heap.objs.size + 2) (s.heap.objs.size + 3) .none → IsPair h' (s.heap.objs.size + 2) (.ref s.heap.objs.size) (.ref (s.heap.objs.size + 1)) → IsPair h' (s.heap.objs.size + 3) .none .none →
      h'.IsTupleIter s.heap.objs.size a 0 → h'.IsListIter (s.heap.objs.size + 1) b 0 → (∀ c o, s.heap.get? c = some o → h'.get? c = some o) → Q (.ref (s.heap.objs.size + 4)) { s with heap := h' }) :
    wpAny (model prog w) A (call (.type "zip") [.ref a, .ref b]) Q E s := by
  refine callType_new F.called_zip (by decide) (F.typeCall_zip_2 _ _) (F.newCall_zip_2 _ _) (fun obj => F.args_object_init_3 obj _ _) F.entry_zip_new (meets_new a b xs ys) ⟨ha, hb, ?_⟩
  have n1 : (g1 s.heap a).objs.size = s.heap.objs.size + 1 := Heap.size_push ..
  have n2 : (g2 s.heap a b).objs.size = s.heap.objs.size + 2 := by rw [Heap.size_push, n1]
  have n3 : (g3 s.heap a b).objs.size = s.heap.objs.size + 3 := by rw [Heap.size_push, n2]
  have n4 : (g4 s.heap a b).objs.size = s.heap.objs.size + 4 := by rw [Heap.size_push, n3]
  have up : ∀ {c : Addr} {o : Obj} {x : Heap} (p : Obj), x.get? c = some o → (x.push p).get? c = some o := fun p q => Heap.get?_push_of_some _ q
  have e5 : (g5 s.heap a b).get? (g4 s.heap a b).objs.size = some _ := Heap.get?_push_size _ rfl
  have e4 : (g5 s.heap a b).get? (g3 s.heap a b).objs.size = some _ := up _ (Heap.get?_push_size _ rfl)
  have e3 : (g5 s.heap a b).get? (g2 s.heap a b).objs.size = some _ := up _ (up _ (Heap.get?_push_size _ rfl))
  have e2 : (g5 s.heap a b).get? (g1 s.heap a).objs.size = some _ := up _ (up _ (up _ (Heap.get?_push_size _ rfl)))
  have e1 : (g5 s.heap a b).get? s.heap.objs.size = some _ := up _ (up _ (up _ (up _ (Heap.get?_push_size _ rfl))))
  show _ ∧ _
  rw [n2, n3, n4] at e5
  rw [n1, n2] at e3
  rw [n3] at e4
  rw [n1] at e2
  rw [n4]
  exact ⟨⟨_, e5, rfl⟩, h _ e5 e3 e4 ⟨_, e1, rfl, rfl⟩ ⟨_, e2, rfl, rfl⟩ fun c o x => up _ (up _ (up _ (up _ (up _ x))))⟩
def iZipM (K : PySem.W.Frag) (ta : TA) : TI := fun σ H R => ta σ H fun vs H1 => ∃ a b xs ys, vs = [.ref a, .ref b] ∧ SqT K H1 a xs ∧ SqL K H1 b ys ∧ R (ItzM K a b) H1
theorem pi_zipM {X : Cx} {e e2 : Expr} {ta : TA} {p pos tpos : Pos} {elts : List Expr} {kk : Nat} (hg : Gl X "zip") (hm : X.mg "zip" = none) (ha : PA X [e, e2] ta)
    (hs : starEach [e, e2] X.env = (false, eval e X.env) :: starEach [e2] X.env := by rfl) (hpl : (backTo pos (starEach [e2] X.env)).any (·.1) = false := by rfl) :
    PI X (.Tuple elts kk tpos) (.Call (.Name "zip" p) [e, e2] [] pos) (iZipM X.K ta) := by
  refine ⟨fun pins s σ H R I h => ?_⟩
  refine Call_ (ld_blt I hg hm PyProof.Rows.boot_zip (PyProof.Rows.callWith_type1 (thn (ha.run pos pins s σ H _ I h) fun us s1 ⟨vs, H1, I1, r1, a, b, xs, ys, ex, hqx, hqy, q⟩ => ?_) hs hpl))
  subst ex
  cases r1 with
  | cons r rr =>
    cases rr with
    | cons r' rr =>
      cases rr
      cases r
      cases r'
      obtain ⟨its, rv, p1, _⟩ := I1.tuple hqx
      obtain ⟨its2, rv2, p2, _⟩ := I1.list hqy
      obtain ⟨o1, ho1, _⟩ := id p1
      have fresh : ∀ c, c ∈ [s1.heap.objs.size + 4, s1.heap.objs.size + 2, s1.heap.objs.size + 3, s1.heap.objs.size, s1.heap.objs.size + 1] → FpOk X pins H1 c := fun c hcm => by
        have hle : s1.heap.objs.size ≤ c := by
          simp only [List.mem_cons, List.not_mem_nil, or_false] at hcm
          rcases hcm with rfl | rfl | rfl | rfl | rfl
          · exact Nat.le_add_right _ _
          · exact Nat.le_add_right _ _
          · exact Nat.le_add_right _ _
          · exact Nat.le_refl _
          · exact Nat.le_add_right _ _
        exact I1.fpOk hle (I1.hok.fresh hle)
      refine call_new (show s1.heap.IsTuple a its.toArray from p1) p2.isList fun h' hz hTI hTO h1 h2 hk => wpAny_pyIter_zip hz ?_
      exact ⟨s1.heap.objs.size + 4, [s1.heap.objs.size + 4, s1.heap.objs.size + 2, s1.heap.objs.size + 3, s1.heap.objs.size, s1.heap.objs.size + 1], _, _, H1, rfl, I1.kept (t' := s1.toks) hk, turnM (PySem.W.ktu_apart s1.heap.objs.size a b (Heap.lt_size ho1) p2.lt), ⟨hz, hTI, ⟨_, _, hTO⟩, h1, h2⟩, fresh, q⟩
end VZ
namespace VL
open PySem L2 VZ
section
variable {C : Ctx} {ta tb : TE} {da db : DE}
@[simp] def iZpM (da db : DE) : DI := fun δ Φ => da δ fun x => db δ fun y => ∃ xs ys, x = .tuple xs ∧ y = .list ys ∧ Φ (zipD xs ys)
theorem smi_zipM (ha : Sm C true ta da) (hb : Sm C true tb db) : SmI C (iZipM C.K (tCons ta (tCons tb tNil))) (iZpM da db) := fun σ δ H0 H Φ R s w q =>
  ha σ δ H0 H _ _ s w fun H01 H1 v x e1 r1 w1 => hb σ δ H01 H1 _ _ (s.go e1) w1 fun H02 H2 u y e2 r2 ⟨xs, ys, ex, ey, w2⟩ => by
    subst ex ey
    have r1' := r1.mono e2.fz
    cases r1' with
    | @tup a us _ h r =>
      cases r2 with
      | @lst b ws _ h' r' =>
        refine ⟨a, b, us, ws, rfl, same_t e2.wf.sub h, SqL.of (e2.wf.sub _ _ h'), q H02 H2 _ _ (e1.trans e2) ⟨?_, ?_, ?_⟩ w2⟩
        · intro H0' H' i e w hi
          refine ⟨us, ws, same_t w.sub (same_t e h), SqL.of (w.sub _ _ (e _ _ h')), ?_⟩
          rw [r.length, r'.length]
          unfold zipD at hi
          rw [List.length_zipWith] at hi
          omega
        · intro H0' H' i e w hi
          unfold zipD at hi
          rw [List.length_zipWith] at hi
          obtain ⟨y1, hy1⟩ := get_lt (show i < xs.length by omega)
          obtain ⟨v1, h1, _⟩ := r.get hy1
          obtain ⟨y2, hy2⟩ := get_lt (show i < ys.length by omega)
          obtain ⟨v2, h2, _⟩ := r'.get hy2
          exact ⟨us, ws, v1, v2, same_t w.sub (same_t e h), SqL.of (w.sub _ _ (e _ _ h')), h1, h2⟩
        · intro H0' H' i v H'' e w hi y
          obtain ⟨T, x1, x2, rfl, hT, rfl, y1, y2⟩ := y
          have y1 := y1 us (same_t w.sub (same_t e h))
          have y2 := y2 ws (SqL.of (w.sub _ _ (e _ _ h')))
          obtain ⟨d1, hd1, rd1⟩ := r.get' y1
          obtain ⟨d2, hd2, rd2⟩ := r'.get' y2
          obtain ⟨H0'', g, r2⟩ := tup_new w hT (.cons (rd1.mono e) (.cons (Rp.mono e rd2) .nil))
          refine ⟨H0'', _, g, ?_, r2⟩
          unfold zipD
          rw [List.getElem?_zipWith, hd1, hd2]
end
end VL

/-! Defs that are called where no repr is under way: repr of data. -/
namespace VG
open PySem PySem.Spec PyProof.Rows L2
section
variable {P : Program} {w : World} {K : PySem.W.Frag} {mg : Str → Option Value} {base : Heap} {fa : Addr} {fd : FuncData} {nms : List Str} {k : Nat} {sp : Sp}
/-- a def's promise, where the stack holds no guard -/
structure FnG (P : Program) (w : World) (K : PySem.W.Frag) (mg : Str → Option Value) (base : Heap) (k : Nat) (fa : Addr) (fd : FuncData) (nms : List Str) (sp : Sp) : Prop where
  size : ∀ xs H Q E, sp xs H Q E → xs.length = nms.length
  goes : ∀ (A : Around) (ou : List Env) (st : Shared) (H : Hp) (ar : Args) (us : List Value) (xs : List V) (Q : VK) (E : XK), A.guards = some [] → Room k A → Env0 P w K mg base A ou st H → BindsTo st fd ar (nms.zip us) → Vals xs us → sp xs H Q E →
    codeAny (model P w) A (.call (.ref fa) ar) (CR CX0 ou P w H st Q E) st
theorem FnG.of (F : FnOk P w K mg base CX0 k fa fd nms sp) : FnG P w K mg base k fa fd nms sp := ⟨F.len, fun A ou st H ar us xs Q E _ => F.run A ou st H ar us xs Q E⟩
end
section
variable {X : Cx} {k : Nat} {fa : Addr} {fd : FuncData} {nms : List Str} {sp : Sp} {more : List V} {mvs : List Value} {x : Str} {p1 p2 : Pos} {e1 : Expr} {es : List Expr} {ta : TA}
theorem goes_fn {E : XK} {pins : List (Addr × Obj)} {σ : L2.St} {H : Hp} {st : Shared} {Q : VK} {us : List Value} {xs : List V} (gd : X.A.guards = some []) (F : FnG X.prog X.w X.K X.mg X.base k fa fd nms sp) (rm : Room k X.A) (bi : Binds X.K fd nms mvs) (dv : Vals more mvs)
    (inv : Inv X pins σ H st) (rv : Vals xs us) (wish : sp (xs ++ more) H Q E) : wpAny (model X.prog X.w) X.A (call (.ref fa) us) (EP X pins σ Q) X.xe st := by
  have both : Vals (xs ++ more) (us ++ mvs) := rv.append dv
  have sz : (us ++ mvs).length = nms.length := both.length.symm.trans (F.size _ _ _ _ wish)
  refine wpAny_call (codeAny_mono (F.goes X.A X.stack st H ⟨us, []⟩ (us ++ mvs) (xs ++ more) Q E gd rm inv.env0 (bi st us inv.kIn sz) both wish) fun res st' got => ?_)
  match res, got with
  | .error _, got => exact got.elim
  | .ok (.ret _), got => exact inv.after got
  | .ok .next, got => exact got.elim
  | .ok .brk, got => exact got.elim
  | .ok .cont, got => exact got.elim
theorem pe_callG (gd : X.A.guards = some []) (F : FnG X.prog X.w X.K X.mg X.base k fa fd nms sp) (rm : Room k X.A) (hg : Gl X x) (hm : X.mg x = some (.ref fa)) (hk : PySem.W.keepIn X.K (.ref fa) = true) (bi : Binds X.K fd nms mvs) (dv : Vals more mvs)
    (pa : PA X (e1 :: es) ta) (dbg : (x == ("__debug__" : Str)) = false := by decide) (h1 : starEach (e1 :: es) X.env = (false, eval e1 X.env) :: starEach es X.env := by rfl) (h2 : (backTo p2 (starEach es X.env)).any (·.1) = false := by rfl) :
    PE X (.Call (.Name x p1) (e1 :: es) [] p2) (tCall sp more E0 ta) where
  run := fun pins st σ H Q inv wish => by
    refine wpAny_Call_Name_kw (ld_glob inv hg hm ?_ dbg)
    exact PySem.W.callWith_K (h₀ := X.base) inv.ok.mod.kin hk (thn (pa.run p2 pins st σ H _ inv wish) fun us st1 ⟨xs, H1, inv1, rv, q⟩ => ⟨inv1.kIn, goes_fn gd F rm bi dv inv1 rv q⟩) h1 h2
end
section
variable {P : Program} {w : World} {K : PySem.W.Frag} {mg : Str → Option Value} {base : Heap} {sp : Sp} {k : Nat} {fa : Addr} {fd : FuncData} {nms Ns : List Str} {x qu : Str} {sm : Stmt}
theorem okG (F : Fun K x qu sm fa fd) (S : FnScope Ns nms (defScope sm)) (size : ∀ xs H Q E, sp xs H Q E → xs.length = nms.length)
    (body : ∀ (cdv : Value) (A : Around) (ou : List Env) (st : Shared) (H : Hp) (xs : List V) (Q : VK) (E : XK), A.guards = some [] → Room k (A.deeper (envOfC qu (defScope sm) st.heap.objs.size fa cdv)) → sp xs H Q E →
      ∃ t, PSs (cxOf CX0 P w K mg base Ns qu (defScope sm) fa cdv A ou st H E).nox (defBody sm) t ∧ t { nx := fun _ H' => Q .non H', rt := Q } (L2.start Ns xs) H) : FnG P w K mg base (k + 1) fa fd nms sp := by
  obtain ⟨_, _, _, _, _, _, cdv, _, _, rfl, lk, cin⟩ := F.ex
  refine ⟨size, fun A ou st H ar us xs Q E gd rm e0 bi rv wish => ?_⟩
  have sz := size _ _ _ _ wish
  have kin : K.In st.heap := e0.mod.kin.keeps fun b o z => (e0.bs b o z).1
  have nol : st.heap.NoLimit := e0.mod.nolimit.keeps fun b o z => (e0.bs b o z).1
  have each : ∀ y ∈ nms.zip us, (defScope sm).names.lookup y.1 = some .local ∨ ((defScope sm).names.lookup y.1 = some .cell ∧ ((cellsFrom (st.heap.objs.size + 1) (defScope sm).names []).lookup y.1).isSome = true) := fun y hy =>
    (S.par y.1 (List.of_mem_zip hy).1).imp id fun z => ⟨z, PySem.W.cellsFrom_some _ _ _ (.inl z)⟩
  refine codeAny_call_function rm.depth (kin _ _ lk) rfl S.co S.gen rfl (PySem.W.codeRec_of kin cin) (bi _ _ _ _ ?_)
  refine wpAny_newFunctionEnv_cells S.kind each fun en hen st1 ent => ?_
  subst hen
  refine ⟨nol.keeps ent.toInCall.keep, codeAny_func ?_⟩
  obtain ⟨t, run, got⟩ := body cdv A ou st H xs Q E gd (rm.deeper _) wish
  have inv : Inv (cxOf CX0 P w K mg base Ns qu (defScope sm) fa cdv A ou st H E) [] (L2.start Ns xs) H st1 := inv_start S rm.hd e0 sz rv ent
  refine wpAny_mono (run.nox.run [] st1 (L2.start Ns xs) H _ inv got) (fun fl st' hs => ?_) fun _ _ hs => hs
  have last : ∀ {σ' : L2.St} {H' : Hp} {v : V} {u : Value}, Inv (cxOf CX0 P w K mg base Ns qu (defScope sm) fa cdv A ou st H E) [] σ' H' st' → RelV v u → Q v H' → CE ou P w H st Q u st' :=
    fun J r q => ⟨_, _, J.os, J.bare, J.base, J.hok, r, q⟩
  match fl, hs with
  | .ret _, ⟨_, _, _, J, r, q⟩ => exact last J r q
  | .next, ⟨_, _, J, q⟩ => exact last (v := .non) (u := Value.none) J rfl q
  | .brk, ⟨_, _, _, q⟩ => exact q.elim
  | .cont, ⟨_, _, _, q⟩ => exact q.elim
end
section
variable {P : Program} {w : World} {K : PySem.W.Frag} {mg mb : Str → Option Value} {k : Nat} {fa a : Addr} {fd : FuncData} {x : Str} {sp : Sp} {st : Shared} {us : List Value} {ns : List Int}
/-- the law's call, from its def's promise without guards -/
theorem callG (kin : K.In st.heap) (n1 : st.heap.Ns mainGlobals mg) (n2 : st.heap.Ns builtinsNs mb) (n3 : ∀ x : Str, x ≠ "__name__" → mb x = bootBuiltins x) (n4 : st.heap.NoLimit) (gn : st.gens = #[])
    (ga : st.heap.get? a = some { cls := .type "list", data := .seq us.toArray }) (hi : IntsAre us ns) (hl : ns.length ≤ sizeLine) (rm : Room k callerA)
    (F : ∀ base : Heap, K.In base → base.Ns mainGlobals mg → FnG P w K mg base k fa fd [x] sp) (bi : ∀ (s : Shared) (u : Value), BindsTo s fd ⟨[u], []⟩ [(x, u)])
    (wish : ∀ H : Hp, Only H → SqL K H a (ns.map V.int) → sp [.ref a] H (fun v _ => v = .bl true) fun _ _ _ => False) :
    codeAny (model P w) callerA (.call (.ref fa) ⟨[.ref a], []⟩) (fun r s' => r = .ok (.ret (.bool true)) ∧ OldK st.heap s'.heap ∧ s'.os = st.os ∧ AllBare s'.gens) st := by
  have vals := vals_ints hi
  have core : ∀ H : Hp, Only H → SqL K H a (ns.map V.int) → HOk P w H st.heap → (∀ b, H b ≠ none → b = a) → (H a ≠ none → K.lookup a = none) →
      codeAny (model P w) callerA (.call (.ref fa) ⟨[.ref a], []⟩) (fun r s' => r = .ok (.ret (.bool true)) ∧ OldK st.heap s'.heap ∧ s'.os = st.os ∧ AllBare s'.gens) st := by
    intro H ho hs hok one out
    have none_of : ∀ {b : Addr} {o : Obj}, st.heap.get? b = some o → (b = a → False) → H b = none := fun {b o} _ z => by
      cases q : H b with
      | none => rfl
      | some u => exact (z (one b (by rw [q]; exact nofun))).elim
    have dicts : ∀ {b : Addr} {o : Obj} {ds : Array DictEntry} {n : Nat}, st.heap.get? b = some o → o.data = .dict ds n → H b = none := fun {b o ds n} e d => none_of e fun z => by
      rw [z, ga] at e
      cases e
      cases (show Data.seq us.toArray _ = Data.dict ds n from d)
    have nsp : ∀ {b : Addr} {m : Str → Option Value}, st.heap.Ns b m → (hidT st.heap H).Ns b m := fun ⟨o, ds, n, e, d, r⟩ => ⟨o, ds, n, hidT_get e (dicts e d), d, r⟩
    have kin2 : K.In (hidT st.heap H) := fun b o e => hidT_get (kin b o e) (by
      cases q : H b with
      | none => rfl
      | some u =>
        have z := one b (by rw [q]; exact nofun)
        rw [z] at q e
        rw [out (by rw [q]; exact nofun)] at e
        cases e)
    have md : Mod K mg (hidT st.heap H) := ⟨kin2, nsp n1, ⟨mb, nsp n2, n3⟩, n4.imp fun _ z => ⟨nsp z.1, z.2⟩⟩
    have e0 : Env0 P w K mg (hidT st.heap H) callerA [] st H := ⟨rfl, md, fun _ _ z => of_hidT z, Nat.le_of_eq (hidT_size _ _), trivial, (fun b hb => nomatch (show b ∈ ([] : List Addr) from hb)), hok, .of_eq gn⟩
    refine codeAny_mono ((F _ kin2 (nsp n1)).goes callerA [] st H ⟨[.ref a], []⟩ [.ref a] [.ref a] _ _ rfl rm e0 (bi st (.ref a)) (.cons rfl .nil) (wish H ho hs)) fun r s' got => ?_
    match r, got with
    | .error _, got => exact got.elim
    | .ok .next, got => exact got.elim
    | .ok .brk, got => exact got.elim
    | .ok .cont, got => exact got.elim
    | .ok (.ret u), ⟨v, H', o1, o2, un, hok', rv, q⟩ =>
      have q : v = .bl true := q
      subst q
      obtain rfl : u = Value.bool true := rv
      refine ⟨rfl, OldK.of_keep fun b o e => ?_, o1, o2⟩
      cases hb : H b with
      | none => exact un.keep b o e hb (fun z => nomatch (show b ∈ ([] : List Addr) from z)) nofun
      | some y =>
        rcases ho b with z | ⟨ob, xs, z⟩
        · rw [hb] at z; cases z
        · have e1 := (hok b _ z).1
          rw [e] at e1
          cases e1
          exact (hok' b _ (un.frzs b _ _ z)).1
  cases hk : K.lookup a with
  | some o =>
    have e := kin a o hk
    rw [ga] at e
    cases e
    exact core (fun _ => none) (fun _ => .inl rfl) (.inr ⟨_, us.toArray, _, hk, rfl, rfl, rfl, by rw [List.size_toArray, hi.length]; exact hl, by simpa using vals⟩) (fun b u z => nomatch (show (none : Option HO) = some u from z)) (fun b z => absurd rfl z) fun z => absurd rfl z
  | none =>
    refine core (fun b => if b = a then some (.frz { cls := .type "list", data := .seq us.toArray } (.lst (ns.map V.int))) else none) (fun b => ?_) (.inl (.inr ⟨_, if_pos rfl⟩)) (fun b u z => ?_) (fun b z => ?_) fun _ => hk
    · by_cases hb : b = a
      · exact .inr ⟨_, _, if_pos hb⟩
      · exact .inl (if_neg hb)
    · by_cases hb : b = a
      · cases (if_pos hb).symm.trans z
        subst hb
        exact ⟨ga, by rw [List.length_map]; exact hl, us, _, vals, ga⟩
      · cases (if_neg hb).symm.trans z
    · by_cases hb : b = a
      · exact hb
      · exact absurd (if_neg hb) z
end
theorem walkG {l : PySem.W.OpenLaw} {n k : Nat} {q : Program} {loose : List Str} {XP : (Str → Option Value) → Heap → Prop} {YP : World → Heap → Prop} {d : DefRec} {K : Params → PySem.W.Frag} {sp : World → Sp} {x : Str}
    (hn : l.most = some n) (hn2 : n ≤ sizeLine) (nodef : d.params.defaults = []) (rm : Room k callerA) (hY : ∀ (w : World) (h : Heap), YP w h → (K w.params).In h)
    (F : ∀ (w : World) (mg : Str → Option Value) (fa : Addr) (h : Heap), (K w.params).In h → h.Ns mainGlobals mg → mg d.name = some (.ref fa) →
      ∃ fd : FuncData, (∀ (s : Shared) (u : Value), BindsTo s fd ⟨[u], []⟩ [(x, u)]) ∧ ∀ base : Heap, (K w.params).In base → base.Ns mainGlobals mg → FnG l.prog w (K w.params) mg base k fa fd [x] (sp w))
    (wish : ∀ (w : World) (H : Hp) (a : Addr) (ns : List Int), ns.length ≤ n → Only H → SqL (K w.params) H a (ns.map V.int) → sp w [.ref a] H (fun v _ => v = .bl true) fun _ _ _ => False) :
    PySem.W.WalkO q loose XP YP l.row.toRowW d [] (fun f vs => PySem.call f vs) := by
  refine Att.attach_call hn nodef fun w _ _ mg _ fa _ _ _ _ a _ ns G Y _ _ _ hm ob hi le gn => ?_
  obtain ⟨_, bi, run⟩ := F w mg fa _ (hY w _ Y) G.T.g hm
  exact callG (hY w _ Y) G.T.g G.T.b G.T.builtins G.T.nolimit gn ob hi (Nat.le_trans le hn2) rm run bi fun H h1 h2 => wish w H a ns le h1 h2
/-! ### repr of data -/
/-- data without dicts, not deep, its text not long -/
def Shw (m n : Nat) (d : PyData) : Prop := d.showable = true ∧ d.hasDict = false ∧ d.canLay0 = true ∧ d.depth ≤ n ∧ d.shown.length ≤ m
def rRepr (K : PySem.W.Frag) : List V → Hp → VK → Prop := fun xs H Q => ∃ x d, xs = [x] ∧ (∃ a, x = .ref a) ∧ Dp K H x d ∧ Shw 10000000 60 d ∧ Q (.str d.shown) H
theorem kx_repr {X : Cx} {K : PySem.W.Frag} (h : X.K = K) (gd : X.A.guards = some []) (hu : X.A.units + 64 < cLine) : CallR X (.builtin "repr") (rRepr K) := by
  subst h
  intro pins s σ H xs us Q inv rv ⟨x, d, e, ⟨a, ea⟩, hd, ⟨s1, s2, s3, s4, s5⟩, q⟩
  subst e ea
  cases rv with
  | cons r n =>
    cases n
    obtain ⟨as, rd⟩ := Dp.reads inv d _ _ hd r
    obtain rfl := r
    exact repr_of_reads' rd s1 (PyData.noDict_hsm s2) gd (by omega) (fun _ _ e => e) (fun h' u tk hk => ⟨.str _, H, inv.kept hk, ⟨_, rfl⟩, q⟩) (Nat.le_trans s5 (by decide))
end VG
namespace VL
open PySem L2
section
variable {C : Ctx} {f f1 : Bool} {ta : TE} {da : DE}
@[simp] def isRef : PyData → Bool
  | .list _ => true
  | .tuple _ => true
  | _ => false
@[simp] def gRepr : List PyData → (PyData → Prop) → Prop := fun xs Φ => ∃ d, xs = [d] ∧ isRef d = true ∧ VG.Shw 10000000 60 d ∧ Φ (.str d.shown)
theorem cbd_repr : CbD C (VG.rRepr C.K) gRepr := fun H vs xs Φ Q r ⟨d, e, e2, hs, p⟩ q => by
  subst e
  cases r with
  | cons h n =>
    cases n
    refine ⟨_, d, rfl, ?_, h.dp hs.2.2.1, hs, q _ _ (fun _ => .str _) p⟩
    cases h <;> first | exact ⟨_, rfl⟩ | simp at e2
end
theorem body_start {K : PySem.W.Frag} {ex : Option Addr} {H H0 : Hp} {rs : List R} {vs : List V} {Φ : RX → Prop} {Q : VK} {N : List Str} {ln : Nat} {t : TS} {d : DS} (hn : ln = N.length) (hd : ∀ (ex : Option Addr) (He Hf : Hp), SmS ⟨K, ex, He, Hf⟩ t d) (wf : Wf ⟨K, ex, H, H0⟩ H0 H) (ra : RRas K ex H H0 vs rs)
    (hp : d { nx := fun _ => Φ (.d .none), rt := Φ } (startD ln rs)) (q : ∀ H0' H' v r, Wf ⟨K, ex, H, H0⟩ H0' H' → RXR ⟨K, ex, H, H0⟩ H0' H' v r → Φ r → Q v H') : t { nx := fun _ H' => Q .non H', rt := Q } (L2.start N vs) H := by
  have hlen := ra.length
  refine hd ex H H0 _ (startD ln rs) H0 H _ _ ⟨wf, ?_, fun i r e => ?_, fun i j a b xs ys n e1 e2 a1 a2 => ?_⟩ hp ⟨fun H0' H' σ δ g s' w' => ?_, fun H0' H' v r g w' xr p' => q H0' H' v r w' xr p', fun _ _ _ _ _ _ h => h.elim, fun _ _ _ _ _ _ h => h.elim⟩
  · simp [L2.start, startD, hlen, hn]
  · unfold startD at e
    by_cases hi : i < rs.length
    · rw [List.getElem?_append_left (by simpa using hi), List.getElem?_map] at e
      cases e1 : rs[i]? with
      | none => rw [e1] at e; simp at e
      | some r' =>
        rw [e1] at e
        simp at e
        subst e
        obtain ⟨v, h1, h2⟩ := ra.get e1
        refine ⟨v, ?_, ?_⟩
        · unfold L2.start
          rw [List.getElem?_append_left (by rw [List.length_map, hlen]; exact hi), List.getElem?_map, h1]
          rfl
        · cases r' with
          | d x => exact h2
          | own a xs => exact h2.elim
          | drw => exact h2
          | raw u => exact h2
          | scr ns => exact h2
          | fn F => exact h2
          | dct a es => exact h2.elim
          | reg u m => exact h2.elim
    · rw [List.getElem?_append_right (by simpa using hi)] at e
      rw [List.getElem?_replicate] at e
      split at e <;> simp at e
  · exfalso
    have f : ∀ {i : Nat} {a : Addr} {r : R}, (startD ln rs)[i]? = some (some r) → a ∈ r.adr → False := fun {i a r} e ea => by
      unfold startD at e
      by_cases hi : i < rs.length
      · rw [List.getElem?_append_left (by simpa using hi), List.getElem?_map] at e
        cases e1 : rs[i]? with
        | none => rw [e1] at e; simp at e
        | some r' =>
          rw [e1] at e
          simp at e
          subst e
          obtain ⟨v, h1, h2⟩ := ra.get e1
          cases r' with
          | own a xs => exact h2
          | dct a xs => exact h2
          | reg u m => exact h2
          | d x => cases ea
          | drw => cases ea
          | raw u => cases ea
          | scr ns => cases ea
          | fn F => cases ea
      · rw [List.getElem?_append_right (by simpa using hi)] at e
        rw [List.getElem?_replicate] at e
        split at e <;> simp at e
    exact f e1 a1
  · exact q H0' H' .non (.d .none) s'.toWf .non w'

theorem fn_okG {P : Program} {w : World} {K : PySem.W.Frag} {mg : Str → Option Value} {base : Heap} {x qual : Str} {st : Stmt} {fa : Addr} {fd : FuncData} {N ps : List Str} {k : Nat} {p : VSp}
    (F : Fun K x qual st fa fd) (S : FnScope N ps (defScope st))
    (hbody : ∀ (cdv : Value) (A : Around) (outer : List Env) (s : Shared) (H : Hp) (E : XK), A.guards = some [] → Room k (A.deeper (PyProof.Rows.envOfC qual (defScope st) s.heap.objs.size fa cdv)) →
      ∃ t, PSs (cxOf CX0 P w K mg base N qual (defScope st) fa cdv A outer s H E).nox (defBody st) t ∧ ∃ d : DS, (∀ (ex : Option Addr) (He Hf : Hp), SmS ⟨K, ex, He, Hf⟩ t d) ∧ ∀ rs Φ, p rs Φ → d { nx := fun _ => Φ (.d .none), rt := Φ } (startD N.length rs)) : VG.FnG P w K mg base (k + 1) fa fd ps (toSp K ps.length p) := by
  refine VG.okG F S (fun vs H Q E h => h.1) (fun cdv A outer s H vs Q E gd hr h => ?_)
  obtain ⟨t, ht, d, hd, hp⟩ := hbody cdv A outer s H E gd hr
  obtain ⟨hl, ex, H0, rs, Φ, wf, ra, hsp, q⟩ := h
  exact ⟨t, ht, body_start rfl hd wf ra (hp rs Φ hsp) q⟩
/-- a comprehension over range(n) -/
theorem oLc_nn {da : DE} {i : Nat} {de : DE} {δ : Dl} {Φ : List PyData → Prop} {n : Nat} (hn : n ≤ 1000000) (h : ∀ Ψ : PyData → Prop, Ψ (.int n) → da δ Ψ) (P : List PyData → Prop) (h0 : P [])
    (hs : ∀ (k : Nat) (acc : List PyData) (Ψ : PyData → Prop), k < n → acc.length = k → P acc → (∀ z, P (acc ++ [z]) → Ψ z) → de (δ.set i (some (.d (.int k)))) Ψ) (hΦ : ∀ acc, acc.length = n → P acc → Φ acc) : oLc (iR1 da) i dYes de δ Φ := by
  unfold oLc
  refine h _ ⟨n, rfl, by omega, by omega, fun k acc => acc.length = k ∧ P acc, ⟨rfl, h0⟩, fun k y acc hy ha => ?_, fun acc ha => ?_⟩
  · obtain ⟨hk, rfl⟩ := rng_get hy
    have hk : k < n := hk
    unfold dYes
    dsimp only
    rw [if_pos rfl]
    rw [show (0 : Int) + (k : Int) = (k : Int) from Int.zero_add _]
    refine hs k acc _ hk ha.1 ha.2 fun z hz => ⟨?_, ?_, hz⟩
    · rw [ha.1]
      exact Nat.lt_of_lt_of_le (show k < 1000000 by omega) (by decide)
    · rw [List.length_append, ha.1]; rfl
  · rw [rng_len] at ha
    exact hΦ acc ha.1 ha.2
section
variable {C : Ctx} {f f2 : Bool} {tb : TE} {db : DE}
/-- an item of an owned list -/
@[simp] def dIxO (i : Nat) (db : DE) : DE := fun δ Φ => ∃ a xs, δ[i]? = some (some (.own a xs)) ∧ db δ fun y => ∃ k z, y = .int k ∧ atI xs k = some z ∧ Φ z
theorem sm_ixO (i : Nat) (hb : Sm C f2 tb db) : Sm C f (tOp (rIx C.K) (tVar i) tb) (dIxO i db) := fun σ δ H0 H Φ Q s ⟨a, xs, e, w⟩ q => by
  obtain ⟨v, e1, rfl, h1, h2, h3, vs, h4, h5⟩ := s.sl i _ e
  refine ⟨_, e1, hb σ δ H0 H _ _ s w fun H02 H2 u y g2 r2 ⟨k, z, e2, e3, p⟩ => ?_⟩
  subst e2
  cases r2
  have s2 := s.go g2
  obtain ⟨v', f1, f2, f3, f4, f5, us, f6, f7⟩ := s2.sl i _ e
  obtain ⟨y', e4, ry⟩ := atI_rp f7 e3
  exact .inl ⟨a, us, k, y', rfl, rfl, SqL.of f6, e4, q H02 H2 y' z g2 (Rp.mono g2.wf.to ry) p⟩
end
/-- a statement with two ways: what the test tells, then each way -/
theorem dIfS_two {dt : DT} {d1 d2 : DS} {E : DEnds} {δ : Dl} (Ok : Bool → Prop) (h : ∀ Ψ : Bool → Prop, (∀ b, Ok b → Ψ b) → dt δ Ψ) (h1 : Ok true → d1 E δ) (h2 : Ok false → d2 E δ) : dIfS dt d1 d2 E δ := by
  unfold dIfS
  refine h _ fun b hb => ?_
  cases b with
  | true => rw [if_pos rfl]; exact h1 hb
  | false => rw [if_neg Bool.false_ne_true]; exact h2 hb
/-- range(n), n at most L -/
theorem dFor_r {da : DE} {i : Nat} {db : DS} {E : DEnds} {δ : Dl} (L : Nat) (hL : L < 4611686018427387904) (h : ∀ Ψ : PyData → Prop, (∀ n : Nat, n ≤ L → Ψ (.int n)) → da δ Ψ) (I : Nat → Dl → Prop) (h0 : I 0 δ)
    (hs : ∀ (k : Nat) (δ' : Dl), k < L → I k δ' → db { E with nx := I (k + 1), ct := I (k + 1), bk := E.nx } (δ'.set i (some (.d (.int k))))) (he : ∀ (n : Nat) (δ' : Dl), n ≤ L → I n δ' → E.nx δ') : dFor (iR1 da) (dgName i) db E δ := by
  unfold dFor
  refine h _ fun n hn => ⟨n, rfl, by omega, by omega, I, h0, fun k y δ' hy hI => ?_, fun δ' hI => ?_⟩
  · obtain ⟨hk, rfl⟩ := rng_get hy
    have hk : k < n := hk
    have := hs k δ' (by omega) hI
    rw [show (k : Int) = 0 + (k : Int) from (Int.zero_add _).symm] at this
    exact this
  · rw [rng_len] at hI
    exact he n δ' hn hI
end VL

/-! reversed of a tuple, sums, comprehensions with a test. -/
namespace VL
open PySem L2
section
variable {C : Ctx} {ta : TE} {da : DE}
@[simp] def iRvA (da : DE) : DI := fun δ Φ => da δ fun x => ∃ xs, seqOf x = some xs ∧ Φ xs.reverse
theorem smi_revA (ha : Sm C true ta da) : SmI C (RT.iRevA C.K ta) (iRvA da) := fun σ δ H0 H Φ R s w q =>
  ha σ δ H0 H _ _ s w fun H01 H1 v x g1 r1 ⟨xs, e, p⟩ => by
    cases r1 with
    | @lst a us _ h r =>
      simp [seqOf] at e
      subst e
      refine ⟨a, us, rfl, .inl ⟨SqL.of (g1.wf.sub _ _ h), q _ _ _ _ g1 ⟨fun H0' H' i e w hi => ?_, fun H0' H' i e w hi => ?_, fun H0' H' i v H'' e w hi y => ?_⟩ p⟩⟩
      · rw [List.length_reverse] at hi
        show us.length ≤ i
        rw [r.length]; omega
      · rw [List.length_reverse] at hi
        obtain ⟨y, hy⟩ := get_lt (show us.length - 1 - i < us.length by rw [r.length]; omega)
        exact ⟨by rw [r.length]; exact hi, us, y, SqL.of (w.sub _ _ (e _ _ h)), hy⟩
      · rw [List.length_reverse] at hi
        obtain ⟨rfl, y⟩ := y
        obtain ⟨z, hz, rz⟩ := r.get' (y us (SqL.of (w.sub _ _ (e _ _ h))))
        refine ⟨H0', z, .refl w, ?_, rz.mono e⟩
        rw [List.getElem?_reverse hi, ← r.length]
        exact hz
    | @tup a us _ h r =>
      simp [seqOf] at e
      subst e
      refine ⟨a, us, rfl, .inr ⟨same_t g1.wf.sub h, q _ _ _ _ g1 ⟨fun H0' H' i e w hi => ?_, fun H0' H' i e w hi => ?_, fun H0' H' i v H'' e w hi y => ?_⟩ p⟩⟩
      · rw [List.length_reverse] at hi
        show us.length ≤ i
        rw [r.length]; omega
      · rw [List.length_reverse] at hi
        obtain ⟨y, hy⟩ := get_lt (show us.length - 1 - i < us.length by rw [r.length]; omega)
        exact ⟨by rw [r.length]; exact hi, us, y, same_t w.sub (same_t e h), hy⟩
      · rw [List.length_reverse] at hi
        obtain ⟨rfl, y⟩ := y
        obtain ⟨z, hz, rz⟩ := r.get' (y us (same_t w.sub (same_t e h)))
        refine ⟨H0', z, .refl w, ?_, rz.mono e⟩
        rw [List.getElem?_reverse hi, ← r.length]
        exact hz
    | _ => simp [seqOf] at e
@[simp] def gSum : List PyData → (PyData → Prop) → Prop := fun xs Φ => ∃ ns : List Int, xs = [.list (ns.map .int)] ∧ Φ (.int ns.sum)
theorem cbd_sum : CbD C (rSum C.K) gSum := fun H vs xs Φ Q r ⟨ns, e, p⟩ q => by
  subst e
  cases r with
  | cons h n =>
    cases n
    cases h with
    | lst h r =>
      have e := rpa_ints r
      subst e
      exact ⟨_, ns, rfl, SqL.of h, q _ _ (fun _ => .int _) p⟩
end
theorem kx_revA {X : Cx} {K : PySem.W.Frag} (h : X.K = K) {tg e : Expr} {te : TE} {p pos : Pos} (hg : Gl X "reversed") (hm : X.mg "reversed" = none) (he : PE X e te) (hs : starEach [e] X.env = (false, eval e X.env) :: starEach [] X.env := by rfl) : PI X tg (.Call (.Name "reversed" p) [e] [] pos) (RT.iRevA K te) := by
  subst h
  exact RT.pi_revA hg hm he hs
theorem kx_sum {X : Cx} {K : PySem.W.Frag} (h : X.K = K) (hc : X.calm = true) : CallR X (.builtin "sum") (rSum K) := by
  subst h
  exact cr_sum hc
/-- a comprehension with a test over a walked list: the items that pass, each by a function -/
theorem oLc_filter {α : Type} {di : DI} {i : Nat} {dt : DT} {de : DE} {δ : Dl} {Φ : List PyData → Prop} (xs : List α) (D G : α → PyData) (T : α → Bool) (hn : xs.length < 1000000) (h : ∀ Ψ : List PyData → Prop, Ψ (xs.map D) → di δ Ψ)
    (ht : ∀ (k : Nat) (a : α) (Ψ : Bool → Prop), xs[k]? = some a → Ψ (T a) → dt (δ.set i (some (.d (D a)))) Ψ)
    (hs : ∀ (k : Nat) (a : α) (Ψ : PyData → Prop), xs[k]? = some a → T a = true → Ψ (G a) → de (δ.set i (some (.d (D a)))) Ψ) (hΦ : Φ ((xs.filter T).map G)) : oLc di i dt de δ Φ := by
  unfold oLc
  refine h _ ⟨fun k acc => acc = ((xs.take k).filter T).map G, by simp, fun k y acc hy ha => ?_, fun acc ha => ?_⟩
  · subst ha
    rw [List.getElem?_map] at hy
    obtain ⟨a, ha, rfl⟩ := Option.map_eq_some_iff.mp hy
    have hk := (List.getElem?_eq_some_iff.mp ha).1
    refine ht k a _ ha ?_
    cases e : T a with
    | false =>
      rw [if_neg Bool.false_ne_true]
      show ((xs.take k).filter T).map G = ((xs.take (k + 1)).filter T).map G
      rw [List.take_add_one, ha, List.filter_append]
      simp [e]
    | true =>
      rw [if_pos rfl]
      refine hs k a _ ha e ⟨?_, ?_⟩
      · rw [List.length_map]
        have h1 := List.length_filter_le T (xs.take k)
        rw [List.length_take] at h1
        exact Nat.lt_of_lt_of_le (show _ < 1000000 by omega) (by decide)
      · show ((xs.take k).filter T).map G ++ [G a] = ((xs.take (k + 1)).filter T).map G
        rw [List.take_add_one, ha, List.filter_append]
        simp [e]
  · subst ha
    rw [List.length_map, List.take_length]
    exact hΦ
section
variable {C : Ctx}
@[simp] def gIsB (neg : Bool) : PyData → PyData → (PyData → Prop) → Prop := fun x y Φ => ∃ a b, x = .bool a ∧ y = .bool b ∧ Φ (.bool (if neg then !decide (a = b) else decide (a = b)))
theorem opd_notB : OpD C rNotB (gIsB true) := fun H v u x y Φ Q rv ru ⟨a, b, e1, e2, p⟩ q => by
  subst e1 e2
  cases rv
  cases ru
  exact ⟨a, b, rfl, rfl, q _ _ (fun _ => .bl _) p⟩
theorem opd_isB : OpD C rIsB (gIsB false) := fun H v u x y Φ Q rv ru ⟨a, b, e1, e2, p⟩ q => by
  subst e1 e2
  cases rv
  cases ru
  exact ⟨a, b, rfl, rfl, q _ _ (fun _ => .bl _) p⟩
end
/-- range(n), n from 1 to L -/
theorem dFor_r1 {da : DE} {i : Nat} {db : DS} {E : DEnds} {δ : Dl} (L : Nat) (hL : L < 4611686018427387904) (h : ∀ Ψ : PyData → Prop, (∀ n : Nat, 1 ≤ n → n ≤ L → Ψ (.int n)) → da δ Ψ) (I : Nat → Dl → Prop) (h0 : I 0 δ)
    (hs : ∀ (k : Nat) (δ' : Dl), k < L → I k δ' → db { E with nx := I (k + 1), ct := I (k + 1), bk := E.nx } (δ'.set i (some (.d (.int k))))) (he : ∀ (n : Nat) (δ' : Dl), 1 ≤ n → n ≤ L → I n δ' → E.nx δ') : dFor (iR1 da) (dgName i) db E δ := by
  unfold dFor
  refine h _ fun n hn1 hn => ⟨n, rfl, by omega, by omega, I, h0, fun k y δ' hy hI => ?_, fun δ' hI => ?_⟩
  · obtain ⟨hk, rfl⟩ := rng_get hy
    have hk : k < n := hk
    have := hs k δ' (by omega) hI
    rw [show (k : Int) = 0 + (k : Int) from (Int.zero_add _).symm] at this
    exact this
  · rw [rng_len] at hI
    exact he n δ' hn1 hn hI
section
variable {C : Ctx} {ta tb : TE} {da db : DE} {f2 : Bool}
theorem RpA.flat {K : PySem.W.Frag} {H : Hp} {vs : List V} {xs : List PyData} (r : RpA K H vs xs) : ∀ n : Nat, RpA K H (List.replicate n vs).flatten (List.replicate n xs).flatten
  | 0 => .nil
  | n + 1 => by
    rw [List.replicate_succ, List.replicate_succ, List.flatten_cons, List.flatten_cons]
    exact r.append (RpA.flat r n)
/-- xs * n, a new list -/
@[simp] def oRep (da db : DE) : DO := fun δ Φ => da δ fun x => db δ fun y => ∃ xs k, x = .list xs ∧ y = .int k ∧ -(2 ^ 63) ≤ k ∧ k < 2 ^ 63 ∧ xs.length * k.toNat ≤ sizeLine ∧ Φ (List.replicate k.toNat xs).flatten
theorem smo_rep (ha : Sm C true ta da) (hb : Sm C f2 tb db) : SmO C (tOp rRep ta tb) (oRep da db) := fun σ δ H0 H Φ Q s w q =>
  ha σ δ H0 H _ _ s w fun H01 H1 v x g1 r1 w1 => hb σ δ H01 H1 _ _ (s.go g1) w1 fun H02 H2 u y g2 r2 ⟨xs, k, e1, e2, h1, h2, h3, p⟩ => by
    subst e1 e2
    cases r2
    have r3 := r1.mono g2.fz
    cases r3 with
    | @lst a us _ h r =>
      refine ⟨a, k, us, rfl, rfl, g2.wf.sub _ _ h, h1, h2, by rw [r.length]; exact h3, fun l hl => ?_⟩
      have g3 := Go.free (o := .lst (List.replicate k.toNat us).flatten) g2.wf hl
      exact q _ _ l _ _ ((g1.trans g2).trans g3) ((g1.trans g2).fresh hl) (g2.wf.none hl) upd_same (r.flat _) p
end
section
variable {C : Ctx} {ta : TE} {da : DE} {f1 : Bool}
/-- list(range(n)), a new list -/
@[simp] def oListRg (da : DE) : DO := fun δ Φ => da δ fun x => ∃ n : Nat, x = .int n ∧ n ≤ 16777216 ∧ Φ (rng 0 n)
theorem rpa_rng {K : PySem.W.Frag} {H : Hp} (n : Nat) : RpA K H (rgV 0 (n : Int)) (rng 0 n) := by
  unfold rgV rng
  rw [show ((n : Int) - 0).toNat = n by omega]
  generalize List.range n = l
  induction l with
  | nil => exact .nil
  | cons a l ih => exact .cons (.int _) ih
theorem smo_listRg (ha : Sm C f1 ta da) : SmO C (tLstRg (tRg1 ta)) (oListRg da) := fun σ δ H0 H Φ Q s w q =>
  ha σ δ H0 H _ _ s w fun H01 H1 v x g1 r1 ⟨n, e, hn, p⟩ => by
    subst e
    cases r1
    refine ⟨(n : Int), rfl, RgOk.of_le (by omega) (by omega) (by omega) (by omega), fun l hl => ?_⟩
    have g2 := Go.free (o := .lst (rgV 0 (n : Int))) g1.wf hl
    exact q _ _ l _ _ (g1.trans g2) (g1.fresh hl) (g1.wf.none hl) upd_same (rpa_rng n) p
end
/-- while: a statement that falls by a number; what the test tells, then the turn, then the end -/
theorem dWhile_by {dt : DT} {db : DS} {E : DEnds} {δ : Dl} (I : Nat → Dl → Prop) (h0 : ∃ m, I m δ)
    (hs : ∀ m δ', I m δ' → ∃ Ok : Bool → Prop, (∀ Ψ : Bool → Prop, (∀ b, Ok b → Ψ b) → dt δ' Ψ) ∧ (Ok true → db { E with nx := fun δ'' => ∃ m', m' < m ∧ I m' δ'', ct := fun δ'' => ∃ m', m' < m ∧ I m' δ'', bk := E.nx } δ') ∧ (Ok false → E.nx δ')) : dWhile dt db E δ := by
  refine ⟨I, h0, fun m δ' hI => ?_⟩
  obtain ⟨Ok, h1, h2, h3⟩ := hs m δ' hI
  refine h1 _ fun b hb => ?_
  cases b with
  | true => rw [if_pos rfl]; exact h2 hb
  | false => rw [if_neg Bool.false_ne_true]; exact h3 hb
/-- what is walked is known by a property -/
theorem dFor_q {di : DI} {dg : DG} {db : DS} {E : DEnds} {δ : Dl} (Q : List PyData → Prop) (h : ∀ Ψ : List PyData → Prop, (∀ xs, Q xs → Ψ xs) → di δ Ψ) (I : Nat → Dl → Prop) (h0 : I 0 δ)
    (hs : ∀ (xs : List PyData) (k : Nat) (y : PyData) (δ' : Dl), Q xs → xs[k]? = some y → I k δ' → dg y δ' fun δ'' => db { E with nx := I (k + 1), ct := I (k + 1), bk := E.nx } δ'') (he : ∀ (xs : List PyData) (δ' : Dl), Q xs → I xs.length δ' → E.nx δ') : dFor di dg db E δ := by
  unfold dFor
  exact h _ fun xs hq => ⟨I, h0, fun k y δ' hy hI => hs xs k y δ' hq hy hI, fun δ' hI => he xs δ' hq hI⟩
section
variable {C : Ctx} {te ta tb td : TE} {de da db dd : DE} {g1 g2 : TG} {dg1 dg2 : DG} {f f1 f2 : Bool}
/-- a = b = e -/
@[simp] def dAsg2 (de : DE) (dg1 dg2 : DG) : DS := fun E δ => de δ fun x => dg1 x δ fun δ1 => dg2 x δ1 E.nx
theorem sms_asg2 (h : Sm C true te de) (k1 : SmG C g1 dg1) (k2 : SmG C g2 dg2) : SmS C (tAsg2 te g1 g2) (dAsg2 de dg1 dg2) := fun σ δ H0 H E D s w e =>
  h σ δ H0 H _ _ s w fun H0' H' v x g r p => k1 v x σ δ H0' H' _ _ (s.go g) r p fun σ1 δ1 s1 w1 => k2 v x σ1 δ1 H0' H' _ _ s1 r w1 fun σ2 δ2 s2 w2 => e.nx H0' H' σ2 δ2 g.fz s2 w2
/-- {k1: a, k2: b}[d], keys and values texts -/
@[simp] def dMenu2 (k1 k2 : Str) (da db dd : DE) : DE := fun δ Φ => da δ fun x => db δ fun y => ∃ i j, x = .str i ∧ y = .str j ∧ ¬ k2 = k1 ∧ dd δ fun t => ∃ s, t = .str s ∧ ((s = k1 ∧ Φ (.str i)) ∨ (s = k2 ∧ Φ (.str j)))
theorem sm_menu2 {k1 k2 : Str} (ha : Sm C f1 ta da) (hb : Sm C f2 tb db) (hd : Sm C false td dd) : Sm C f (tDGet (tDisp [(tC (.str k1), ta), (tC (.str k2), tb)]) td) (dMenu2 k1 k2 da db dd) := fun σ δ H0 H Φ Q s w q => by
  intro p hp
  have gp : Go C H0 H H0 (upd H p (.dK [])) := Go.free s.toWf hp
  have nex := (Go.he s.toWf hp).2
  refine ha σ δ H0 _ _ _ (s.go gp) w fun H01 H1 v x g1 r1 w1 => hb σ δ H01 H1 _ _ ((s.go gp).go g1) w1 fun H02 H2 u y g2 r2 w2 => ?_
  have g12 := g1.trans g2
  have hk : H2 p = some (.dK []) := g12.kp p _ nex upd_same
  have g0 := gp.trans g12
  have hn : H02 p = none := by
    cases e : H02 p with
    | none => rfl
    | some o =>
      rcases g12.nw p o e with h | h
      · rw [s.toWf.none hp] at h; cases h
      · rw [upd_same] at h; cases h
  obtain ⟨i, j, rfl, rfl, n1, w4⟩ := w2
  cases r1
  cases r2
  have m1 : mergeK [] [((.inr k1 : Key), V.str i), (.inr k2, .str j)] = [((.inr k1 : Key), V.str i), (.inr k2, .str j)] := by
    simp [mergeK, putK, Ne.symm n1, n1]
  refine ⟨hk, [((.inr k1 : Key), V.str i), (.inr k2, .str j)], rfl, by simp, ?_⟩
  rw [m1]
  have g4 := Go.wr (o := .dK [((.inr k1 : Key), V.str i), (.inr k2, .str j)]) s.toWf hp g0 hn
  refine hd σ δ H02 _ _ _ (s.go g4) w4 fun H05 H5 v5 x5 g5 r5 ⟨st, e5, p5⟩ => ?_
  subst e5
  cases r5
  have h5 : H5 p = some (.dK [((.inr k1 : Key), V.str i), (.inr k2, .str j)]) := g5.kp p _ nex upd_same
  rcases p5 with ⟨rfl, p5⟩ | ⟨rfl, p5⟩
  · refine ⟨p, .str i, rfl, .inl ⟨_, .inr st, .inl h5, rfl, ?_⟩, q _ _ _ _ (g4.trans g5) (.str i) p5⟩
    simp [valV]
  · refine ⟨p, .str j, rfl, .inl ⟨_, .inr st, .inl h5, rfl, ?_⟩, q _ _ _ _ (g4.trans g5) (.str j) p5⟩
    simp [valV, Ne.symm n1]
end
end VL

/-! a written dict of defs: looked up into a slot, asked for a key, its def called. -/
namespace VL
open PySem L2
/-- a written dict whose values are defs -/
structure KdF (K : PySem.W.Frag) (w : World) (d : Addr) (L : List (Str × Addr)) : Prop where
  ex : ∃ es n, L2.KDict K w d es n
  all : ∀ k f, (k, f) ∈ L → PySem.W.nsIn K d k = some (some (.ref f))
theorem KdF.mk' {K : PySem.W.Frag} {w : World} {d : Addr} {L : List (Str × Addr)} {es : Array DictEntry} {n : Nat} (h : K.lookup d = some ⟨.type "dict", none, .dict es n, #[]⟩) (hk : PySem.W.KeysLit w.params es.toList) (lo : (d == sysModules) = false)
    (all : ∀ k f, (k, f) ∈ L → PySem.W.nsIn K d k = some (some (.ref f))) : KdF K w d L := ⟨⟨es, n, h, hk, lo⟩, all⟩
theorem kdf_nil {K : PySem.W.Frag} {d : Addr} : ∀ k f, (k, f) ∈ ([] : List (Str × Addr)) → PySem.W.nsIn K d k = some (some (.ref f)) := fun _ _ h => nomatch h
theorem kdf_cons {K : PySem.W.Frag} {d : Addr} {L : List (Str × Addr)} {k : Str} {f : Addr} (h : PySem.W.nsIn K d k = some (some (.ref f))) (t : ∀ k f, (k, f) ∈ L → PySem.W.nsIn K d k = some (some (.ref f))) : ∀ k' f', (k', f') ∈ (k, f) :: L → PySem.W.nsIn K d k' = some (some (.ref f')) := fun k' f' h' => by
  rcases List.mem_cons.mp h' with e | e
  · cases e; exact h
  · exact t k' f' e
theorem KdF.kdct {K : PySem.W.Frag} {w : World} {d : Addr} {L : List (Str × Addr)} (D : KdF K w d L) {k : Str} {f : Addr} (h : (k, f) ∈ L) : KDct K w d k (.ref f) := by
  obtain ⟨es, n, D1⟩ := D.ex
  exact ⟨es, n, _, D1.at_, D1.lit, D.all k f h, rfl⟩
/-- key not in the dict, for a key that it has -/
def rNotF (d : Addr) (L : List (Str × Addr)) : R2 := fun x y H Q => ∃ (z : Str) (f : Addr), x = .str z ∧ y = .ref d ∧ (z, f) ∈ L ∧ Q (.bl false) H
theorem kx_notF {X : Cx} {K : PySem.W.Frag} {w : World} {d : Addr} {L : List (Str × Addr)} (h : X.K = K) (h2 : X.w = w) (D : KdF K w d L) : OpR X (compareOp .NotIn) (rNotF d L) := by
  subst h h2
  obtain ⟨es, n, D1⟩ := D.ex
  intro pins s σ H x y v u Q I rx ry ⟨z, f, e1, e2, m, q⟩
  exact (op_notIn_kd D1) pins s σ H x y v u Q I rx ry ⟨z, _, e1, e2, D.all z f m, q⟩
section
variable {C : Ctx} {ta tb : TE} {da db d1 d2 : DE} {f1 f2 f : Bool} {tas : TA} {dqs : DR}
@[simp] def dNotF (L : List (Str × Addr)) (da : DE) : DE := fun δ Φ => da δ fun x => ∃ (z : Str) (f : Addr), x = .str z ∧ (z, f) ∈ L ∧ Φ (.bool false)
theorem sm_notF {d : Addr} {L : List (Str × Addr)} {v : V} (hv : v = .ref d) (ha : Sm C f1 ta da) : Sm C f (tOp (rNotF d L) ta (tC v)) (dNotF L da) := fun σ δ H0 H Φ Q s w q =>
  ha σ δ H0 H _ _ s w fun H01 H1 u y g1 r1 ⟨z, fa, e, m, p⟩ => by
    subst e hv
    cases r1
    exact ⟨z, fa, rfl, rfl, m, q _ _ _ _ g1 (.bl false) p⟩
/-- a slot gets a def -/
theorem St.set_raw {H0 H : Hp} {σ : L2.St} {δ : Dl} (s : St C H0 H σ δ) (i : Nat) (v : V) : St C H0 H (σ.set i (some v)) (δ.set i (some (.raw v))) where
  toWf := s.toWf
  len := by rw [List.length_set, List.length_set, s.len]
  sl := fun j r e => by
    by_cases q : i = j
    · subst q
      rw [List.getElem?_set_self'] at e
      cases hd : δ[i]? with
      | none => rw [hd] at e; simp at e
      | some z =>
        rw [hd] at e
        simp at e
        subst e
        have : i < σ.length := by rw [s.len]; exact (List.getElem?_eq_some_iff.mp hd).1
        exact ⟨v, by rw [List.getElem?_set_self this], rfl⟩
    · rw [List.getElem?_set_ne q] at e
      obtain ⟨u, e1, h1⟩ := s.sl j r e
      exact ⟨u, by rw [List.getElem?_set_ne q]; exact e1, h1⟩
  sep := fun j k a b p q n e1 e2 a1 a2 => by
    rcases set_at e1 with ⟨_, rfl⟩ | ⟨_, e1⟩
    · cases a1
    rcases set_at e2 with ⟨_, rfl⟩ | ⟨_, e2⟩
    · cases a2
    exact s.sep j k a b p q n e1 e2 a1 a2
/-- slot = dict[key] -/
@[simp] def dRowF (i : Nat) (L : List (Str × Addr)) (db : DE) : DS := fun E δ => db δ fun y => ∃ (z : Str) (f : Addr), y = .str z ∧ (z, f) ∈ L ∧ E.nx (δ.set i (some (.raw (.ref f))))
theorem sms_rowF {w : World} {d : Addr} {L : List (Str × Addr)} {v : V} (i : Nat) (hv : v = .ref d) (D : KdF C.K w d L) (hb : Sm C f1 tb db) : SmS C (tAsg (tOp (rIxD C.K w) (tC v) tb) (gName i)) (dRowF i L db) := fun σ δ H0 H E X s w' e =>
  hb σ δ H0 H _ _ s w' fun H01 H1 u y g1 r1 ⟨z, fa, e1, m, p⟩ => by
    subst e1 hv
    cases r1
    exact ⟨d, z, _, rfl, rfl, D.kdct m, e.nx H01 H1 _ _ g1.fz ((s.go g1).set_raw i _) p⟩
/-- one of two ways to say an expression -/
def tAlt (t1 t2 : TE) : TE := fun σ H Q => t1 σ H Q ∨ t2 σ H Q
theorem pe_alt {X : Cx} {e : Expr} {t1 t2 : TE} (h1 : PE X e t1) (h2 : PE X e t2) : PE X e (tAlt t1 t2) := ⟨fun pins s σ H Q I h => h.elim (h1.run pins s σ H Q I) (h2.run pins s σ H Q I)⟩
@[simp] def dAlt (d1 d2 : DE) : DE := fun δ Φ => d1 δ Φ ∨ d2 δ Φ
theorem sm_alt {t1 t2 : TE} (h1 : Sm C f t1 d1) (h2 : Sm C f t2 d2) : Sm C f (tAlt t1 t2) (dAlt d1 d2) := fun σ δ H0 H Φ Q s w q => w.elim (fun w => .inl (h1 σ δ H0 H Φ Q s w q)) (fun w => .inr (h2 σ δ H0 H Φ Q s w q))
end
section
variable {C : Ctx} {gs : TGs} {dgs : DGs}
/-- a, b = a list -/
@[simp] def dgUnl (n : Nat) (dgs : DGs) : DG := fun x δ Ψ => ∃ xs, x = .list xs ∧ xs.length = n ∧ dgs xs δ Ψ
theorem smg_unl {n : Nat} (h : SmGs C gs dgs) : SmG C (gUnl C.K n gs) (dgUnl n dgs) := fun v x σ δ H0 H Ψ Q s r ⟨xs, e, hn, w⟩ q => by
  subst e
  cases r with
  | @lst a us _ hs r => exact ⟨a, us, rfl, SqL.of (s.toWf.sub _ _ hs), by rw [r.length]; exact hn, h _ _ σ δ H0 H _ _ s r w q⟩
end
end VL

/-! a, b, c = three values. -/
namespace VL
open PySem L2
section
variable {C : Ctx} {f f1 f2 f3 : Bool} {ta tb tc td : TE} {da db dc dd : DE}
@[simp] def dPar3 (i j l : Nat) (da db dc : DE) : DS := fun E δ => da δ fun x => db δ fun y => dc δ fun z => E.nx (((δ.set i (some (.d x))).set j (some (.d y))).set l (some (.d z)))
theorem sms_par3 (i j l : Nat) (ha : Sm C true ta da) (hb : Sm C true tb db) (hc : Sm C true tc dc) : SmS C (tPar3 i j l (tCons ta (tCons tb (tCons tc tNil)))) (dPar3 i j l da db dc) := fun σ δ H0 H E D s w e =>
  ha σ δ H0 H _ _ s w fun H01 H1 v x g1 r1 w1 => hb σ δ H01 H1 _ _ (s.go g1) w1 fun H02 H2 u y g2 r2 w2 => hc σ δ H02 H2 _ _ ((s.go g1).go g2) w2 fun H03 H3 t z g3 r3 w3 =>
    ⟨v, u, t, rfl, e.nx _ _ _ _ ((g1.fz.trans g2.fz).trans g3.fz) ((((((s.go g1).go g2).go g3).set_d i (Rp.mono (g2.fz.trans g3.fz) r1)).set_d j (Rp.mono g3.fz r2)).set_d l r3) w3⟩
end
end VL

/-! dicts: owned by a slot while they grow; frozen as data. -/
namespace VL
open PySem L2
/-! ### entries -/
def getE (es : List (Key × PyData)) (k : Key) : Option PyData := (es.find? fun e => decide (e.1 = k)).map (·.2)
def putE (es : List (Key × PyData)) (k : Key) (x : PyData) : List (Key × PyData) := if (es.any fun e => decide (e.1 = k)) = true then es.map (fun e => if e.1 = k then (e.1, x) else e) else es ++ [(k, x)]
theorem getE_nil (k : Key) : getE [] k = none := rfl
theorem getE_cons (p : Key × PyData) (r : List (Key × PyData)) (k : Key) : getE (p :: r) k = if p.1 = k then some p.2 else getE r k := by
  unfold getE
  rw [List.find?_cons]
  by_cases e : p.1 = k
  · simp [e]
  · simp [e]
theorem getE_any (k : Key) : ∀ es : List (Key × PyData), (es.any fun e => decide (e.1 = k)) = (getE es k).isSome
  | [] => rfl
  | p :: r => by
    rw [List.any_cons, getE_cons]
    by_cases e : p.1 = k
    · simp [e]
    · simp [e, getE_any k r]
theorem getE_append (k : Key) : ∀ es fs : List (Key × PyData), getE (es ++ fs) k = (getE es k).or (getE fs k)
  | [], fs => by rw [List.nil_append, getE_nil]; rfl
  | p :: r, fs => by
    rw [List.cons_append, getE_cons, getE_cons, getE_append k r fs]
    by_cases e : p.1 = k
    · simp [e]
    · simp [e]
theorem putE_new {es : List (Key × PyData)} {k : Key} (x : PyData) (h : getE es k = none) : putE es k x = es ++ [(k, x)] := by
  unfold putE
  rw [getE_any, h]
  rfl
theorem putE_len (es : List (Key × PyData)) (k : Key) (x : PyData) : (putE es k x).length ≤ es.length + 1 := by
  unfold putE
  split
  · rw [List.length_map]; omega
  · rw [List.length_append]; exact Nat.le_refl _
theorem keyD_inj : ∀ {k l : Key}, keyD k = keyD l → k = l
  | .inl i, .inl j, h => by cases h; rfl
  | .inr i, .inr j, h => by cases h; rfl
  | .inl i, .inr j, h => by cases h
  | .inr i, .inl j, h => by cases h
theorem RpK.get {K : PySem.W.Frag} {H : Hp} {k : Key} : ∀ {vs : List (Key × V)} {es : List (Key × PyData)}, RpK K H vs es → (valV vs k = none ∧ getE es k = none) ∨ ∃ v d, valV vs k = some v ∧ getE es k = some d ∧ Rp K H v d
  | _, _, .nil => .inl ⟨rfl, rfl⟩
  | _, _, .cons (k := k') h r => by
    rw [getE_cons]
    by_cases e : k' = k
    · exact .inr ⟨_, _, valV_pos (p := (k', _)) e, if_pos e, h⟩
    · rw [if_neg e, valV_neg (p := (k', _)) e]
      exact RpK.get r
theorem RpK.snoc {K : PySem.W.Frag} {H : Hp} {k : Key} {v : V} {d : PyData} (h : Rp K H v d) : ∀ {vs : List (Key × V)} {es : List (Key × PyData)}, RpK K H vs es → RpK K H (vs ++ [(k, v)]) (es ++ [(k, d)])
  | _, _, .nil => .cons h .nil
  | _, _, .cons g r => .cons g (RpK.snoc h r)
theorem RpK.over {K : PySem.W.Frag} {H : Hp} {k : Key} {v : V} {d : PyData} (h : Rp K H v d) : ∀ {vs : List (Key × V)} {es : List (Key × PyData)}, RpK K H vs es → RpK K H (vs.map fun kv => if kv.1 = k then (kv.1, v) else kv) (es.map fun e => if e.1 = k then (e.1, d) else e)
  | _, _, .nil => .nil
  | _, _, .cons (k := k') g r => by
    rw [List.map_cons, List.map_cons]
    by_cases e : k' = k
    · simp only [if_pos e]
      exact .cons h (RpK.over h r)
    · simp only [if_neg e]
      exact .cons g (RpK.over h r)
theorem RpK.put {K : PySem.W.Frag} {H : Hp} {k : Key} {v : V} {d : PyData} {vs : List (Key × V)} {es : List (Key × PyData)} (r : RpK K H vs es) (h : Rp K H v d) : RpK K H (putK vs k v) (putE es k d) := by
  unfold putK putE
  rw [valV_any, getE_any]
  rcases r.get (k := k) with ⟨e1, e2⟩ | ⟨v', d', e1, e2, _⟩
  · rw [e1, e2]
    exact r.snoc h
  · rw [e1, e2]
    exact r.over h
theorem RpD.rpk {K : PySem.W.Frag} {H : Hp} : ∀ {vs : List (Key × V)} {es : List (Key × PyData)}, RpD K H vs (entD es) → RpK K H vs es
  | [], [], _ => .nil
  | (k, v) :: vs, (l, d) :: es, h => by
    generalize hq : entD ((l, d) :: es) = q at h
    cases h with
    | cons g r =>
      have hq : (keyD l, d) :: entD es = _ := hq
      injection hq with h1 h2
      injection h1 with h3 h4
      subst h4
      obtain rfl := keyD_inj h3
      subst h2
      exact .cons g (RpD.rpk r)
  | (k, v) :: vs, [], h => by cases h
  | [], (l, d) :: es, h => by cases h
theorem rp_key {K : PySem.W.Frag} {H : Hp} {v : V} {k : Key} (h : Rp K H v (keyD k)) : v = kV k := by
  cases k with
  | inl i => cases h; rfl
  | inr s => cases h; rfl
/-! ### hand layer: a thing locked for good -/
def tFrz (t : TS) : TS := fun D σ H => ∃ d u, H d = some u ∧ Mut (some u) ∧ ∀ od, t D σ (upd H d (.frz od u))
theorem ps_frz {X : Cx} {st : Stmt} {t : TS} (h : PS X st t) : PS X st (tFrz t) := by
  refine ⟨fun pins s σ H D I hw => ?_⟩
  obtain ⟨d, u, hd, mu, hw⟩ := hw
  obtain ⟨od, I1⟩ := I.lock hd mu
  exact h.run pins s σ _ _ I1 (hw od)
/-- len of anything, a dict that stands too -/
theorem call_lenDR {X : Cx} : CallR X (.builtin "len") (fun xs H Q => ∃ a kvs, xs = [V.ref a] ∧ Rd H a (.dK kvs) ∧ Q (.int kvs.length) H) := by
  intro pins s σ H xs us Q I r h
  obtain ⟨a, kvs, rfl, ha, q⟩ := h
  obtain ⟨u, rfl, ru⟩ := vals1 r
  cases ru
  exact d_len I ha fun t s' I' => ⟨.int kvs.length, H, I', ⟨t, rfl⟩, q⟩
section
variable {C : Ctx} {H0 H H0' H' : Hp} {σ : L2.St} {δ : Dl} {v : V} {x : PyData} {f f1 f2 f3 : Bool} {te ta tb td : TE} {de da db dd dx : DE} {ts tv : TS} {ds dv : DS}
/-- slot = {} -/
@[simp] def dSetD (i : Nat) : DS := fun E δ => ∀ a, E.nx (δ.set i (some (.dct a [])))
theorem sms_setD (i : Nat) : SmS C (tAsg tDNewK (gName i)) (dSetD i) := fun σ δ H0 H E D s w e => fun p hp => by
  have g := Go.free (o := .dK []) s.toWf hp
  refine e.nx H0 _ _ _ (Same.refl _) ((s.go g).set_adr (r := .dct p []) i rfl (fun j q b hj hb z => ?_) ⟨rfl, s.toWf.none hp, (Go.he s.toWf hp).1, (Go.he s.toWf hp).2, [], upd_same, .nil⟩) (w p)
  subst z
  obtain ⟨v, _, hv⟩ := s.sl j _ hj
  obtain ⟨o, k⟩ := hv.live hb
  rw [hp] at k; cases k
/-- slot[key] = value -/
@[simp] def dPutD (i : Nat) (de dk : DE) : DS := fun E δ => ∃ a es, δ[i]? = some (some (.dct a es)) ∧ de δ fun x => dk δ fun y => ∃ k, y = keyD k ∧ es.length < sizeLine ∧ E.nx (δ.set i (some (.dct a (putE es k x))))
theorem sms_putD (i : Nat) (h : Sm C true te de) (hk : Sm C f2 tb db) : SmS C (sDPut (tVar i) tb te) (dPutD i de db) := fun σ δ H0 H E D s ⟨a, es, e0, w⟩ e =>
  h σ δ H0 H _ _ s w fun H01 H1 v x g1 r1 w1 => by
    obtain ⟨u, e1, _⟩ := s.sl i _ e0
    refine ⟨u, e1, hk σ δ H01 H1 _ _ (s.go g1) w1 fun H02 H2 y0 y g2 r2 ⟨k, ey, hl, p⟩ => ?_⟩
    subst ey
    obtain rfl := rp_key r2
    have s2 := (s.go g1).go g2
    obtain ⟨u', e2, rfl, h1, h2, h3, kvs, h4, h5⟩ := s2.sl i _ e0
    rw [e1] at e2
    cases e2
    refine ⟨a, _, rfl, DPut.k h4 (by rw [h5.length]; exact hl), e.nx H02 _ σ _ (g1.fz.trans g2.fz) ?_ p⟩
    exact s2.put i e0 (fun _ h => h.1) rfl rfl fun H' hH k1 k2 k3 => ⟨rfl, k1, k2, k3, _, hH, h5.put (r1.mono g2.fz)⟩
/-- key in slot -/
@[simp] def dInD (neg : Bool) (i : Nat) (dk : DE) : DE := fun δ Φ => ∃ a es, δ[i]? = some (some (.dct a es)) ∧ dk δ fun y => ∃ k, y = keyD k ∧ Φ (.bool (if neg then !(getE es k).isSome else (getE es k).isSome))
theorem in_go {a : Addr} {es : List (Key × PyData)} {i : Nat} (s : St C H0 H σ δ) (e0 : δ[i]? = some (some (.dct a es))) (k : Key) : ∃ o, σ[i]? = some (some (.ref a)) ∧ DGet H a (kV k) o ∧ ((o = Option.none ∧ getE es k = Option.none) ∨ ∃ v d, o = some v ∧ getE es k = some d ∧ Rp C.K H0 v d) := by
  obtain ⟨u', e2, rfl, h1, h2, h3, kvs, h4, h5⟩ := s.sl i _ e0
  exact ⟨_, e2, DGet.k h4, h5.get⟩
theorem sm_inD (i : Nat) (hk : Sm C f2 tb db) : Sm C f (tDIn tb (tVar i)) (dInD false i db) := fun σ δ H0 H Φ Q s ⟨a, es, e0, w⟩ q =>
  hk σ δ H0 H _ _ s w fun H01 H1 y0 y g1 r1 ⟨k, ey, p⟩ => by
    subst ey
    obtain rfl := rp_key r1
    obtain ⟨o, h1, h2, h3⟩ := in_go (s.go g1) e0 k
    refine ⟨_, h1, a, o, rfl, h2, q _ _ _ _ g1 (.bl _) ?_⟩
    rcases h3 with ⟨rfl, e⟩ | ⟨v, d, rfl, e, _⟩ <;> rw [e] at p <;> exact p
theorem sm_ninD (i : Nat) (hk : Sm C f2 tb db) : Sm C f (tDNotIn tb (tVar i)) (dInD true i db) := fun σ δ H0 H Φ Q s ⟨a, es, e0, w⟩ q =>
  hk σ δ H0 H _ _ s w fun H01 H1 y0 y g1 r1 ⟨k, ey, p⟩ => by
    subst ey
    obtain rfl := rp_key r1
    obtain ⟨o, h1, h2, h3⟩ := in_go (s.go g1) e0 k
    refine ⟨_, h1, a, o, rfl, h2, q _ _ _ _ g1 (.bl _) ?_⟩
    rcases h3 with ⟨rfl, e⟩ | ⟨v, d, rfl, e, _⟩ <;> rw [e] at p <;> exact p
/-- slot[key] -/
@[simp] def dGetD (i : Nat) (dk : DE) : DE := fun δ Φ => ∃ a es, δ[i]? = some (some (.dct a es)) ∧ dk δ fun y => ∃ k x, y = keyD k ∧ getE es k = some x ∧ Φ x
theorem sm_getD (i : Nat) (hk : Sm C f2 tb db) : Sm C f (tDGet (tVar i) tb) (dGetD i db) := fun σ δ H0 H Φ Q s ⟨a, es, e0, w⟩ q => by
  obtain ⟨u, e1, hu⟩ := s.sl i _ e0
  refine ⟨u, e1, hk σ δ H0 H _ _ s w fun H01 H1 y0 y g1 r1 ⟨k, x, ey, ex, p⟩ => ?_⟩
  subst ey
  obtain rfl := rp_key r1
  obtain ⟨o, h1, h2, h3⟩ := in_go (s.go g1) e0 k
  rw [e1] at h1
  cases h1
  rcases h3 with ⟨_, e⟩ | ⟨v, d, rfl, e, r⟩
  · rw [e] at ex; cases ex
  · rw [e] at ex; cases ex
    exact ⟨a, v, rfl, h2, q _ _ _ _ g1 (r.mono g1.wf.to) p⟩
/-! ### dicts that stand -/
theorem dic_rd {es : List (Key × PyData)} (h : Rp C.K H v (.dict (entD es))) : ∃ a kvs, v = .ref a ∧ Rd H a (.dK kvs) ∧ RpK C.K H kvs es := by
  generalize hx : PyData.dict (entD es) = x at h
  cases h with
  | dic h r =>
    cases hx
    exact ⟨_, _, rfl, .inr ⟨_, h⟩, r.rpk⟩
  | _ => cases hx
theorem rd_same {a : Addr} {kvs : List (Key × V)} (e : Same H H') (h : Rd H a (.dK kvs)) : Rd H' a (.dK kvs) := by
  rcases h with h | ⟨o, h⟩
  · exact .inl (e _ _ h)
  · exact .inr ⟨o, e _ _ h⟩
@[simp] def dInF (neg : Bool) (dk dd : DE) : DE := fun δ Φ => dk δ fun y => dd δ fun x => ∃ es k, x = .dict (entD es) ∧ y = keyD k ∧ Φ (.bool (if neg then !(getE es k).isSome else (getE es k).isSome))
theorem sm_inF (hk : Sm C f1 tb db) (hd : Sm C f2 td dd) : Sm C f (tDIn tb td) (dInF false db dd) := fun σ δ H0 H Φ Q s w q =>
  hk σ δ H0 H _ _ s w fun H01 H1 y0 y g1 r1 w1 => hd σ δ H01 H1 _ _ (s.go g1) w1 fun H02 H2 x0 x g2 r2 ⟨es, k, ex, ey, p⟩ => by
    subst ex ey
    obtain rfl := rp_key r1
    obtain ⟨a, kvs, rfl, h1, h2⟩ := dic_rd r2
    refine ⟨a, _, rfl, .inl ⟨kvs, k, rd_same g2.wf.loc h1, rfl, rfl⟩, q _ _ _ _ (g1.trans g2) (.bl _) ?_⟩
    rcases h2.get (k := k) with ⟨e1, e⟩ | ⟨v, d, e1, e, _⟩ <;> rw [e] at p <;> rw [e1] <;> exact p
theorem sm_ninF (hk : Sm C f1 tb db) (hd : Sm C f2 td dd) : Sm C f (tDNotIn tb td) (dInF true db dd) := fun σ δ H0 H Φ Q s w q =>
  hk σ δ H0 H _ _ s w fun H01 H1 y0 y g1 r1 w1 => hd σ δ H01 H1 _ _ (s.go g1) w1 fun H02 H2 x0 x g2 r2 ⟨es, k, ex, ey, p⟩ => by
    subst ex ey
    obtain rfl := rp_key r1
    obtain ⟨a, kvs, rfl, h1, h2⟩ := dic_rd r2
    refine ⟨a, _, rfl, .inl ⟨kvs, k, rd_same g2.wf.loc h1, rfl, rfl⟩, q _ _ _ _ (g1.trans g2) (.bl _) ?_⟩
    rcases h2.get (k := k) with ⟨e1, e⟩ | ⟨v, d, e1, e, _⟩ <;> rw [e] at p <;> rw [e1] <;> exact p
@[simp] def dGetF (dd dk : DE) : DE := fun δ Φ => dd δ fun x => dk δ fun y => ∃ es k z, x = .dict (entD es) ∧ y = keyD k ∧ getE es k = some z ∧ Φ z
theorem sm_getF (hd : Sm C f td dd) (hk : Sm C f2 tb db) : Sm C f (tDGet td tb) (dGetF dd db) := fun σ δ H0 H Φ Q s w q =>
  hd σ δ H0 H _ _ s w fun H01 H1 x0 x g1 r1 w1 => hk σ δ H01 H1 _ _ (s.go g1) w1 fun H02 H2 y0 y g2 r2 ⟨es, k, z, ex, ey, ez, p⟩ => by
    subst ex ey
    obtain rfl := rp_key r2
    obtain ⟨a, kvs, rfl, h1, h2⟩ := dic_rd (r1.mono g2.loc)
    rcases h2.get (k := k) with ⟨e1, e⟩ | ⟨v, d, e1, e, r⟩
    · rw [e] at ez; cases ez
    · rw [e] at ez; cases ez
      exact ⟨a, v, rfl, .inl ⟨kvs, k, rd_same g2.wf.loc h1, rfl, e1.symm⟩, q _ _ _ _ (g1.trans g2) r p⟩
@[simp] def dGet1F (dd dk : DE) : DE := fun δ Φ => dd δ fun x => ∃ es, x = .dict (entD es) ∧ dk δ fun y => ∃ k, y = keyD k ∧ Φ ((getE es k).getD .none)
theorem sm_get1F (hd : Sm C f td dd) (hk : Sm C f2 tb db) : Sm C f (tDGet1 td tb) (dGet1F dd db) := fun σ δ H0 H Φ Q s w q =>
  hd σ δ H0 H _ _ s w fun H01 H1 x0 x g1 r1 ⟨es, ex, w1⟩ => by
    subst ex
    obtain ⟨a, kvs, rfl, h1, h2⟩ := dic_rd r1
    refine ⟨a, rfl, .inl ⟨kvs, rd_same g1.wf.loc h1⟩, hk σ δ H01 H1 _ _ (s.go g1) w1 fun H02 H2 y0 y g2 r2 ⟨k, ey, p⟩ => ?_⟩
    subst ey
    obtain rfl := rp_key r2
    refine ⟨_, .inl ⟨kvs, k, rd_same g2.wf.loc (rd_same g2.loc h1), rfl, rfl⟩, ?_⟩
    rcases h2.get (k := k) with ⟨e1, e⟩ | ⟨v, d, e1, e, r⟩
    · rw [e] at p; rw [e1]; exact q _ _ _ _ (g1.trans g2) .non p
    · rw [e] at p; rw [e1]; exact q _ _ _ _ (g1.trans g2) (r.mono g2.loc) p
@[simp] def dGet2F (dd dk dx : DE) : DE := fun δ Φ => dd δ fun x => ∃ es, x = .dict (entD es) ∧ dk δ fun y => dx δ fun z => ∃ k, y = keyD k ∧ Φ ((getE es k).getD z)
theorem sm_get2F (hd : Sm C f td dd) (hk : Sm C f2 tb db) (hx : Sm C f ta dx) : Sm C f (tDGet2 td tb ta) (dGet2F dd db dx) := fun σ δ H0 H Φ Q s w q =>
  hd σ δ H0 H _ _ s w fun H01 H1 x0 x g1 r1 ⟨es, ex, w1⟩ => by
    subst ex
    obtain ⟨a, kvs, rfl, h1, h2⟩ := dic_rd r1
    refine ⟨a, rfl, .inl ⟨kvs, rd_same g1.wf.loc h1⟩, hk σ δ H01 H1 _ _ (s.go g1) w1 fun H02 H2 y0 y g2 r2 w2 => hx σ δ H02 H2 _ _ ((s.go g1).go g2) w2 fun H03 H3 z0 z g3 r3 ⟨k, ey, p⟩ => ?_⟩
    subst ey
    obtain rfl := rp_key r2
    refine ⟨_, .inl ⟨kvs, k, rd_same g3.wf.loc (rd_same g3.loc (rd_same g2.loc h1)), rfl, rfl⟩, ?_⟩
    rcases h2.get (k := k) with ⟨e1, e⟩ | ⟨v, d, e1, e, r⟩
    · rw [e] at p; rw [e1]; exact q _ _ _ _ ((g1.trans g2).trans g3) r3 p
    · rw [e] at p; rw [e1]; exact q _ _ _ _ ((g1.trans g2).trans g3) ((r.mono g2.loc).mono g3.loc) p
/-- len of a dict that stands -/
@[simp] def gLenF : List PyData → (PyData → Prop) → Prop := fun xs Φ => ∃ es, xs = [.dict (entD es)] ∧ Φ (.int es.length)
theorem cbd_lenF : CbD C (fun xs H Q => ∃ a kvs, xs = [V.ref a] ∧ Rd H a (.dK kvs) ∧ Q (.int kvs.length) H) gLenF := fun H vs xs Φ Q r ⟨es, e, p⟩ q => by
  subst e
  cases r with
  | cons h n =>
    cases n
    obtain ⟨a, kvs, rfl, h1, h2⟩ := dic_rd h
    exact ⟨a, kvs, rfl, h1, by rw [h2.length]; exact q _ _ (fun _ => .int _) p⟩
/-- a dict that stands is walked: its keys in order -/
@[simp] def iKF (dd : DE) : DI := fun δ Φ => dd δ fun x => ∃ es, x = .dict (entD es) ∧ Φ (es.map fun e => keyD e.1)
theorem rp_kV {K : PySem.W.Frag} (k : Key) : Rp K H (kV k) (keyD k) := by
  cases k with
  | inl i => exact .int i
  | inr s => exact .str s
theorem RpK.key {K : PySem.W.Frag} {H : Hp} : ∀ {vs : List (Key × V)} {es : List (Key × PyData)} {i : Nat} {k : Key} {v : V}, RpK K H vs es → vs[i]? = some (k, v) → (es.map fun e => keyD e.1)[i]? = some (keyD k)
  | _, _, _, _, _, .nil, e => by simp at e
  | _, _, 0, _, _, .cons _ _, e => by simp at e; obtain ⟨rfl, rfl⟩ := e; rfl
  | _, _, i + 1, _, _, .cons _ r, e => by
    rw [List.map_cons, List.getElem?_cons_succ]
    exact RpK.key r (by simpa using e)
theorem smi_keys (hd : Sm C true td dd) : SmI C (iKeys td) (iKF dd) := fun σ δ H0 H Φ R s w q =>
  hd σ δ H0 H _ _ s w fun H01 H1 x0 x g1 r1 ⟨es, ex, p⟩ => by
    subst ex
    have h2 : ∃ a o kvs, x0 = .ref a ∧ H01 a = some (.frz o (.dK kvs)) ∧ RpK C.K H01 kvs es := by
      generalize hx : PyData.dict (entD es) = x at r1
      cases r1 with
      | dic h r => cases hx; exact ⟨_, _, _, rfl, h, r.rpk⟩
      | _ => cases hx
    obtain ⟨a, o, kvs, rfl, h1, h2⟩ := h2
    refine ⟨a, o, rfl, .inl ⟨kvs, g1.wf.sub _ _ h1, q _ _ _ _ g1 ⟨fun H0' H' i e w hi => ?_, fun H0' H' i e w hi => ?_, fun H0' H' i v H'' e w hi y => ?_⟩ p⟩⟩
    · rw [List.length_map] at hi
      exact ⟨w.sub _ _ (e _ _ h1), by rw [h2.length]; omega⟩
    · rw [List.length_map] at hi
      exact ⟨w.sub _ _ (e _ _ h1), by rw [h2.length]; exact hi⟩
    · obtain ⟨rfl, k, u, hk, rfl⟩ := y
      exact ⟨H0', keyD k, .refl w, h2.key hk, rp_kV k⟩
/-- from here on the dict in the slot stands -/
@[simp] def dFrzD (i : Nat) (d : DS) : DS := fun E δ => ∃ a es, δ[i]? = some (some (.dct a es)) ∧ d E (δ.set i (some (.d (.dict (entD es)))))
theorem sms_frzD (i : Nat) (h : SmS C ts ds) : SmS C (tFrz ts) (dFrzD i ds) := fun σ δ H0 H E D s ⟨a, es, e0, w⟩ e => by
  obtain ⟨u', e2, rfl, h1, h2, h3, kvs, h4, h5⟩ := s.sl i _ e0
  refine ⟨a, .dK kvs, h4, trivial, fun od => ?_⟩
  obtain ⟨g, s'⟩ := s.frzU (o := .frz od (.dK kvs)) (x := .dict (entD es)) i e0 (fun _ h => h.1) (List.mem_singleton.mpr rfl) fun gr => .dic upd_same (h5.mono gr).rpd
  exact h σ _ _ _ E D s' w (e.mono g)
end
end VL

/-! a written dict of the program's top whose values are written tuples: asked by get. -/
namespace VL
open PySem L2
/-- the items of a written tuple -/
inductive PaiC (K : PySem.W.Frag) : List Value → List V → List PyData → Prop
  | nil : PaiC K [] [] []
  | cons {u : Value} {v : V} {x : PyData} {us : List Value} {vs : List V} {xs : List PyData} (h : RelV v u) (h2 : ∀ H, Rp K H v x) (r : PaiC K us vs xs) : PaiC K (u :: us) (v :: vs) (x :: xs)
theorem PaiC.vals {K : PySem.W.Frag} : ∀ {us : List Value} {vs : List V} {xs : List PyData}, PaiC K us vs xs → Vals vs us ∧ ∀ H, RpA K H vs xs
  | _, _, _, .nil => ⟨.nil, fun _ => .nil⟩
  | _, _, _, .cons h h2 r => ⟨.cons h r.vals.1, fun H => .cons (h2 H) (r.vals.2 H)⟩
theorem PaiC.n {K : PySem.W.Frag} {us : List Value} {vs : List V} {xs : List PyData} (r : PaiC K us vs xs) : PaiC K (.none :: us) (.non :: vs) (.none :: xs) := .cons rfl (fun _ => .non) r
theorem PaiC.i {K : PySem.W.Frag} {k : Int} {t : Tok} {us : List Value} {vs : List V} {xs : List PyData} (r : PaiC K us vs xs) : PaiC K (.int k t :: us) (.int k :: vs) (.int k :: xs) := .cons ⟨t, rfl⟩ (fun _ => .int k) r
theorem PaiC.s {K : PySem.W.Frag} {k : Str} {t : Tok} {us : List Value} {vs : List V} {xs : List PyData} (r : PaiC K us vs xs) : PaiC K (.str k t :: us) (.str k :: vs) (.str k :: xs) := .cons ⟨t, rfl⟩ (fun _ => .str k) r
theorem PaiC.t {K : PySem.W.Frag} {a : Addr} {x : PyData} {us : List Value} {vs : List V} {xs : List PyData} (h : ∀ H, Rp K H (.ref a) x) (r : PaiC K us vs xs) : PaiC K (.ref a :: us) (.ref a :: vs) (x :: xs) := .cons rfl h r
theorem KC.mk {K : PySem.W.Frag} {a : Addr} {xs : List PyData} {o : Obj} {its : Array Value} {n : Nat} {us : List Value} {vs : List V} (h : K.lookup a = some o) (hc : o.cls = .type "tuple") (hd : o.data = .seq its n) (hi : its.toList = us) (hl : us.length ≤ 100) (p : PaiC K us vs xs) : ∀ H, Rp K H (.ref a) (.tuple xs) := by
  intro H
  refine .tup (.inr ⟨o, its, n, h, hc, hd, ?_, by rw [hi]; exact p.vals.1⟩) (p.vals.2 H)
  rw [← Array.length_toList, hi]
  exact Nat.le_trans hl (by decide)
/-- entries L, and the keys M that it lacks -/
structure KdT (K : PySem.W.Frag) (w : World) (d : Addr) (L : List (Str × PyData)) (M : List Str) : Prop where
  ex : ∃ es n, L2.KDict K w d es n
  all : ∀ k x, (k, x) ∈ L → ∃ u v, PySem.W.nsIn K d k = some (some u) ∧ RelV v u ∧ ∀ H, Rp K H v x
  no : ∀ k, k ∈ M → PySem.W.nsIn K d k = some none
theorem KdT.mk' {K : PySem.W.Frag} {w : World} {d : Addr} {L : List (Str × PyData)} {M : List Str} {es : Array DictEntry} {n : Nat} (h : K.lookup d = some ⟨.type "dict", none, .dict es n, #[]⟩) (hk : PySem.W.KeysLit w.params es.toList) (lo : (d == sysModules) = false)
    (all : ∀ k x, (k, x) ∈ L → ∃ u v, PySem.W.nsIn K d k = some (some u) ∧ RelV v u ∧ ∀ H, Rp K H v x) (no : ∀ k, k ∈ M → PySem.W.nsIn K d k = some none) : KdT K w d L M := ⟨⟨es, n, h, hk, lo⟩, all, no⟩
theorem kdt_nil {K : PySem.W.Frag} {d : Addr} : ∀ k x, (k, x) ∈ ([] : List (Str × PyData)) → ∃ u v, PySem.W.nsIn K d k = some (some u) ∧ RelV v u ∧ ∀ H, Rp K H v x := fun _ _ h => nomatch h
theorem kdt_cons {K : PySem.W.Frag} {d : Addr} {L : List (Str × PyData)} {k : Str} {x : PyData} {a : Addr} (h : PySem.W.nsIn K d k = some (some (.ref a))) (hx : ∀ H, Rp K H (.ref a) x) (t : ∀ k x, (k, x) ∈ L → ∃ u v, PySem.W.nsIn K d k = some (some u) ∧ RelV v u ∧ ∀ H, Rp K H v x) :
    ∀ k' x', (k', x') ∈ (k, x) :: L → ∃ u v, PySem.W.nsIn K d k' = some (some u) ∧ RelV v u ∧ ∀ H, Rp K H v x' := fun k' x' h' => by
  rcases List.mem_cons.mp h' with e | e
  · cases e; exact ⟨_, .ref a, h, rfl, hx⟩
  · exact t k' x' e
theorem kdn_nil {K : PySem.W.Frag} {d : Addr} : ∀ k, k ∈ ([] : List Str) → PySem.W.nsIn K d k = some none := fun _ h => nomatch h
theorem kdn_cons {K : PySem.W.Frag} {d : Addr} {M : List Str} {k : Str} (h : PySem.W.nsIn K d k = some none) (t : ∀ k, k ∈ M → PySem.W.nsIn K d k = some none) : ∀ k', k' ∈ k :: M → PySem.W.nsIn K d k' = some none := fun k' h' => by
  rcases List.mem_cons.mp h' with e | e
  · cases e; exact h
  · exact t k' e
/-- d.get(key), d a written dict -/
def tKGet1 (K : PySem.W.Frag) (d : Addr) (ty : TE) : TE := fun σ H Q => ty σ H fun y H1 => ∃ (z : Str) (r : Option Value) (v : V), y = .str z ∧ PySem.W.nsIn K d z = some r ∧ RelV v (r.getD .none) ∧ Q v H1
theorem pe_kget1 {X : Cx} {K : PySem.W.Frag} {w : World} {d : Addr} {o e : Expr} {apos cpos : Pos} {v : V} {ty : TE} (h : X.K = K) (h2 : X.w = w) (hv : v = .ref d) (D : ∃ es n, L2.KDict K w d es n) (ho : PE X o (tC v)) (he : PE X e ty) (m : M1 X o "get" apos e cpos) : PE X (.Call (.Attribute o "get" apos) [e] [] cpos) (tKGet1 K d ty) := by
  subst h h2 hv
  obtain ⟨es, n, D⟩ := D
  refine ⟨fun pins s σ H Q I h => ?_⟩
  refine wpAny_Call_method m.base m.few m.line PySem.F.plainAttrs_dict PySem.F.slot_dict_get PySem.F.type_dict_get (thn (ho.run pins s σ H (fun x H1 => x = .ref d ∧ tKGet1 X.K d ty σ H1 Q) I ⟨rfl, h⟩) fun u s1 ⟨x, H1, I1, rx, ex, q1⟩ => ?_)
  subst ex
  obtain rfl : u = Value.ref d := rx
  have mo := PySem.W.mapOf_K (prog := X.prog) (w := X.w) I1.kIn D.at_ D.lit
  refine ⟨mo.typeIs, mo.noDict, ?_⟩
  rw [m.trees]
  refine Calls.callWith_builtin rfl (Calls.evalArgs_plain (Calls.spliced_cons (thn (he.run pins s1 σ H1 _ I1 q1) fun iv s2 ⟨y, H2, I2, ry, z, r, v, ey, hr, hv, q2⟩ => Calls.spliced_nil ?_)))
  subst ey
  obtain ⟨t, rfl⟩ := ry
  have mo := PySem.W.mapOf_K (prog := X.prog) (w := X.w) I2.kIn D.at_ D.lit
  refine call_meetsIn PySem.F.slot_dict_get mo.typeIs PySem.F.entry_dict_get (PySem.F.args_dict_get_2 _ _) (meets_dict_get (strKind X.prog X.w) d (PySem.strKind_is X.prog X.w z t) D.low) ⟨_, mo, v, H2, I2.tok _, ?_, q2⟩
  show RelV v ((findBy Value.isStrOf es z).getD .none)
  rw [PySem.W.find_K D.at_ hr]
  exact hv
section
variable {C : Ctx} {f f2 : Bool} {tb : TE} {db : DE}
@[simp] def dKGet (L : List (Str × PyData)) (M : List Str) (db : DE) : DE := fun δ Φ => db δ fun y => ∃ z, y = .str z ∧ ((∃ x, (z, x) ∈ L ∧ Φ x) ∨ (z ∈ M ∧ Φ .none))
theorem sm_kget {w : World} {d : Addr} {L : List (Str × PyData)} {M : List Str} (D : KdT C.K w d L M) (hb : Sm C f2 tb db) : Sm C f (tKGet1 C.K d tb) (dKGet L M db) := fun σ δ H0 H Φ Q s w' q =>
  hb σ δ H0 H _ _ s w' fun H01 H1 u y g1 r1 ⟨z, e, p⟩ => by
    subst e
    cases r1
    rcases p with ⟨x, hx, p⟩ | ⟨hz, p⟩
    · obtain ⟨u, v, h1, h2, h3⟩ := D.all z x hx
      exact ⟨z, _, v, rfl, h1, h2, q _ _ _ _ g1 (h3 _) p⟩
    · exact ⟨z, _, .non, rfl, D.no z hz, rfl, q _ _ _ _ g1 .non p⟩
end
end VL

/-! A lambda without captured names: made, handed to a def, called there. -/
namespace VL
open PySem PySem.Spec PyProof.Rows L2 LamX NdefX
theorem upd_comm {H : Hp} {a b : Addr} {o u : HO} (n : a ≠ b) : L2.upd (L2.upd H a o) b u = L2.upd (L2.upd H b u) a o := by
  funext d
  unfold L2.upd
  by_cases h1 : d = b
  · subst h1; rw [if_pos rfl, if_neg (fun z => n z.symm), if_pos rfl]
  · rw [if_neg h1]
    by_cases h2 : d = a
    · rw [if_pos h2, if_pos h2]
    · rw [if_neg h2, if_neg h2, if_neg h1]
section
variable {X : Cx} {pins : List (Addr × Obj)} {σ : L2.St} {H : Hp} {s : Shared}
theorem inv_lam {F : LF} {c : Addr} {o : Obj} {t' : Nat} {pm ctv : Value} (I : Inv X pins σ H s) (ho : o = PySem.W.kla_obj "<lambda>" F.qual F.params F.body F.scope [] pm c ctv) :
    Inv X pins σ (L2.upd H s.heap.objs.size (LamO s.heap.objs.size F c)) { s with heap := s.heap.push o, toks := t' } := by
  subst ho
  refine I.laid (a := s.heap.objs.size) (fun b u e => Heap.get?_push_of_some _ e) (Nat.le_refl _) ?_
  have e : (s.heap.push (PySem.W.kla_obj "<lambda>" F.qual F.params F.body F.scope [] pm c ctv)).get? s.heap.objs.size = some (PySem.W.kla_obj "<lambda>" F.qual F.params F.body F.scope [] pm c ctv) := Heap.get?_push_size _ rfl
  exact ⟨⟨pm, ctv, e⟩, ⟨_, e⟩, fun h1 h2 ⟨p, t, z⟩ st => ⟨p, t, st _ z⟩⟩
theorem lamO_at {P : Program} {w : World} {H : Hp} {h : Heap} {f c : Addr} {F : LF} (hok : HOk P w H h) (e : H f = some (LamO f F c)) : ∃ (pm ctv : Value), h.get? f = some (PySem.W.kla_obj "<lambda>" F.qual F.params F.body F.scope [] pm c ctv) := by
  obtain ⟨z, _, _⟩ := hok f _ e
  exact z
/-- the reading of a lambda's making: its code object is found in the table, or new -/
def tLam (P : Addr) (F : LF) : TE := fun σ H Q => ∃ ps : Array Value, H P = some (.tbl ps) ∧ TriplesOk ps.toList ∧ (∀ (pos : Pos) (cv : Value), codeAmong pos ps.toList = some cv → ∃ c, cv = .ref c ∧ H c = some (CodeO c F.qual)) ∧
  (∀ f c, H f = none → (∃ pos : Pos, codeAmong pos ps.toList = some (.ref c)) → Q (.ref f) (L2.upd H f (LamO f F c))) ∧
  (∀ f c (ps' : Array Value), H f = none → H c = none → f ≠ c → TriplesOk ps'.toList → (∀ (pos : Pos) (cv : Value), codeAmong pos ps'.toList = some cv → codeAmong pos ps.toList = some cv ∨ cv = .ref c) →
    Q (.ref f) (L2.upd (L2.upd (L2.upd H c (CodeO c F.qual)) P (.tbl ps')) f (LamO f F c)))
theorem pe_lam {c P : Addr} {params : Arguments} {body : Expr} {scope : Scope} {pos : Pos} (TB : TabB X.base X.mg c P) (hcode : X.env.code = .ref c) (hdef : defaultsOf params X.env = ([], [])) (hfree : ∀ y ∈ scope.names, y.2 ≠ .free) :
    PE X (.Lambda params body scope pos) (tLam P ⟨X.env.qual ++ "<lambda>", params, body, scope⟩) := by
  refine ⟨fun pins s σ H Q I h => ?_⟩
  obtain ⟨ps, hP, ht, ha, hHit, hNew⟩ := h
  refine PySem.W.kla_eval hdef ?_
  have bP : s.heap.BuiltinsAt X.mg P := TB.bm.keeps I.bk
  have hP' : s.heap.get? P = some { cls := .none, data := .fields ps } := I.hok P _ hP
  have hfr : ∀ y ∈ scope.names, y.2 = .free → ∃ c, X.env.cells.lookup y.1 = some c := fun y hy e => absurd e (hfree y hy)
  have hcl : cloFrom X.env.cells scope.names [] = [] := List.eq_nil_iff_forall_not_mem.mpr fun ⟨n, a⟩ hy => by
    rcases cloFrom_mem hy with z | ⟨z, _⟩
    · cases z
    · exact hfree _ z rfl
  have hcf : closureFor scope X.env = pure [] := by rw [← hcl]; exact closure_ok hfr
  cases hc : codeAmong pos ps.toList with
  | none =>
    refine PySem.W.kla_makeFunction (mg := X.mg) (c := c) (P := P) (ps := ps) hcf I.ok.glob (I.mod.glob.keeps I.bk) hcode (TB.code.keeps I.bk) hP' ht hc TB.gP bP fun c' ctv h' tk hx hge hlt hrec htb => ?_
    obtain ⟨c2, oc, vs, t, e2, hoc, hd, hv⟩ := hrec
    cases e2
    have nC : H c' = none := I.hok.fresh hge
    have I1 := inv_table (t' := tk) (more := #[rawInt pos.line, rawInt pos.col, .ref c']) (h' := h') I hP (fun b o hb e => hx b o hb e) htb hge ⟨oc, vs, t, hoc, hd, hv⟩
    have I2 := inv_lam (F := ⟨X.env.qual ++ "<lambda>", params, body, scope⟩) (c := c') (t' := tk) (pm := (X.mg "__name__").getD .none) (ctv := ctv) I1 rfl
    have hPc : P ≠ c' := ne_of_none hP nC
    rw [upd_comm hPc] at I2
    have nF : H h'.objs.size = none := I.hok.fresh (Nat.le_trans hge (Nat.le_of_lt hlt))
    have eL : (ps ++ #[rawInt pos.line, rawInt pos.col, .ref c']).toList = ps.toList ++ [rawInt pos.line, rawInt pos.col, .ref c'] := by simp
    exact ⟨.ref h'.objs.size, _, I2, rfl, hNew h'.objs.size c' _ nF nC (Nat.ne_of_gt hlt) (by rw [eL]; exact PySem.TriplesOk_snoc _ _ _ _ ht) fun p' cv hcv => by
      rw [eL] at hcv
      exact among_app _ ht hcv⟩
  | some cv =>
    obtain ⟨c', e, hco⟩ := ha pos cv hc
    subst e
    refine PySem.W.kla_makeFunctionHit (mg := X.mg) (c := c) (P := P) (ps := ps) hcf I.ok.glob (I.mod.glob.keeps I.bk) hcode (TB.code.keeps I.bk) hP' ht hc bP fun ctv h' tk hx hsz => ?_
    have I1 : Inv X pins σ H { s with heap := h', toks := tk } := I.kept hx
    have I2 := inv_lam (F := ⟨X.env.qual ++ "<lambda>", params, body, scope⟩) (c := c') (t' := tk) (pm := (X.mg "__name__").getD .none) (ctv := ctv) I1 rfl
    exact ⟨.ref h'.objs.size, _, I2, rfl, hHit h'.objs.size c' (I1.hok.fresh (Nat.le_refl _)) ⟨pos, hc⟩⟩
end
theorem pe_lamF {X : Cx} {e : Expr} {F : LF} {c P : Addr} {pos : Pos} (he : e = .Lambda F.params F.body F.scope pos) (hq : X.env.qual ++ "<lambda>" = F.qual) (TB : TabB X.base X.mg c P) (hcode : X.env.code = .ref c) (hdef : defaultsOf F.params X.env = ([], [])) (hfree : ∀ y ∈ F.scope.names, y.2 ≠ .free) : PE X e (tLam P F) := by
  obtain ⟨q, ps, b, sc⟩ := F
  subst he
  have hq : X.env.qual ++ "<lambda>" = q := hq
  subst hq
  exact pe_lam TB hcode hdef hfree
/-- a def whose code object is known -/
structure FunC (K : PySem.W.Frag) (x qual : Str) (st : Stmt) (f : Addr) (fd : FuncData) (c : Addr) : Prop where
  ex : ∃ (oc : Value) (od : Option Addr) (kV doc pm : Value) (an : Option Addr) (ct : Value) (osl : Array (Option Value)),
    fd = PySem.W.fnOf x qual (defArgs st) (defBody st) (defScope st) .none kV doc pm an (.ref c) ct ∧ K.lookup f = some ⟨oc, od, .func fd, osl⟩ ∧ PySem.W.codeIn K (.ref c) qual = true
theorem FunC.ok {P : Program} {w : World} {K : PySem.W.Frag} {mg : Str → Option Value} {base : Heap} {x qual : Str} {st : Stmt} {f c : Addr} {fd : FuncData} {N ps : List Str} {k : Nat} {sp : Sp} (F : FunC K x qual st f fd c) (S : FnScope N ps (defScope st)) (len : ∀ vs H Q E, sp vs H Q E → vs.length = ps.length)
    (hbody : ∀ (A : Around) (outer : List Env) (s : Shared) (H : Hp) (vs : List V) (Q : VK) (E : XK), Room k (A.deeper (envOfC qual (defScope st) s.heap.objs.size f (.ref c))) → sp vs H Q E →
      ∃ t, PSs (cxOf CX0 P w K mg base N qual (defScope st) f (.ref c) A outer s H E).nox (defBody st) t ∧ t { nx := fun _ H' => Q .non H', rt := Q } (L2.start N vs) H) : FnOk P w K mg base CX0 (k + 1) f fd ps sp := by
  obtain ⟨oc, od, kV, doc, pm, an, ct, osl, rfl, lk, hcd⟩ := F.ex
  refine fn_of lk hcd S len fun A outer s H vs Q E hr hsp => ?_
  obtain ⟨t, h, q⟩ := hbody A outer s H vs Q E hr hsp
  exact ⟨t, h.nox, q⟩
/-! ### in the value layer -/
section
variable {C : Ctx} {H0 H H0' H' : Hp} {tas : TA} {dqs : DR} {f : Bool}
theorem Go.tab {P : Addr} {ps : Array Value} (w : Wf C H0 H) (e : C.ex = some P) (hT : IsTb C.He P) (ht : TriplesOk ps.toList) (ha : ∀ (pos : Pos) (cv : Value), codeAmong pos ps.toList = some cv → ∃ c, cv = .ref c ∧ H0 c = some (CodeO c lamName)) : Go C H0 H H0 (L2.upd H P (.tbl ps)) := by
  have n0 := (w.dr P e).no
  refine ⟨⟨fun b u q => ?_, fun b u n q => ?_, w.fz, w.nw, fun p q => ?_⟩, Same.refl _, fun b u n q => ?_, fun b u q => .inl q⟩
  · rw [upd_ne (fun z => by rw [z, n0] at q; cases q)]; exact w.sub b u q
  · rw [upd_ne (fun z => n (by rw [z]; exact e))]; exact w.kp b u n q
  · rw [e] at q; cases q
    exact ⟨n0, .inr ⟨ps, upd_same, ht, ha⟩, ⟨fun _ => ⟨ps, upd_same⟩, fun _ => hT⟩⟩
  · rw [upd_ne (fun z => n (by rw [z]; exact e))]; exact q
@[simp] def qLam (F : LF) (ds : DR) : DR := fun δ Φ => ds δ fun xs => Φ (.fn F :: xs)
theorem smq_lam {P : Addr} {F : LF} (he : C.ex = some P) (hT : IsTb C.He P) (hF : F.qual = lamName) (hb : SmQ C tas dqs) : SmQ C (tCons (tLam P F) tas) (qLam F dqs) := fun σ δ H0 H Φ Q s w q => by
  obtain ⟨ps, e1, e2, e3⟩ := (s.dr P he).tab hT
  refine ⟨ps, e1, e2, fun pos cv h => ?_, fun g c hg ⟨pos, hc⟩ => ?_, fun g c ps' hg hc ne ht ha => ?_⟩
  · obtain ⟨c, k1, k2⟩ := e3 pos cv h
    exact ⟨c, k1, by rw [hF]; exact s.sub _ _ k2⟩
  · obtain ⟨c', k1, k2⟩ := e3 _ _ hc
    cases k1
    have g1 := Go.new (o := LamO g F c) s.toWf hg
    refine hb σ δ _ _ _ _ (s.go g1) w fun H02 H2 us ys g2 r2 w2 => q H02 H2 _ _ (g1.trans g2) (RRas.cons (r := R.fn F) ⟨g, c, rfl, g2.fz _ _ upd_same, ?_⟩ r2) w2
    rw [hF]
    exact (g1.trans g2).fz _ _ k2
  · have g1 := Go.new (o := CodeO c F.qual) s.toWf hc
    have np : P ≠ c := ne_of_none e1 hc
    have g2 : Go C _ _ (L2.upd H0 c (CodeO c F.qual)) (L2.upd (L2.upd H c (CodeO c F.qual)) P (.tbl ps')) := Go.tab g1.wf he hT ht fun pos cv h => by
      rcases ha pos cv h with z | z
      · obtain ⟨c0, k1, k2⟩ := e3 _ _ z
        exact ⟨c0, k1, g1.fz _ _ k2⟩
      · exact ⟨c, z, by rw [upd_same, hF]⟩
    have nP : g ≠ P := fun z => by rw [z, e1] at hg; cases hg
    have g3 := Go.new (o := LamO g F c) g2.wf (show (L2.upd (L2.upd H c (CodeO c F.qual)) P (.tbl ps')) g = none by rw [upd_ne nP, upd_ne ne]; exact hg)
    have gg := (g1.trans g2).trans g3
    refine hb σ δ _ _ _ _ (s.go gg) w fun H02 H2 us ys g4 r2 w2 => q H02 H2 _ _ (gg.trans g4) (RRas.cons (r := R.fn F) ⟨g, c, rfl, g4.fz _ _ upd_same, g4.fz _ _ (by rw [upd_ne (fun z => ne z.symm), upd_same])⟩ r2) w2
end
/-! ### called -/
abbrev nfL (F : LF) (c : Addr) : NF := ⟨"<lambda>", F.qual, F.params, [], F.scope, [], c⟩
def XF : XK := fun _ _ _ => False
structure LamOk (P : Program) (w : World) (K : PySem.W.Frag) (mg : Str → Option Value) (base : Heap) (k : Nat) (F : LF) (sp : VSp) : Prop where
  run : ∀ (A : Around) (outer : List Env) (s : Shared) (H : Hp) (us : List Value) (vs : List V) (f c : Addr) (Q : VK), Room k A → Env0 P w K mg base A outer s H → H f = some (LamO f F c) → H c = some (CodeO c F.qual) → Vals vs us → toSp K 1 sp vs H Q XF →
    codeAny (model P w) A (.call (.ref f) ⟨us, []⟩) (CR CX0 outer P w H s Q XF) s
section
variable {P : Program} {w : World} {K : PySem.W.Frag} {mg : Str → Option Value} {base : Heap} {k j : Nat} {F : LF} {sp : VSp}
theorem LamOk.mono (o : LamOk P w K mg base j F sp) (h : j ≤ k) : LamOk P w K mg base k F sp := ⟨fun A outer s H us vs f c Q hr => o.run A outer s H us vs f c Q (hr.mono h)⟩
theorem lamOk_of {N : List Str} {x : Str} (S : NScope N [x] [] F.scope) (hb : ∀ (pm cdv ctv : Value) (us : List Value), us.length = 1 → bindArgs (PySem.W.kla_fn "<lambda>" F.qual F.params F.body F.scope [] pm cdv ctv) ⟨us, []⟩ = pure ([x].zip us))
    (hbody : ∀ (A : Around) (outer : List Env) (s : Shared) (H : Hp) (f c : Addr), Room k (A.deeper (envF (nfL F c) f s.heap.objs.size)) →
      ∃ t, PE (ncx CX0 P w K mg base N (nfL F c) f A outer s H XF) F.body t ∧ ∃ d : DE, (∀ (ex : Option Addr) (He Hf : Hp), Sm ⟨K, ex, He, Hf⟩ true t d) ∧ ∀ rs Φ, sp rs Φ → d (startD N.length rs) fun y => Φ (.d y)) : LamOk P w K mg base (k + 1) F sp := by
  refine ⟨fun A outer s H us vs f c Q hr e0 hf hc r hsp => ?_⟩
  obtain ⟨hl, ex, H0, rs, Φ, wf, ra, hp, q⟩ := hsp
  have lim : s.heap.NoLimit := e0.mod.nolimit.keeps fun b o e => (e0.bs b o e).1
  obtain ⟨pm, ctv, ho⟩ := lamO_at e0.hok hf
  refine PySem.W.kla_callFunE hr.depth ho rfl S.co S.gen rfl (codeO_at e0.hok hc) ?_
  rw [hb pm (.ref c) ctv us (by rw [← r.length]; exact hl)]
  refine wpAny_pure (wpAny_newFunctionEnv S.nocell (fun ⟨n, _⟩ hy => S.par n (List.of_mem_zip hy).1) (fun h₁ hns hsb => ⟨lim.fresh _ hsb, ?_⟩) S.kind)
  show codeAny _ _ (.expr F.body (envF (nfL F c) f s.heap.objs.size)) _ _
  have kp : ∀ b o, s.heap.get? b = some o → h₁.get? b = some o := fun b o e => hsb.extBut b o (Nat.ne_of_lt (Heap.lt_size e)) (Heap.get?_push_of_some _ e)
  obtain ⟨t, ht, d, hd, hq⟩ := hbody A outer s H f c (hr.deeper _)
  have I : Inv (ncx CX0 P w K mg base N (nfL F c) f A outer s H XF) [] (startF N vs []) H { s with heap := h₁, toks := s.toks + ([x].zip us).length } :=
    inv_startN (F := nfL F c) S hr.hd e0 hl r ⟨rfl, fun y c e => (nomatch e), fun _ _ _ e => (nomatch e), fun i y e => (nomatch e)⟩ hns kp
  have eS : startF N vs [] = L2.start N vs := by simp [startF, L2.start]
  have hrun : t (startF N vs []) H Q := by
    rw [eS]
    exact body_start (N := N) (t := tRet t) (d := dRet d) rfl (fun ex He Hf => sms_ret (hd ex He Hf)) wf ra (hq rs Φ hp) q
  refine PySem.W.kla_codeExpr (wpAny_mono (ht.run [] _ (startF N vs []) H _ I hrun) (fun v s' hs => ?_) fun e s' hs => hs)
  obtain ⟨w', H', J', rv, q'⟩ := hs
  exact ⟨w', H', J'.os, J'.bare, J'.base, J'.hok, rv, q'⟩
end
def tCallF (K : PySem.W.Frag) (S : LF → VSp → Prop) (i : Nat) (t : TA) : TE := fun σ H Q => ∃ f c F sp, σ[i]? = some (some (.ref f)) ∧ S F sp ∧ H f = some (LamO f F c) ∧ t σ H fun vs H1 => H1 f = some (LamO f F c) ∧ H1 c = some (CodeO c F.qual) ∧ toSp K 1 sp vs H1 Q XF
section
variable {X : Cx} {K : PySem.W.Frag} {S : LF → VSp → Prop} {i k : Nat} {x : Str} {t : TA} {e : Expr} {es : List Expr} {p pos : Pos}
theorem pe_callF (hK : X.K = K) (Fn : ∀ F sp, S F sp → LamOk X.prog X.w K X.mg X.base k F sp) (hr : Room k X.A) (hN : X.N[i]? = some x) (hv : Vis X.env.scope x) (ha : PA X (e :: es) t)
    (hd : (x == ("__debug__" : Str)) = false := by decide) (hcd : (x == ("__classdict__" : Str)) = false := by decide)
    (he : starEach (e :: es) X.env = (false, eval e X.env) :: starEach es X.env := by rfl) (hpl : (backTo pos (starEach es X.env)).any (·.1) = false := by rfl) :
    PE X (.Call (.Name x p) (e :: es) [] pos) (tCallF K S i t) := by
  subst hK
  refine ⟨fun pins s σ H Q I h => ?_⟩
  obtain ⟨f, c, F, sp, hs, hS, hf, ht⟩ := h
  refine wpAny_Call_Name_kw (thn ((pe_var (pos := p) hN hv hd hcd).run pins s σ H (fun v H1 => v = .ref f ∧ H1 = H) I ⟨.ref f, hs, rfl, rfl⟩) fun u s1 ⟨v, H1, I1, r1, q1⟩ => ?_)
  obtain ⟨ev, eH⟩ := q1
  subst ev
  rw [eH] at I1
  obtain rfl : u = Value.ref f := r1
  have at_ : ∀ {pins σ H s}, Inv X pins σ H s → H f = some (LamO f F c) → PySem.W.FnAt f s.heap := fun I e => by
    obtain ⟨pm, ctv, ho⟩ := lamO_at I.hok e
    exact ⟨_, _, _, _, ho⟩
  refine PySem.W.callWith_F (first := []) (at_ I1 hf) (thn (ha.run pos pins s1 σ H _ I1 ht) fun us s2 ⟨vs, H2, I2, r, h1, h2, q⟩ => ⟨at_ I2 h1, ?_⟩) he hpl
  show wpAny _ _ (call (.ref f) us) _ _ _
  refine wpAny_call (codeAny_mono ((Fn F sp hS).run X.A X.stack s2 H2 us vs f c Q hr I2.env0 h1 h2 r q) fun r s' hq => ?_)
  cases r with
  | error e => exact (show False from hq).elim
  | ok fl =>
    cases fl with
    | ret u => exact I2.after hq
    | next => exact False.elim hq
    | brk => exact False.elim hq
    | cont => exact False.elim hq
end
section
variable {C : Ctx} {tas : TA} {dqs : DR} {f : Bool} {S : LF → VSp → Prop}
@[simp] def dCallF (S : LF → VSp → Prop) (i : Nat) (ds : DR) : DE := fun δ Φ => ∃ F sp, δ[i]? = some (some (.fn F)) ∧ S F sp ∧ ds δ fun rs => rs.length = 1 ∧ sp rs fun r => Φ r.data
theorem sm_callF (i : Nat) (ha : SmQ C tas dqs) : Sm C f (tCallF C.K S i tas) (dCallF S i dqs) := fun σ δ H0 H Φ Q s ⟨F, sp, e, hS, w⟩ q => by
  obtain ⟨v, e1, g, c, e2, k1, k2⟩ := s.sl i _ e
  subst e2
  refine ⟨g, c, F, sp, e1, hS, s.sub _ _ k1, ha σ δ H0 H _ _ s w fun H01 H1 vs rs g1 r1 ⟨hl, w1⟩ => ⟨g1.wf.sub _ _ (g1.fz _ _ k1), g1.wf.sub _ _ (g1.fz _ _ k2), ?_⟩⟩
  refine ⟨by rw [r1.length]; exact hl, C.ex, H01, rs, _, g1.wf.inner, r1.in_ g1.wf, w1, fun H02 H2 v r g2 h2 p2 => ?_⟩
  have g3 := Go.outer g1.wf g2
  cases r with
  | d x => exact q _ _ _ _ (g1.trans g3) (Rp.mono g3.wf.to h2) p2
  | own xs =>
    obtain ⟨a, us, rfl, k1, k2, k3, k4, k5⟩ := h2
    have g4 := Go.frz s.toWf (g1.trans g3) (g1.fresh k2) k1 k4
    exact q _ _ _ _ g4 (Rp.mono g4.wf.to (.lst upd_same (k5.mono (Go.same_new k1)))) p2
  | m u m x => exact q _ _ _ _ (g1.trans g3) (Rp.mono g3.wf.to h2.1) p2
/-- a slot that holds a lambda, handed on -/
@[simp] def qFn (i : Nat) (ds : DR) : DR := fun δ Φ => ∃ F, δ[i]? = some (some (.fn F)) ∧ ds δ fun xs => Φ (.fn F :: xs)
theorem smq_fn (i : Nat) (hb : SmQ C tas dqs) : SmQ C (tCons (tVar i) tas) (qFn i dqs) := fun σ δ H0 H Φ Q s ⟨F, e, w⟩ q => by
  obtain ⟨v, e1, g, c, h1, h2, h3⟩ := s.sl i _ e
  exact ⟨v, e1, hb σ δ H0 H _ _ s w fun H02 H2 us ys g2 r2 w2 => q H02 H2 _ _ g2 (RRas.cons (r := R.fn F) ⟨g, c, h1, g2.fz _ _ h2, g2.fz _ _ h3⟩ r2) w2⟩
end
/-- a law that reads its script itself and makes lambdas: P is its code's table -/
def spLawT (K : PySem.W.Frag) (P : Addr) : Sp := fun vs H Q _ => ∃ (a : Addr) (ns : List Int), vs = [.ref a] ∧ H P = some (.tbl #[]) ∧ a ≠ P ∧ SqL K H a (ns.map V.int) ∧ ns.length ≤ 63 ∧ ∀ H', Q (.bl true) H'
theorem law_plainT {K : PySem.W.Frag} {P a : Addr} {ns : List Int} {H : Hp} {Q : VK} {n : Nat} {t : TS} {d : DS} (hP : H P = some (.tbl #[])) (hS : SqL K H a (ns.map V.int)) (ne : a ≠ P) (k : ∀ H', Q (.bl true) H') (hd : ∀ (He Hf : Hp), IsTb He P → SmS ⟨K, some P, He, Hf⟩ t d)
    (hp : d { nx := fun _ => False, rt := fun r => r = .d (.bool true) } (some (.scr ns) :: List.replicate n none)) : t { nx := fun _ H' => Q .non H', rt := Q } (some (.ref a) :: List.replicate n none) H := by
  have w : Wf ⟨K, some P, H, fun b => if b = P then none else H b⟩ (fun b => if b = P then none else H b) H := by
    refine ⟨fun b o e => ?_, fun _ _ _ e => e, Same.refl _, fun _ _ e => .inl e, fun q e => ?_⟩
    · split at e
      · cases e
      · exact e
    · cases e
      exact ⟨if_pos rfl, .inr ⟨_, hP, trivial, fun pos cv z => by simp [codeAmong] at z⟩, Iff.rfl⟩
  have hS' : SqL K (fun b => if b = P then none else H b) a (ns.map V.int) := by
    rcases hS with (h | ⟨o, h⟩) | h
    · exact .inl (.inl (by show (if a = P then none else H a) = _; rw [if_neg ne]; exact h))
    · exact .inl (.inr ⟨o, by show (if a = P then none else H a) = _; rw [if_neg ne]; exact h⟩)
    · exact .inr h
  refine hd H (fun b => if b = P then none else H b) ⟨_, hP⟩ _ _ _ H _ _ ⟨w, by simp, fun i r e => ?_, fun i j a b xs ys n e1 e2 a1 a2 => ?_⟩ hp ⟨fun _ _ _ _ _ _ h => h.elim, fun H0' H'' v r g w' x e => ?_, fun _ _ _ _ _ _ h => h.elim, fun _ _ _ _ _ _ h => h.elim⟩
  · match i with
    | 0 => simp at e; subst e; exact ⟨_, rfl, a, rfl, hS'⟩
    | i + 1 =>
      rw [List.getElem?_cons_succ, List.getElem?_replicate] at e
      split at e <;> simp at e
  · match i with
    | 0 => simp at e1; subst e1; cases a1
    | i + 1 =>
      rw [List.getElem?_cons_succ, List.getElem?_replicate] at e1
      split at e1 <;> simp at e1
  · subst e
    cases x
    exact k _
theorem lawT_ne {K : PySem.W.Frag} {P a : Addr} {H : Hp} {xs : List V} (hP : H P = some (.tbl #[])) (hn : K.lookup P = none) (hS : SqL K H a xs) : a ≠ P := fun z => by
  subst z
  rcases hS with (h | ⟨o, h⟩) | h
  · rw [hP] at h; cases h
  · rw [hP] at h; cases h
  · obtain ⟨o, its, n, h, _⟩ := h
    rw [hn] at h; cases h
end VL

/-! sorted of numbers; xs.pop() of an owned list; whether an owned list has items. -/
namespace VL
open PySem PySem.Spec PyProof.Rows L2
theorem kx_sortedI {X : Cx} {K : PySem.W.Frag} (h : X.K = K) : CallR X (.builtin "sorted") (L2.rSortedI K) := by subst h; exact L2.cr_sortedI
theorem rpa_nums {K : PySem.W.Frag} {H : Hp} : ∀ ns : List Int, RpA K H (ns.map V.int) (ns.map PyData.int)
  | [] => .nil
  | n :: ns => .cons (.int n) (rpa_nums ns)
theorem RpA.last {K : PySem.W.Frag} {H : Hp} {y : PyData} : ∀ {xs : List PyData} {vs : List V}, RpA K H vs (xs ++ [y]) → ∃ us u, vs = us ++ [u] ∧ RpA K H us xs ∧ Rp K H u y
  | [], _, .cons h .nil => ⟨[], _, rfl, .nil, h⟩
  | _ :: _, _, .cons h r => by
    obtain ⟨us, u, rfl, r1, r2⟩ := RpA.last r
    exact ⟨_ :: us, u, rfl, .cons h r1, r2⟩
section
variable {C : Ctx} {ta : TE} {da : DE} {g : TG} {dg : DG}
@[simp] def oSorted (da : DE) : DO := fun δ Φ => da δ fun x => ∃ ns : List Int, x = .list (ns.map PyData.int) ∧ ∀ ms : List Int, ms.Perm ns → ms.Pairwise (· ≤ ·) → Φ (ms.map PyData.int)
theorem smo_sorted (ha : Sm C true ta da) : SmO C (tCB (L2.rSortedI C.K) (tCons ta tNil)) (oSorted da) := fun σ δ H0 H Φ Q s w q =>
  ha σ δ H0 H _ _ s w fun H01 H1 v x g1 r1 ⟨ns, e, p⟩ => by
    subst e
    cases r1 with
    | @lst b vs _ h r =>
      have e := r.ints
      subst e
      exact ⟨_, ns, rfl, SqL.of (g1.wf.sub _ _ h), fun ms l hp hs hl => q _ _ l _ _ (g1.trans (Go.free (o := .lst _) g1.wf hl)) (g1.fresh hl) (g1.wf.none hl) upd_same (rpa_nums ms) (p ms hp hs)⟩
@[simp] def dPop (i : Nat) (dg : DG) : DS := fun E δ => ∃ a xs y, δ[i]? = some (some (.own a (xs ++ [y]))) ∧ dg y (δ.set i (some (.own a xs))) E.nx
theorem sms_pop (i : Nat) (hg : SmG C g dg) : SmS C (tAsg (tBM0 C.K "list" rPop (tVar i)) g) (dPop i dg) := fun σ δ H0 H E D s ⟨a0, xs0, y0, e0, w⟩ e => by
  obtain ⟨v, e1, rfl, h1, h2, h3, vs, h4, h5⟩ := s.sl i _ e0
  obtain ⟨us, u, rfl, r1, r2⟩ := h5.last
  refine ⟨_, e1, .inl ⟨rfl, _, SqL.of h4⟩, a0, _, u, rfl, rfl, h4, by simp, ?_⟩
  rw [List.dropLast_concat]
  exact hg u y0 σ (δ.set i (some (.own a0 xs0))) H0 _ _ _ (s.write i e0 r1) r2 w fun σ' δ' s' w' => e.nx H0 _ σ' δ' (Same.refl _) s' w'
@[simp] def dTruO (i : Nat) : DT := fun δ Φ => ∃ a xs, δ[i]? = some (some (.own a xs)) ∧ Φ (!xs.isEmpty)
theorem smt_truO (i : Nat) : SmT C (fun σ H Q => tVar i σ H fun x H' => ∃ k, TruV C.K x H' k ∧ Q k H') (dTruO i) := fun σ δ H0 H Φ Q s ⟨a0, xs0, e0, w⟩ q => by
  obtain ⟨v, e1, rfl, h1, h2, h3, vs, h4, h5⟩ := s.sl i _ e0
  refine ⟨_, e1, !xs0.isEmpty, .inl ⟨vs, SqL.of h4, ?_⟩, q H0 H _ (.refl s.toWf) w⟩
  have := h5.length
  cases vs <;> cases xs0 <;> simp at this ⊢
end
/-! ### slot = {key: value for target in source if test} -/
def dSetDC (i : Nat) (di : DI) (own : List Nat) (dg : DG) (dt : DT) (dk dv : DE) : DS := fun E δ => di δ fun xs => ∃ I : Nat → List (Key × PyData) → Prop, I 0 [] ∧
  (∀ k y acc, xs[k]? = some y → I k acc → dg y (dwipe δ own) fun δ' => dt δ' fun b => if b = true then dk δ' fun u => dv δ' fun z => ∃ ky, u = keyD ky ∧ acc.length < sizeLine ∧ I (k + 1) (putE acc ky z) else I (k + 1) acc) ∧
  ∀ acc, I xs.length acc → ∀ a, E.nx (δ.set i (some (.dct a acc)))
section
variable {C : Ctx} {tk tv : TE} {dk dv : DE} {tt : TT} {dt : DT} {g : TG} {dg : DG} {ti : TI} {di : DI}
theorem sms_setDC {own : List Nat} (i : Nat) (hk : Kps own g) (hi : SmI C ti di) (hg : SmG C g dg) (ht : SmT C tt dt) (hkk : Sm C true tk dk) (hv : Sm C true tv dv) : SmS C (tAsg (tDc ti g tt tk tv own) (gName i)) (dSetDC i di own dg dt dk dv) := fun σ δ H0 H E D' s w e =>
  hi σ δ H0 H _ _ s w fun H01 H1 J xs g1 wk ⟨I, i0, it, ie⟩ D hD => by
    have hD0 : H D = none := g1.fresh hD
    refine ⟨fun k m H' => m = xs.length - k ∧ k ≤ xs.length ∧ ∃ H0' us acc, Go C H01 H1 H0' H' ∧ H0' D = none ∧ H' D = some (.dK us) ∧ RpK C.K H0' us acc ∧ I k acc, ⟨_, rfl, Nat.zero_le _, H01, [], [], Go.free g1.wf hD, g1.wf.none hD, upd_same, .nil, i0⟩, ?_⟩
    rintro k m H' ⟨rfl, hk', H0', us, acc, g2, hn, hl, r, p⟩
    have nex : C.ex ≠ some D := (Go.he g1.wf hD).2
    by_cases hlt : k < xs.length
    · refine .inr ⟨wk.go H0' H' k g2.fz g2.wf hlt, fun H3 => ∃ H0' us acc, Go C H01 H1 H0' H3 ∧ H0' D = none ∧ H3 D = some (.dK us) ∧ RpK C.K H0' us acc ∧ I (k + 1) acc, fun H3 h => ⟨_, by omega, rfl, hlt, h⟩, fun v H'' y => ?_⟩
      obtain ⟨H02, z, g3, hz, rz⟩ := wk.yld H0' H' k v H'' g2.fz g2.wf hlt y
      have g23 := g2.trans g3
      have keep : ∀ {A B : Hp}, Go C H02 H'' A B → A D = none ∧ B D = some (.dK us) := fun {A B} gg => by
        have h1 : B D = some (.dK us) := gg.kp D _ nex (g3.kp D _ nex hl)
        refine ⟨?_, h1⟩
        cases e : A D with
        | none => rfl
        | some u =>
          rcases (g3.trans gg).nw D u e with h2 | h2
          · rw [hn] at h2; cases h2
          · rw [hl] at h2; cases h2
      have sw : St C H02 H'' (wipe σ own) (dwipe δ own) := (s.go ((g1.trans g2).trans g3)).wipe own
      have fin := hk v (wipe σ own) H'' _ (hg v z (wipe σ own) (dwipe δ own) H02 H'' _ (fun σ2 H2 => tt σ2 H2 fun b H3 => if b = true then tk σ2 H3 fun y H4 => tv σ2 H4 fun z H5 => ∃ kvs ky, y = kV ky ∧ H5 D = some (.dK kvs) ∧ kvs.length < sizeLine ∧ ∃ H0' us acc', Go C H01 H1 H0' (upd H5 D (.dK (putK kvs ky z))) ∧ H0' D = none ∧ (upd H5 D (.dK (putK kvs ky z))) D = some (.dK us) ∧ RpK C.K H0' us acc' ∧ I (k + 1) acc' else ∃ H0' us acc, Go C H01 H1 H0' H3 ∧ H0' D = none ∧ H3 D = some (.dK us) ∧ RpK C.K H0' us acc ∧ I (k + 1) acc) sw rz (it k z acc hz p) fun σ2 δ2 s2 w2 => ?_)
      · rw [wipe_wipe] at fin
        exact fin
      · refine ht _ _ H02 H'' _ _ s2 w2 fun H04 H4 b g4 w4 => ?_
        cases b with
        | false => exact iteF ⟨H04, us, acc, g23.trans g4, (keep g4).1, (keep g4).2, r.mono (g3.fz.trans g4.fz), by simpa using w4⟩
        | true =>
          refine iteT (hkk _ _ H04 H4 (fun u => dv δ2 fun z => ∃ ky, u = keyD ky ∧ acc.length < sizeLine ∧ I (k + 1) (putE acc ky z)) _ (s2.go g4) (by simpa using w4) fun H05 H5 y' u' g5 r5 w5 => ?_)
          refine hv _ _ H05 H5 (fun z => ∃ ky, u' = keyD ky ∧ acc.length < sizeLine ∧ I (k + 1) (putE acc ky z)) _ ((s2.go g4).go g5) w5 fun H06 H6 y6 z6 g6 r6 ⟨ky, eu, w6, p6⟩ => ?_
          subst eu
          obtain rfl := rp_key r5
          have k6 := keep ((g4.trans g5).trans g6)
          refine ⟨us, ky, rfl, k6.2, by rw [r.length]; exact w6, H06, _, putE acc ky z6, ?_, k6.1, upd_same, (r.mono (g3.fz.trans (g4.fz.trans (g5.fz.trans g6.fz)))).put r6, p6⟩
          have gg := ((g23.trans g4).trans g5).trans g6
          refine ⟨⟨fun b u e => ?_, fun b u n e => ?_, gg.wf.fz, gg.wf.nw, fun c e => ?_⟩, gg.fz, fun b u n e => ?_, gg.nw⟩
          · rw [upd_ne (fun z => by rw [z, k6.1] at e; cases e)]; exact gg.wf.sub b u e
          · rw [upd_ne (fun z => by rw [z, (Go.he g1.wf hD).1] at e; cases e)]; exact gg.wf.kp b u n e
          · exact (gg.wf.dr c e).keep (Same.refl _) (gg.wf.dr c e).no (upd_ne (fun z => nex (by rw [← z]; exact e)))
          · rw [upd_ne (fun z => by rw [z, hD] at e; cases e)]; exact gg.kp b u n e
    · have hk' : k = xs.length := by omega
      refine .inl ⟨wk.stop H0' H' k g2.fz g2.wf (by omega), ?_⟩
      have gg := g1.trans g2
      have nD := gg.wf.dr
      refine e.nx H0' H' _ _ gg.fz ((s.go gg).set_adr (r := .dct D acc) i rfl (fun j q b hj hb z => ?_) ⟨rfl, hn, (Go.he g1.wf hD).1, nex, us, hl, r⟩) (ie acc (hk' ▸ p) D)
      subst z
      obtain ⟨v, _, hv⟩ := s.sl j _ hj
      obtain ⟨o, k⟩ := hv.live hb
      rw [hD0] at k; cases k
end
/-! ### targets within targets -/
def KpM (own : List Nat) (g : TG) : Prop := Kps own g ∧ ∀ v σ H (Q Q' : L2.St → Hp → Prop), (∀ σ' H', Q σ' H' → Q' σ' H') → g v σ H Q → g v σ H Q'
def KpMs (own : List Nat) (g : TGs) : Prop := KpsS own g ∧ ∀ v σ H (Q Q' : L2.St → Hp → Prop), (∀ σ' H', Q σ' H' → Q' σ' H') → g v σ H Q → g v σ H Q'
theorem KpM.kps {own : List Nat} {g : TG} (h : KpM own g) : Kps own g := h.1
theorem kpm_name {own : List Nat} {i : Nat} (h : i ∈ own) : KpM own (gName i) := ⟨kps_name h, fun v σ H Q Q' m q => m _ _ q⟩
theorem kpm_nil {own : List Nat} : KpMs own gNil := ⟨kps_nil, fun v σ H Q Q' m ⟨e, q⟩ => ⟨e, m _ _ q⟩⟩
theorem kpm_cons {own : List Nat} {g : TG} {gs : TGs} (hg : KpM own g) (k : KpMs own gs) : KpMs own (gCons g gs) :=
  ⟨fun vs σ H Q ⟨v, r, e, q⟩ => ⟨v, r, e, hg.2 _ _ _ _ _ (fun σ' H' ⟨w1, q1⟩ => k.2 _ _ _ _ _ (fun σ2 H2 ⟨w2, q2⟩ => ⟨w2.trans w1, q2⟩) (k.1 _ _ _ _ q1)) (hg.1 _ _ _ _ q)⟩,
   fun vs σ H Q Q' m ⟨v, r, e, q⟩ => ⟨v, r, e, hg.2 _ _ _ _ _ (fun σ' H' q1 => k.2 _ _ _ _ _ m q1) q⟩⟩
theorem kpm_tup {own : List Nat} {K : PySem.W.Frag} {n : Nat} {gs : TGs} (k : KpMs own gs) : KpM own (gTup K n gs) :=
  ⟨fun v σ H Q ⟨a, xs, e, h, hl, q⟩ => ⟨a, xs, e, h, hl, k.1 _ _ _ _ q⟩, fun v σ H Q Q' m ⟨a, xs, e, h, hl, q⟩ => ⟨a, xs, e, h, hl, k.2 _ _ _ _ _ m q⟩⟩
end VL

/-! regions: several owned objects that lead to each other, in one slot. -/
namespace VL
open PySem PySem.Spec PyProof.Rows L2
/-! ### cells -/
def Sto.at (m : Sto) (b : Addr) : Option Cell := (m.find? fun p => decide (p.1 = b)).map (·.2)
def Sto.put (m : Sto) (b : Addr) (c : Cell) : Sto := m.map fun p => if p.1 = b then (p.1, c) else p
theorem sat_cons (a b : Addr) (c : Cell) (m : Sto) : Sto.at ((a, c) :: m) b = if a = b then some c else Sto.at m b := by
  unfold Sto.at
  rw [List.find?_cons]
  by_cases e : a = b <;> simp [e]
theorem sat_nil (b : Addr) : Sto.at [] b = none := rfl
theorem sat_append (m n : Sto) (b : Addr) : Sto.at (m ++ n) b = (Sto.at m b).or (Sto.at n b) := by
  unfold Sto.at
  rw [List.find?_append]
  cases List.find? (fun p => decide (p.1 = b)) m <;> rfl
theorem sat_mem {m : Sto} {b : Addr} {c : Cell} (h : m.at b = some c) : (b, c) ∈ m := by
  unfold Sto.at at h
  obtain ⟨⟨a, c'⟩, h1, h2⟩ := Option.map_eq_some_iff.mp h
  have e := List.find?_some h1
  have e : a = b := by simpa using e
  subst e h2
  exact List.mem_of_find?_eq_some h1
theorem sat_dom {m : Sto} {b : Addr} {c : Cell} (h : m.at b = some c) : b ∈ m.map (·.1) := List.mem_map.mpr ⟨_, sat_mem h, rfl⟩
theorem sat_none {m : Sto} {b : Addr} (h : b ∉ m.map (·.1)) : m.at b = none := by
  cases e : m.at b with
  | none => rfl
  | some c => exact absurd (sat_dom e) h
theorem sat_new {m : Sto} {b : Addr} {c : Cell} (h : b ∉ m.map (·.1)) : Sto.at (m ++ [(b, c)]) b = some c := by
  rw [sat_append, sat_none h, sat_cons, if_pos rfl]
  rfl
theorem sat_old {m : Sto} {a b : Addr} {c d : Cell} (h : m.at a = some d) (e : a ≠ b) : Sto.at (m ++ [(b, c)]) a = some d := by
  rw [sat_append, h]
  rfl
theorem sput_dom (m : Sto) (b : Addr) (c : Cell) : (m.put b c).map (·.1) = m.map (·.1) := by
  unfold Sto.put
  rw [List.map_map]
  refine List.map_congr_left fun p _ => ?_
  show (if p.1 = b then (p.1, c) else p).1 = p.1
  split <;> rfl
theorem sat_put {m : Sto} {a b : Addr} {c d : Cell} (h : m.at b = some d) : Sto.at (m.put b c) a = if b = a then some c else m.at a := by
  induction m with
  | nil => cases h
  | cons p m ih =>
    obtain ⟨p1, p2⟩ := p
    have e : Sto.put ((p1, p2) :: m) b c = (if p1 = b then (p1, c) else (p1, p2)) :: Sto.put m b c := rfl
    rw [e]
    rw [sat_cons] at h
    by_cases q : p1 = b
    · subst q
      rw [if_pos rfl, sat_cons, sat_cons]
      by_cases q2 : p1 = a
      · rw [if_pos q2, if_pos q2]
      · rw [if_neg q2, if_neg q2, if_neg q2]
        have st : ∀ m : Sto, Sto.at (Sto.put m p1 c) a = m.at a := by
          intro m
          induction m with
          | nil => rfl
          | cons r m ih =>
            obtain ⟨r1, r2⟩ := r
            have e : Sto.put ((r1, r2) :: m) p1 c = (if r1 = p1 then (r1, c) else (r1, r2)) :: Sto.put m p1 c := rfl
            rw [e, sat_cons]
            by_cases q3 : r1 = p1
            · rw [if_pos q3, sat_cons, if_neg (fun z => q2 (q3.symm.trans z)), if_neg (fun z => q2 (q3.symm.trans z)), ih]
            · rw [if_neg q3, sat_cons, ih]
        exact st m
    · rw [if_neg q] at h
      rw [if_neg q, sat_cons, sat_cons, ih h]
      by_cases q2 : p1 = a
      · have : ¬ b = a := fun z => q (q2.trans z.symm)
        rw [if_pos q2, if_neg this, if_pos q2]
      · rw [if_neg q2, if_neg q2]
theorem sat_put_eq {m : Sto} {b : Addr} {c d : Cell} (h : m.at b = some d) : Sto.at (m.put b c) b = some c := by rw [sat_put h, if_pos rfl]
theorem sat_put_ne {m : Sto} {a b : Addr} {c d e : Cell} (h : m.at b = some d) (n : b ≠ a) (k : m.at a = some e) : Sto.at (m.put b c) a = some e := by rw [sat_put h, if_neg n]; exact k
theorem sput_mem {m : Sto} {a b : Addr} {c d : Cell} (h : (a, d) ∈ m.put b c) : (a = b ∧ d = c) ∨ (a ≠ b ∧ (a, d) ∈ m) := by
  obtain ⟨⟨p1, p2⟩, h1, h2⟩ := List.mem_map.mp h
  by_cases q : p1 = b
  · have h2 : (if p1 = b then (p1, c) else (p1, p2)) = (a, d) := h2
    rw [if_pos q] at h2
    cases h2
    exact .inl ⟨q, rfl⟩
  · have h2 : (if p1 = b then (p1, c) else (p1, p2)) = (a, d) := h2
    rw [if_neg q] at h2
    cases h2
    exact .inr ⟨q, h1⟩
/-! ### rows of cells -/
section
variable {K : PySem.W.Frag} {H H' : Hp}
theorem CVs.length : ∀ {vs : List V} {cs : List CV}, CVs K H vs cs → vs.length = cs.length
  | _, _, .nil => rfl
  | _, _, .cons _ r => by rw [List.length_cons, List.length_cons, CVs.length r]
theorem CVs.get : ∀ {vs : List V} {cs : List CV} {i : Nat} {c : CV}, CVs K H vs cs → cs[i]? = some c → ∃ v, vs[i]? = some v ∧ CVR K H v c
  | _, _, _, _, .nil, e => by simp at e
  | _, _, 0, _, .cons h _, e => by simp at e; subst e; exact ⟨_, rfl, h⟩
  | _, _, i + 1, _, .cons _ r, e => by
    obtain ⟨v, h1, h2⟩ := CVs.get (i := i) r (by simpa using e)
    exact ⟨v, by simpa using h1, h2⟩
theorem CVs.append : ∀ {vs us : List V} {cs ds : List CV}, CVs K H vs cs → CVs K H us ds → CVs K H (vs ++ us) (cs ++ ds)
  | _, _, _, _, .nil, r => r
  | _, _, _, _, .cons h r, s => .cons h (CVs.append r s)
theorem CVs.snoc {vs : List V} {cs : List CV} {v : V} {c : CV} (r : CVs K H vs cs) (h : CVR K H v c) : CVs K H (vs ++ [v]) (cs ++ [c]) := r.append (.cons h .nil)
theorem CVs.set {v : V} {c : CV} (h : CVR K H v c) : ∀ {vs : List V} {cs : List CV} (i : Nat), CVs K H vs cs → CVs K H (vs.set i v) (cs.set i c)
  | _, _, _, .nil => .nil
  | _, _, 0, .cons _ r => .cons h r
  | _, _, i + 1, .cons g r => .cons g (CVs.set h i r)
theorem CVs.take : ∀ {vs : List V} {cs : List CV} (n : Nat), CVs K H vs cs → CVs K H (vs.take n) (cs.take n)
  | _, _, 0, _ => .nil
  | _, _, _ + 1, .nil => .nil
  | _, _, n + 1, .cons h r => .cons h (CVs.take n r)
theorem CVs.drop : ∀ {vs : List V} {cs : List CV} (n : Nat), CVs K H vs cs → CVs K H (vs.drop n) (cs.drop n)
  | _, _, 0, r => r
  | _, _, _ + 1, .nil => .nil
  | _, _, n + 1, .cons _ r => CVs.drop n r
theorem CVs.last {c : CV} : ∀ {cs : List CV} {vs : List V}, CVs K H vs (cs ++ [c]) → ∃ us u, vs = us ++ [u] ∧ CVs K H us cs ∧ CVR K H u c
  | [], _, .cons h .nil => ⟨[], _, rfl, .nil, h⟩
  | _ :: _, _, .cons h r => by
    obtain ⟨us, u, rfl, r1, r2⟩ := CVs.last r
    exact ⟨_ :: us, u, rfl, .cons h r1, r2⟩
theorem RpA.cvs : ∀ {vs : List V} {xs : List PyData}, RpA K H vs xs → CVs K H vs (xs.map .d)
  | _, _, .nil => .nil
  | _, _, .cons h r => .cons h (RpA.cvs r)
theorem CVs.rpa : ∀ {vs : List V} {xs : List PyData}, CVs K H vs (xs.map .d) → RpA K H vs xs
  | _, [], .nil => .nil
  | _, _ :: _, .cons h r => .cons h (CVs.rpa r)
theorem cvs_refs : ∀ bs : List Addr, CVs K H (bs.map V.ref) (bs.map CV.r)
  | [] => .nil
  | b :: bs => .cons rfl (cvs_refs bs)
theorem cvs_ref_eq : ∀ {vs : List V} {bs : List Addr}, CVs K H vs (bs.map CV.r) → vs = bs.map V.ref
  | _, [], .nil => rfl
  | _, b :: bs, .cons h r => by
    have h : _ = V.ref b := h
    rw [List.map_cons, h, cvs_ref_eq r]
theorem atC {vs : List V} {cs : List CV} {i : Int} {c : CV} (r : CVs K H vs cs) (e : atI cs i = some c) : ∃ v, atI vs i = some v ∧ CVR K H v c := by
  unfold atI at e ⊢
  rw [r.length]
  cases h : ixN cs.length i with
  | none => rw [h] at e; simp at e
  | some j =>
    rw [h] at e
    exact r.get e
theorem CVk.lookup {f : Str} {c : CV} : ∀ {vs : List (Str × V)} {cs : List (Str × CV)}, CVk K H vs cs → cs.lookup f = some c → ∃ v, vs.lookup f = some v ∧ CVR K H v c
  | _, _, .nil, e => by cases e
  | _, _, .cons (k := k) h r, e => by
    rw [List.lookup_cons] at e ⊢
    cases q : f == k with
    | true => rw [q] at e; cases e; exact ⟨_, rfl, h⟩
    | false => rw [q] at e; exact CVk.lookup r e
theorem CVk.length {κ : Type} : ∀ {vs : List (κ × V)} {cs : List (κ × CV)}, CVk K H vs cs → vs.length = cs.length
  | _, _, .nil => rfl
  | _, _, .cons _ r => by rw [List.length_cons, List.length_cons, CVk.length r]
end
/-! ### a region is changed -/
section
variable {C : Ctx} {H0 H H0' H' : Hp} {σ : L2.St} {δ : Dl} {u v : V} {m : Sto}
theorem reg_at {b : Addr} {c : Cell} (h : RR C H0 H v (.reg u m)) (e : m.at b = some c) : H0 b = none ∧ C.He b = none ∧ C.ex ≠ some b ∧ ∃ o, H b = some o ∧ CellR C.K H0 o c := h.2.2 b c (sat_mem e)
/-- a cell is written -/
theorem St.putR {b : Addr} {c d : Cell} {o : HO} (s : St C H0 H σ δ) (i : Nat) (e : δ[i]? = some (some (.reg u m))) (eb : m.at b = some d) (ho : CellR C.K H0 o c) : St C H0 (upd H b o) σ (δ.set i (some (.reg u (m.put b c)))) := by
  obtain ⟨v, e1, hv⟩ := s.sl i _ e
  obtain ⟨k1, k2, k3⟩ := hv
  have hb := k3 b d (sat_mem eb)
  refine s.put' i e e1 (sat_dom eb) (fun a ha => by show a ∈ m.map (·.1); rw [← sput_dom m b c]; exact ha) ⟨k1, by rw [sput_dom]; exact k2, fun a c' hm => ?_⟩
  rcases sput_mem hm with ⟨rfl, rfl⟩ | ⟨n, hm⟩
  · exact ⟨hb.1, hb.2.1, hb.2.2.1, o, upd_same, ho⟩
  · obtain ⟨h1, h2, h3, o', h4, h5⟩ := k3 a c' hm
    exact ⟨h1, h2, h3, o', by rw [upd_ne n]; exact h4, h5⟩
/-- slot i gets other cells, some of them new -/
theorem St.reset {r' : R} {v' : V} (s : St C H0 H σ δ) (i : Nat) (hr : RR C H0 H v' r') (hf : ∀ b, b ∈ r'.adr → ∀ (j : Nat) (p : R), j ≠ i → δ[j]? = some (some p) → b ∉ p.adr) : St C H0 H (σ.set i (some v')) (δ.set i (some r')) where
  toWf := s.toWf
  len := by rw [List.length_set, List.length_set, s.len]
  sl := fun j p e => by
    rcases set_at e with ⟨q, rfl⟩ | ⟨q, e⟩
    · subst q
      have hd : i < δ.length := by
        have := (List.getElem?_eq_some_iff.mp e).1
        rwa [List.length_set] at this
      have : i < σ.length := by rw [s.len]; exact hd
      exact ⟨v', by rw [List.getElem?_set_self this], hr⟩
    · obtain ⟨u, e1, h1⟩ := s.sl j p e
      exact ⟨u, by rw [List.getElem?_set_ne q]; exact e1, h1⟩
  sep := fun j k b c p q n e1 e2 a1 a2 => by
    rcases set_at e1 with ⟨q1, rfl⟩ | ⟨q1, z1⟩ <;> rcases set_at e2 with ⟨q2, rfl⟩ | ⟨q2, z2⟩
    · exact absurd (q1.symm.trans q2) n
    · intro z; subst z; exact hf b a1 k q (fun z => q2 z.symm) z2 a2
    · intro z; subst z; exact hf b a2 j p (fun z => q1 z.symm) z1 a1
    · exact s.sep j k b c p q n z1 z2 a1 a2
theorem St.fresh {b : Addr} (s : St C H0 H σ δ) (hb : H b = Option.none) {j : Nat} {p : R} (e : δ[j]? = some (some p)) : b ∉ p.adr := fun h => by
  obtain ⟨v, _, hv⟩ := s.sl j p e
  obtain ⟨o, k⟩ := hv.live h
  rw [hb] at k; cases k
theorem set_same {i : Nat} {v : V} (e : σ[i]? = some (some v)) : σ.set i (some v) = σ := by
  refine List.ext_getElem? fun j => ?_
  by_cases q : i = j
  · subst q
    rw [List.getElem?_set_self (List.getElem?_eq_some_iff.mp e).1, e]
  · rw [List.getElem?_set_ne q]
/-- a new cell joins the region; s0: the state ahead of it -/
theorem St.join {b : Addr} {c : Cell} {o : HO} {Hb : Hp} {H0b : Hp} (s : St C H0 H σ δ) (i : Nat) (e : δ[i]? = some (some (.reg u m))) (s0 : St C H0b Hb σ δ) (hb : Hb b = Option.none) (h0 : H0 b = Option.none) (h : H b = some o) (ho : CellR C.K H0 o c) : b ∉ m.map (·.1) ∧ St C H0 H σ (δ.set i (some (.reg u (m ++ [(b, c)])))) := by
  have nb : b ∉ m.map (·.1) := s0.fresh hb e
  obtain ⟨v, e1, hv⟩ := s.sl i _ e
  obtain ⟨k1, k2, k3⟩ := hv
  have hn := Go.he s0.toWf hb
  refine ⟨nb, ?_⟩
  have := s.reset (r' := .reg u (m ++ [(b, c)])) (v' := v) i ⟨k1, ?_, fun a d hm => ?_⟩ (fun a ha j p n hj => ?_)
  · rw [set_same e1] at this
    exact this
  · rw [List.map_append, List.map_singleton]
    exact List.nodup_append.mpr ⟨k2, by simp, fun x hx y hy => by rw [List.mem_singleton.mp hy]; exact fun z => nb (by have z : x = b := z; rw [← z]; exact hx)⟩
  · rcases List.mem_append.mp hm with hm | hm
    · exact k3 a d hm
    · cases List.mem_singleton.mp hm
      exact ⟨h0, hn.1, hn.2, o, h, ho⟩
  · have ha : a ∈ (m ++ [(b, c)]).map (·.1) := ha
    rw [List.map_append, List.map_singleton] at ha
    rcases List.mem_append.mp ha with ha | ha
    · exact fun hp => s.sep i j a a _ _ (fun z => n z.symm) e hj ha hp rfl
    · rw [List.mem_singleton.mp ha]
      exact s0.fresh hb hj
end
/-! ### expressions that may lead into a region -/
abbrev DV := Dl → (CV → Prop) → Prop
def SmV (C : Ctx) (te : TE) (dv : DV) : Prop := ∀ (σ : L2.St) (δ : Dl) (H0 H : Hp) (Φ : CV → Prop) (Q : VK), St C H0 H σ δ → dv δ Φ →
  (∀ H0' H' v c, Go C H0 H H0' H' → CVR C.K H0' v c → Φ c → Q v H') → te σ H Q
@[simp] def rootC : R → Option CV
  | .d x => some (.d x)
  | .raw (.ref b) => some (.r b)
  | .reg (.ref b) _ => some (.r b)
  | _ => none
section
variable {C : Ctx} {H0 H H0' H' : Hp} {σ : L2.St} {δ : Dl} {f f1 f2 : Bool} {te ta tb tc : TE} {de da db dk : DE} {dv dw : DV} {g : TG} {dg : DG} {tl th : TO} {dl dh : DP} {o : DO} {tas : TA} {das : DA}
@[simp] def vVar (i : Nat) : DV := fun δ Φ => ∃ r c, δ[i]? = some (some r) ∧ rootC r = some c ∧ Φ c
theorem smv_var (i : Nat) : SmV C (tVar i) (vVar i) := fun σ δ H0 H Φ Q s ⟨r, c, e, ec, p⟩ q => by
  obtain ⟨v, e1, h⟩ := s.sl i _ e
  refine ⟨v, e1, q H0 H v c (.refl s.toWf) ?_ p⟩
  cases r with
  | d x => cases ec; exact h
  | raw u =>
    cases u <;> cases ec
    exact h
  | reg u m =>
    cases u <;> cases ec
    exact h.1
  | _ => cases ec
@[simp] def vOf (de : DE) : DV := fun δ Φ => de δ fun x => Φ (.d x)
theorem Sm.v (h : Sm C true te de) : SmV C te (vOf de) := fun σ δ H0 H Φ Q s w q => h σ δ H0 H _ _ s w fun H0' H' v x g r p => q H0' H' v (.d x) g r p
@[simp] def dV (dv : DV) : DE := fun δ Φ => dv δ fun c => ∃ x, c = .d x ∧ Φ x
theorem SmV.sm (h : SmV C te dv) : Sm C f te (dV dv) := fun σ δ H0 H Φ Q s w q => h σ δ H0 H _ _ s w fun H0' H' v c g r ⟨x, e, p⟩ => by
  subst e
  exact q H0' H' v x g (Rp.mono g.wf.to r) p
/-- an item of an owned list -/
@[simp] def vIx (i : Nat) (dv : DV) (dk : DE) : DV := fun δ Φ => dv δ fun c => dk δ fun y => ∃ b u m xs k z, c = .r b ∧ y = .int k ∧ δ[i]? = some (some (.reg u m)) ∧ m.at b = some (.l xs) ∧ atI xs k = some z ∧ Φ z
theorem smv_ix (i : Nat) (hv : SmV C ta dv) (hk : Sm C f2 tb dk) : SmV C (tOp (rIx C.K) ta tb) (vIx i dv dk) := fun σ δ H0 H Φ Q s w q =>
  hv σ δ H0 H _ _ s w fun H01 H1 v c g1 r1 w1 => hk σ δ H01 H1 _ _ (s.go g1) w1 fun H02 H2 y0 y g2 r2 ⟨b, u, m, xs, k, z, e1, e2, e3, e4, e5, p⟩ => by
    subst e1 e2
    have r1 : v = .ref b := r1
    subst r1
    cases r2
    have s2 := (s.go g1).go g2
    obtain ⟨v', _, hv'⟩ := s2.sl i _ e3
    obtain ⟨_, _, _, o, ho, vs, rfl, hc⟩ := reg_at hv' e4
    obtain ⟨w', ew, rw'⟩ := atC hc e5
    exact .inl ⟨_, _, k, w', rfl, rfl, SqL.of ho, ew, q H02 H2 w' z (g1.trans g2) rw' p⟩
/-- the value at a key of an owned dict -/
theorem CVk.val {K : PySem.W.Frag} {k : Key} {c : CV} : ∀ {vs : List (Key × V)} {cs : List (Key × CV)}, CVk K H vs cs → (cs.find? fun e => decide (e.1 = k)).map (·.2) = some c → ∃ v, valV vs k = some v ∧ CVR K H v c
  | _, _, .nil, e => by cases e
  | _, _, .cons (k := l) (v := v) h r, e => by
    rw [List.find?_cons] at e
    by_cases q : l = k
    · simp [q] at e
      subst e
      exact ⟨v, valV_pos (p := (l, v)) q, h⟩
    · simp [q] at e
      obtain ⟨v', h1, h2⟩ := CVk.val r (by simpa using e)
      exact ⟨v', by rw [valV_neg (p := (l, v)) q]; exact h1, h2⟩
def getC (es : List (Key × CV)) (k : Key) : Option CV := (es.find? fun e => decide (e.1 = k)).map (·.2)
@[simp] def vKey (i : Nat) (dv : DV) (dk : DE) : DV := fun δ Φ => dv δ fun c => dk δ fun y => ∃ b u m es k z, c = .r b ∧ y = keyD k ∧ δ[i]? = some (some (.reg u m)) ∧ m.at b = some (.D es) ∧ getC es k = some z ∧ Φ z
theorem smv_key (i : Nat) (hv : SmV C ta dv) (hk : Sm C f2 tb dk) : SmV C (tDGet ta tb) (vKey i dv dk) := fun σ δ H0 H Φ Q s w q =>
  hv σ δ H0 H _ _ s w fun H01 H1 v c g1 r1 w1 => hk σ δ H01 H1 _ _ (s.go g1) w1 fun H02 H2 y0 y g2 r2 ⟨b, u, m, es, k, z, e1, e2, e3, e4, e5, p⟩ => by
    subst e1 e2
    have r1 : v = .ref b := r1
    subst r1
    obtain rfl := rp_key r2
    have s2 := (s.go g1).go g2
    obtain ⟨v', _, hv'⟩ := s2.sl i _ e3
    obtain ⟨_, _, _, o, ho, vs, rfl, hc⟩ := reg_at hv' e4
    obtain ⟨w', ew, rw'⟩ := hc.val e5
    refine ⟨b, w', rfl, ?_, q H02 H2 w' z (g1.trans g2) rw' p⟩
    rw [← ew]
    exact DGet.k ho
/-- a field -/
@[simp] def vFld (i : Nat) (A : Addr) (n : Str) (dv : DV) : DV := fun δ Φ => dv δ fun c => ∃ b u m dx fs z, c = .r b ∧ δ[i]? = some (some (.reg u m)) ∧ m.at b = some (.I A dx fs) ∧ fs.lookup n = some z ∧ Φ z
theorem smv_fld (i : Nat) {A : Addr} {n : Str} (hc : Cls C.K A) (hn : NoAttr C.K A n) (hv : SmV C ta dv) : SmV C (tFld C.K ta n) (vFld i A n dv) := fun σ δ H0 H Φ Q s w q =>
  hv σ δ H0 H _ _ s w fun H01 H1 v c g1 r1 ⟨b, u, m, dx, fs, z, e1, e3, e4, e5, p⟩ => by
    subst e1
    have r1 : v = .ref b := r1
    subst r1
    obtain ⟨v', _, hv'⟩ := (s.go g1).sl i _ e3
    obtain ⟨_, _, _, o, ho, vs, rfl, hk⟩ := reg_at hv' e4
    obtain ⟨w', ew, rw'⟩ := hk.lookup e5
    exact ⟨b, A, dx, vs, w', rfl, ho, hc, hn, ew, q H01 H1 w' z g1 rw' p⟩
/-- how many items -/
@[simp] def dLenV (i : Nat) (dv : DV) : DE := fun δ Φ => dv δ fun c => ∃ b u m xs, c = .r b ∧ δ[i]? = some (some (.reg u m)) ∧ m.at b = some (.l xs) ∧ Φ (.int xs.length)
theorem sm_lenV (i : Nat) (hv : SmV C ta dv) : Sm C f (tCB (fun xs H Q => ∃ x n, xs = [x] ∧ LenV C.K x H n ∧ Q (.int n) H) (tCons ta tNil)) (dLenV i dv) := fun σ δ H0 H Φ Q s w q =>
  hv σ δ H0 H _ _ s w fun H01 H1 v c g1 r1 ⟨b, u, m, xs, e1, e3, e4, p⟩ => by
    subst e1
    have r1 : v = .ref b := r1
    subst r1
    obtain ⟨v', _, hv'⟩ := (s.go g1).sl i _ e3
    obtain ⟨_, _, _, o, ho, vs, rfl, hc⟩ := reg_at hv' e4
    exact ⟨_, _, rfl, .inl ⟨_, SqL.of ho, rfl⟩, by rw [hc.length]; exact q _ _ _ _ g1 (.int _) p⟩
/-- whether it has items -/
@[simp] def dTruV (i : Nat) (dv : DV) : DT := fun δ Φ => dv δ fun c => ∃ b u m xs, c = .r b ∧ δ[i]? = some (some (.reg u m)) ∧ m.at b = some (.l xs) ∧ Φ (!xs.isEmpty)
theorem smt_truV (i : Nat) (hv : SmV C ta dv) : SmT C (fun σ H Q => ta σ H fun x H' => ∃ k, TruV C.K x H' k ∧ Q k H') (dTruV i dv) := fun σ δ H0 H Φ Q s w q =>
  hv σ δ H0 H _ _ s w fun H01 H1 v c g1 r1 ⟨b, u, m, xs, e1, e3, e4, p⟩ => by
    subst e1
    have r1 : v = .ref b := r1
    subst r1
    obtain ⟨v', _, hv'⟩ := (s.go g1).sl i _ e3
    obtain ⟨_, _, _, o, ho, vs, rfl, hc⟩ := reg_at hv' e4
    refine ⟨!xs.isEmpty, .inl ⟨vs, SqL.of ho, ?_⟩, q _ _ _ g1 p⟩
    have := hc.length
    cases vs <;> cases xs <;> simp at this ⊢
/-- looked at as data -/
inductive Lk (m : Sto) : CV → PyData → Prop
  | d (x : PyData) : Lk m (.d x) x
  | l1 {b : Addr} {xs : List PyData} : m.at b = some (.l (xs.map .d)) → Lk m (.r b) (.list xs)
  | l2 {b : Addr} {rows : List (Addr × List PyData)} : m.at b = some (.l (rows.map fun p => .r p.1)) → (∀ p ∈ rows, m.at p.1 = some (.l (p.2.map .d))) → Lk m (.r b) (.list (rows.map fun p => .list p.2))
theorem Lk.rp {m : Sto} {i : Nat} {u v w : V} {c : CV} {x : PyData} (h : Lk m c x) (s : St C H0 H σ δ) (e : RR C H0 H w (.reg u m)) (r : CVR C.K H0 v c) : Rp C.K (loc C false H0 H) v x := by
  have one : ∀ {b : Addr} {xs : List PyData}, m.at b = some (.l (xs.map .d)) → Rp C.K (hid C H) (.ref b) (.list xs) := fun {b xs} h => by
    obtain ⟨_, _, k3, o, ho, vs, rfl, hc⟩ := reg_at e h
    exact .lst (hid_of ho k3) (hc.rpa.mono s.toWf.hid)
  cases h with
  | d x => exact Rp.mono s.toWf.hid r
  | l1 h =>
    have r : v = .ref _ := r
    subst r
    exact one h
  | @l2 b rows h k =>
    have r : v = .ref _ := r
    subst r
    obtain ⟨_, _, k3, o, ho, vs, rfl, hc⟩ := reg_at e h
    refine .lst (hid_of ho k3) ?_
    have hc2 : CVs C.K H0 vs ((rows.map (·.1)).map CV.r) := by rw [List.map_map]; exact hc
    rw [cvs_ref_eq hc2]
    clear ho hc hc2 h
    induction rows with
    | nil => exact .nil
    | cons a rows ih => exact .cons (one (k a (List.mem_cons_self ..))) (ih fun a ha => k a (List.mem_cons_of_mem _ ha))
@[simp] def dLook (i : Nat) (dv : DV) : DE := fun δ Φ => dv δ fun c => ∃ u m x, δ[i]? = some (some (.reg u m)) ∧ Lk m c x ∧ Φ x
theorem sm_look (i : Nat) (hv : SmV C ta dv) : Sm C false ta (dLook i dv) := fun σ δ H0 H Φ Q s w q =>
  hv σ δ H0 H _ _ s w fun H01 H1 v c g1 r1 ⟨u, m, x, e, l, p⟩ => by
    obtain ⟨v', _, hv'⟩ := (s.go g1).sl i _ e
    exact q _ _ _ _ g1 (l.rp (i := i) (s.go g1) hv' r1) p
/-! ### expressions that may make a new owned list in a region -/
abbrev DX := Dl → (Dl → CV → Prop) → Prop
def SmX (C : Ctx) (te : TE) (dx : DX) : Prop := ∀ (σ : L2.St) (δ : Dl) (H0 H : Hp) (Φ : Dl → CV → Prop) (Q : VK), St C H0 H σ δ → dx δ Φ →
  (∀ H0' H' v c δ', Same H0 H0' → St C H0' H' σ δ' → CVR C.K H0' v c → Φ δ' c → Q v H') → te σ H Q
@[simp] def xV (dv : DV) : DX := fun δ Φ => dv δ fun c => Φ δ c
theorem SmV.x (h : SmV C te dv) : SmX C te (xV dv) := fun σ δ H0 H Φ Q s w q => h σ δ H0 H _ _ s w fun H0' H' v c g r p => q H0' H' v c δ g.fz (s.go g) r p
/-- an address that the region has not -/
def NewIn (b : Addr) (m : Sto) : Prop := b ∉ m.map (·.1)
@[simp] theorem newIn_nil (b : Addr) : NewIn b [] ↔ True := by simp [NewIn]
@[simp] theorem newIn_cons (b a : Addr) (c : Cell) (m : Sto) : NewIn b ((a, c) :: m) ↔ b ≠ a ∧ NewIn b m := by
  unfold NewIn
  rw [List.map_cons, List.mem_cons]
  exact not_or
@[simp] def xNew (i : Nat) (o : DO) : DX := fun δ Φ => o δ fun xs => ∃ u m, δ[i]? = some (some (.reg u m)) ∧ ∀ b, NewIn b m → Φ (δ.set i (some (.reg u (m ++ [(b, .l (xs.map .d))])))) (.r b)
theorem smx_new (i : Nat) (h : SmO C te o) : SmX C te (xNew i o) := fun σ δ H0 H Φ Q s w q =>
  h σ δ H0 H _ _ s w fun H0' H' a vs xs g h1 h2 h3 r ⟨u, m, e, p⟩ => by
    obtain ⟨nb, s'⟩ := (s.go g).join i e s h1 h2 h3 (c := .l (xs.map .d)) ⟨vs, rfl, r.cvs⟩
    exact q H0' H' _ (.r a) _ g.fz s' rfl (p a nb)
/-- a cut of an owned list -/
def cutC (xs : List CV) (lo hi : Option Int) : List CV := List.take (HT.sIx xs.length xs.length hi - HT.sIx xs.length 0 lo) (List.drop (HT.sIx xs.length 0 lo) xs)
theorem cvs_cut {K : PySem.W.Frag} {vs : List V} {xs : List CV} (r : CVs K H vs xs) (lo hi : Option Int) : CVs K H (cutV vs lo hi) (cutC xs lo hi) := by
  unfold cutV cutC
  rw [r.length]
  exact (r.drop _).take _
@[simp] def xCut (i : Nat) (dv : DV) (dl dh : DP) : DX := fun δ Φ => dv δ fun c => dl δ fun lo => dh δ fun hi => ∃ b u m xs, c = .r b ∧ δ[i]? = some (some (.reg u m)) ∧ m.at b = some (.l xs) ∧ ∀ a, NewIn a m → Φ (δ.set i (some (.reg u (m ++ [(a, .l (cutC xs lo hi))])))) (.r a)
theorem smx_cut (i : Nat) (hv : SmV C ta dv) (hl : SmP C tl dl) (hh : SmP C th dh) : SmX C (tSl (rSlL C.K) ta tl th) (xCut i dv dl dh) := fun σ δ H0 H Φ Q s w q =>
  hv σ δ H0 H _ _ s w fun H01 H1 v c g1 r1 w1 => hl σ δ H01 H1 _ _ (s.go g1) w1 fun H02 H2 lo g2 w2 => hh σ δ H02 H2 _ _ ((s.go g1).go g2) w2 fun H03 H3 hi g3 ⟨b, u, m, xs, e1, e3, e4, p⟩ => by
    subst e1
    have r1 : v = .ref b := r1
    subst r1
    have s3 := ((s.go g1).go g2).go g3
    obtain ⟨v', _, hv'⟩ := s3.sl i _ e3
    obtain ⟨_, _, _, o, ho, vs, rfl, hc⟩ := reg_at hv' e4
    refine ⟨b, vs, rfl, SqL.of ho, fun l hl => ?_⟩
    have gn := Go.free (o := .lst (cutV vs lo hi)) s3.toWf hl
    obtain ⟨nb, s'⟩ := (s3.go gn).join i e3 s3 hl (s3.toWf.none hl) upd_same (c := .l (cutC xs lo hi)) ⟨_, rfl, cvs_cut hc lo hi⟩
    exact q H03 _ _ (.r l) _ (((g1.fz.trans g2.fz).trans g3.fz).trans gn.fz) s' rfl (p l nb)
end
/-! ### statements -/
section
variable {C : Ctx} {H0 H H0' H' : Hp} {σ : L2.St} {δ : Dl} {f f1 f2 : Bool} {te ta tb tc : TE} {de da db dk : DE} {dv dw : DV} {dx : DX} {g : TG} {dg : DG} {o : DO} {ts : TS} {ds : DS}
/-- slot = an owned object's name -/
@[simp] def dAsgV (j : Nat) (dx : DX) : DS := fun E δ => dx δ fun δ' c => ∃ b, c = .r b ∧ E.nx (δ'.set j (some (.raw (.ref b))))
theorem sms_asgV (j : Nat) (h : SmX C te dx) : SmS C (tAsg te (gName j)) (dAsgV j dx) := fun σ δ H0 H E D s w e =>
  h σ δ H0 H _ _ s w fun H0' H' v c δ' gr s' r ⟨b, ec, p⟩ => by
    subst ec
    have r : v = .ref b := r
    subst r
    exact e.nx H0' H' _ _ gr (s'.set_raw j _) p
/-- the region's own slot leads elsewhere in it -/
@[simp] def dRoot (i : Nat) (dx : DX) : DS := fun E δ => dx δ fun δ' c => ∃ b u m, c = .r b ∧ δ'[i]? = some (some (.reg u m)) ∧ E.nx (δ'.set i (some (.reg (.ref b) m)))
theorem sms_root (i : Nat) (h : SmX C te dx) : SmS C (tAsg te (gName i)) (dRoot i dx) := fun σ δ H0 H E D s w e =>
  h σ δ H0 H _ _ s w fun H0' H' v c δ' gr s' r ⟨b, u, m, ec, ei, p⟩ => by
    subst ec
    have r : v = .ref b := r
    subst r
    obtain ⟨v', e1, hv⟩ := s'.sl i _ ei
    exact e.nx H0' H' _ _ gr (s'.reset (r' := .reg (.ref b) m) i (v' := .ref b) ⟨rfl, hv.2.1, hv.2.2⟩ fun a ha j p n hj hp => s'.sep i j a a _ _ (fun z => n z.symm) ei hj ha hp rfl) p
/-- X[k] = e -/
@[simp] def dSetIV (i : Nat) (dx : DX) (dv : DV) (dk : DE) : DS := fun E δ => dx δ fun δ' c => dv δ' fun c1 => dk δ' fun y => ∃ b u m xs k j, c1 = .r b ∧ y = .int k ∧ δ'[i]? = some (some (.reg u m)) ∧ m.at b = some (.l xs) ∧ ixN xs.length k = some j ∧ E.nx (δ'.set i (some (.reg u (m.put b (.l (xs.set j c))))))
theorem sms_setIV (i : Nat) (h : SmX C te dx) (hv : SmV C ta dv) (hk : Sm C f2 tb dk) : SmS C (tAsg te (gSub ta tb rSetL)) (dSetIV i dx dv dk) := fun σ δ H0 H E D s w e =>
  h σ δ H0 H _ _ s w fun H01 H1 v c δ1 gr s1 r w1 => hv σ δ1 H01 H1 _ _ s1 w1 fun H02 H2 v1 c1 g2 r2 w2 => hk σ δ1 H02 H2 _ _ (s1.go g2) w2 fun H03 H3 y0 y g3 r3 ⟨b, u, m, xs, k, j, e1, e2, e3, e4, e5, p⟩ => by
    subst e1 e2
    have r2 : v1 = .ref b := r2
    subst r2
    cases r3
    have s3 := (s1.go g2).go g3
    obtain ⟨v', _, hv'⟩ := s3.sl i _ e3
    obtain ⟨_, _, _, o, ho, vs, rfl, hc⟩ := reg_at hv' e4
    exact ⟨b, vs, k, j, rfl, rfl, ho, by rw [hc.length]; exact e5, e.nx H03 _ σ _ ((gr.trans g2.fz).trans g3.fz) (s3.putR (c := .l (xs.set j c)) i e3 e4 ⟨_, rfl, hc.set ((r.mono g2.fz).mono g3.fz) j⟩) p⟩
/-- X.append(e) -/
@[simp] def dAppV (i : Nat) (dv : DV) (dx : DX) : DS := fun E δ => dv δ fun c1 => ∃ b u0 m0 xs0, c1 = .r b ∧ δ[i]? = some (some (.reg u0 m0)) ∧ m0.at b = some (.l xs0) ∧ dx δ fun δ' c => ∃ u m xs, δ'[i]? = some (some (.reg u m)) ∧ m.at b = some (.l xs) ∧ xs.length < sizeLine ∧ E.nx (δ'.set i (some (.reg u (m.put b (.l (xs ++ [c]))))))
theorem sms_appV (i : Nat) (hv : SmV C ta dv) (h : SmX C te dx) : SmS C (tDrop (tBM C.K "list" rAppend ta (tCons te tNil))) (dAppV i dv dx) := fun σ δ H0 H E D s w e =>
  hv σ δ H0 H _ _ s w fun H01 H1 v1 c1 g1 r1 ⟨b, u0, m0, xs0, e1, e2, e3, w1⟩ => by
    subst e1
    have r1 : v1 = .ref b := r1
    subst r1
    obtain ⟨v', _, hv'⟩ := (s.go g1).sl i _ e2
    obtain ⟨_, _, _, o, ho, vs, rfl, hc⟩ := reg_at hv' e3
    refine ⟨.inl ⟨rfl, vs, SqL.of ho⟩, h σ δ H01 H1 _ _ (s.go g1) w1 fun H02 H2 v c δ' gr s' r ⟨u, m, xs, e4, e5, hl, p⟩ => ?_⟩
    obtain ⟨v2, _, hv2⟩ := s'.sl i _ e4
    obtain ⟨_, _, _, o2, ho2, vs2, rfl, hc2⟩ := reg_at hv2 e5
    exact ⟨b, vs2, v, rfl, rfl, ho2, by rw [hc2.length]; exact hl, e.nx H02 _ σ _ (g1.fz.trans gr) (s'.putR (c := .l (xs ++ [c])) i e4 e5 ⟨_, rfl, hc2.snoc r⟩) p⟩
/-- target = X.pop() -/
@[simp] def dPopV (i : Nat) (dv : DV) (dg : DG) : DS := fun E δ => dv δ fun c1 => ∃ b u m xs x, c1 = .r b ∧ δ[i]? = some (some (.reg u m)) ∧ m.at b = some (.l (xs ++ [.d x])) ∧ dg x (δ.set i (some (.reg u (m.put b (.l xs))))) E.nx
theorem sms_popV (i : Nat) (hv : SmV C ta dv) (hg : SmG C g dg) : SmS C (tAsg (tBM0 C.K "list" rPop ta) g) (dPopV i dv dg) := fun σ δ H0 H E D s w e =>
  hv σ δ H0 H _ _ s w fun H01 H1 v1 c1 g1 r1 ⟨b, u, m, xs, x, e1, e2, e3, w1⟩ => by
    subst e1
    have r1 : v1 = .ref b := r1
    subst r1
    obtain ⟨v', _, hv'⟩ := (s.go g1).sl i _ e2
    obtain ⟨_, _, _, o, ho, vs, rfl, hc⟩ := reg_at hv' e3
    obtain ⟨us, y, rfl, hc1, hy⟩ := hc.last
    refine ⟨.inl ⟨rfl, _, SqL.of ho⟩, b, _, y, rfl, rfl, ho, by simp, ?_⟩
    rw [List.dropLast_concat]
    exact hg y x σ _ H01 _ _ _ ((s.go g1).putR (c := .l xs) i e2 e3 ⟨_, rfl, hc1⟩) hy w1 fun σ' δ' s' w' => e.nx H01 _ σ' δ' g1.fz s' w'
/-- slot = [e], e a new list -/
@[simp] def dSetN1 (i : Nat) (o : DO) : DS := fun E δ => o δ fun xs => ∀ a b, a ≠ b → E.nx (δ.set i (some (.reg (.ref a) [(a, .l [.r b]), (b, .l (xs.map .d))])))
theorem sms_setN1 (i : Nat) (h : SmO C te o) : SmS C (tAsg (tLst (tCons te tNil)) (gName i)) (dSetN1 i o) := fun σ δ H0 H E D s w e =>
  h σ δ H0 H _ _ s w fun H01 H1 b vs xs g h1 h2 h3 r p => by
    refine ⟨by show 1 ≤ sizeLine; decide, fun a ha => ?_⟩
    have s1 := s.go g
    have gn := Go.free (o := .lst [.ref b]) g.wf ha
    have ne : a ≠ b := fun z => by rw [z, h3] at ha; cases ha
    have hb := Go.he s.toWf h1
    have ha' := Go.he g.wf ha
    refine e.nx H01 _ _ _ (g.fz.trans gn.fz) ((s1.go gn).reset i (v' := .ref a) (r' := .reg (.ref a) [(a, .l [.r b]), (b, .l (xs.map .d))]) ⟨rfl, by simp [ne], fun a' c hm => ?_⟩ fun c hc j p n hj => ?_) (p a b ne)
    · rcases List.mem_cons.mp hm with hm | hm
      · cases hm
        exact ⟨g.wf.none ha, ha'.1, ha'.2, _, upd_same, _, rfl, .cons rfl .nil⟩
      · cases List.mem_singleton.mp hm
        exact ⟨h2, hb.1, hb.2, _, by rw [upd_ne (fun z => ne z.symm)]; exact h3, _, rfl, r.cvs⟩
    · rcases List.mem_cons.mp hc with hc | hc
      · subst hc; exact s1.fresh ha hj
      · cases List.mem_singleton.mp hc
        exact s.fresh h1 hj
end
end VL

/-! regions lent to a method; fields; new instances. -/
namespace VL
open PySem PySem.Spec PyProof.Rows L2
def lend (m : Sto) (H : Hp) : Hp := fun b => if b ∈ m.map (·.1) then none else H b
theorem lend_in {m : Sto} {H : Hp} {b : Addr} (h : b ∈ m.map (·.1)) : lend m H b = none := if_pos h
theorem lend_out {m : Sto} {H : Hp} {b : Addr} (h : b ∉ m.map (·.1)) : lend m H b = H b := if_neg h
abbrev VSpM := V → Sto → List R → (Sto → PyData → Prop) → Prop
def toSpM (K : PySem.W.Frag) (n : Nat) (p : VSpM) : Sp := fun vs H Q _ => vs.length = n ∧ ∃ (ex : Option Addr) (H0 : Hp) (u : V) (m : Sto) (ws : List V) (rs : List R) (Φ : Sto → PyData → Prop), vs = u :: ws ∧ Wf ⟨K, ex, lend m H, H0⟩ H0 H ∧ RR ⟨K, ex, lend m H, H0⟩ H0 H u (.reg u m) ∧ RRas K ex (lend m H) H0 ws rs ∧ p u m rs Φ ∧
  ∀ H0' H' v m' x, Wf ⟨K, ex, lend m H, H0⟩ H0' H' → RR ⟨K, ex, lend m H, H0⟩ H0' H' u (.reg u m') → Rp K H0' v x → Φ m' x → Q v H'
section
variable {C : Ctx} {H0 H H0' H' : Hp} {σ : L2.St} {δ : Dl} {u v : V} {m m' : Sto}
theorem RR.move {r : R} (h : RR C H0 H v r) (gr : Same H0 H0') (k : ∀ b, b ∈ r.adr → H0' b = none ∧ ∀ o, H b = some o → H' b = some o) : RR C H0' H' v r := by
  cases r with
  | d x => exact Rp.mono gr h
  | own a xs =>
    obtain ⟨e, h1, h2, h3, vs, h4, h5⟩ := h
    have := k a (List.mem_singleton.mpr rfl)
    exact ⟨e, this.1, h2, h3, vs, this.2 _ h4, h5.mono gr⟩
  | drw => exact h
  | raw u => exact h
  | scr ns => obtain ⟨a, e, q⟩ := h; exact ⟨a, e, gr.seq q⟩
  | fn F => obtain ⟨a, c, e, q, q2⟩ := h; exact ⟨a, c, e, gr _ _ q, gr _ _ q2⟩
  | dct a es =>
    obtain ⟨e, h1, h2, h3, vs, h4, h5⟩ := h
    have := k a (List.mem_singleton.mpr rfl)
    exact ⟨e, this.1, h2, h3, vs, this.2 _ h4, h5.mono gr⟩
  | reg u m =>
    obtain ⟨e, nd, h⟩ := h
    refine ⟨e, nd, fun a c hm => ?_⟩
    obtain ⟨h1, h2, h3, o, h4, h5⟩ := h a c hm
    have := k a (List.mem_map.mpr ⟨_, hm, rfl⟩)
    exact ⟨this.1, h2, h3, o, this.2 _ h4, h5.mono gr⟩
theorem reg_ne {w : V} {b : Addr} (h : RR C H0 H w (.reg u m)) (e : C.ex = some b) : b ∉ m.map (·.1) := fun hb => (h.adr hb).2.2 e
/-- what the callee sees -/
theorem Wf.lent {w : V} (w0 : Wf C H0 H) (h : RR C H0 H w (.reg u m)) : Wf ⟨C.K, C.ex, lend m H, H0⟩ H0 H ∧ RR ⟨C.K, C.ex, lend m H, H0⟩ H0 H u (.reg u m) := by
  refine ⟨⟨w0.sub, fun b o _ q => ?_, Same.refl _, fun b o e => .inl e, fun p e => ?_⟩, rfl, h.2.1, fun a c hm => ?_⟩
  · have q : lend m H b = some o := q
    by_cases hb : b ∈ m.map (·.1)
    · rw [lend_in hb] at q; cases q
    · rw [lend_out hb] at q; exact q
  · have d := w0.dr p e
    refine ⟨d.1, d.2.1, ?_⟩
    show IsTb (lend m H) p ↔ IsTb H p
    unfold IsTb
    rw [lend_out (reg_ne h e)]
  · obtain ⟨h1, h2, h3, o, h4, h5⟩ := h.2.2 a c hm
    exact ⟨h1, lend_in (List.mem_map.mpr ⟨_, hm, rfl⟩), h3, o, h4, h5⟩
theorem RRas.lent {w : V} (w0 : Wf C H0 H) (h : RR C H0 H w (.reg u m)) : ∀ {vs : List V} {rs : List R}, RRas C.K C.ex C.He H0 vs rs → RRas C.K C.ex (lend m H) H0 vs rs
  | _, _, .nil => .nil
  | _, _, .cons (r := r) q qs => by
    refine .cons ?_ (RRas.lent w0 h qs)
    cases r with
    | drw =>
      obtain ⟨p, e1, e2, e3⟩ := q
      refine ⟨p, e1, e2, fun z => e3 ((w0.dr p e1).2.2.mpr ?_)⟩
      unfold IsTb at z ⊢
      rw [lend_out (reg_ne h e1)] at z
      exact z
    | d x => exact q
    | own a xs => exact q
    | raw u => exact q
    | scr ns => exact q
    | fn F => exact q
    | dct a es => exact q
    | reg u m => exact q
/-- behind the call -/
theorem St.lend (s : St C H0 H σ δ) (i : Nat) (e : δ[i]? = some (some (.reg u m))) (g : Wf ⟨C.K, C.ex, VL.lend m H, H0⟩ H0' H') (h' : RR ⟨C.K, C.ex, VL.lend m H, H0⟩ H0' H' u (.reg u m')) : Same H0 H0' ∧ St C H0' H' σ (δ.set i (some (.reg u m'))) := by
  obtain ⟨w, e1, hw⟩ := s.sl i _ e
  have ew : w = u := hw.1
  subst ew
  have he : ∀ {b : Addr}, VL.lend m H b = Option.none → C.ex ≠ some b → C.He b = Option.none := fun {b} q n => by
    by_cases hb : b ∈ m.map (·.1)
    · exact (hw.adr hb).2.1
    · rw [lend_out hb] at q
      cases z : C.He b with
      | none => rfl
      | some y => rw [s.kp b y n z] at q; cases q
  have nex : ∀ {b : Addr} {o : HO}, H0' b = some o → C.ex ≠ some b := fun {b o} q n => by
    have := (g.dr b n).no
    rw [q] at this; cases this
  have wf' : Wf C H0' H' := by
    refine ⟨g.sub, fun b o n q => ?_, s.fz.trans g.fz, fun b o q => ?_, fun p q => ?_⟩
    · have hb : b ∉ m.map (·.1) := fun z => by rw [(hw.adr z).2.1] at q; cases q
      exact g.kp b o n (by show VL.lend m H b = some o; rw [lend_out hb]; exact s.kp b o n q)
    · rcases g.nw b o q with z | z
      · exact s.nw b o z
      · exact .inr (he z (nex q))
    · have d1 := s.dr p q
      have d2 := g.dr p q
      refine ⟨d2.1, d2.2.1, d1.2.2.trans (Iff.trans ?_ d2.2.2)⟩
      show IsTb H p ↔ IsTb (VL.lend m H) p
      unfold IsTb
      rw [lend_out (reg_ne hw q)]
  have alive : ∀ {j : Nat} {p : R} {b : Addr}, j ≠ i → δ[j]? = some (some p) → b ∈ p.adr → b ∉ m.map (·.1) ∧ H0' b = Option.none ∧ ∀ o, H b = some o → H' b = some o := fun {j p b} n hj hb => by
    obtain ⟨v, _, hv⟩ := s.sl j p hj
    obtain ⟨k1, k2, k3⟩ := hv.adr hb
    have nm : b ∉ m.map (·.1) := fun z => s.sep j i b b p _ n hj e hb z rfl
    refine ⟨nm, ?_, fun o q => g.kp b o k3 (by show VL.lend m H b = some o; rw [lend_out nm]; exact q)⟩
    cases q : H0' b with
    | none => rfl
    | some o =>
      obtain ⟨o', ho⟩ := hv.live hb
      rcases g.nw b o q with z | z
      · have z : H0 b = some o := z
        rw [k1] at z; cases z
      · have z : VL.lend m H b = Option.none := z
        rw [show VL.lend m H b = H b from lend_out nm, ho] at z; cases z
  refine ⟨g.fz, wf', by rw [List.length_set, s.len], fun j p q => ?_, fun j k b c p q n q1 q2 a1 a2 => ?_⟩
  · rcases set_at q with ⟨z, rfl⟩ | ⟨z, q⟩
    · subst z
      refine ⟨w, e1, rfl, h'.2.1, fun a c hm => ?_⟩
      obtain ⟨k1, k2, k3, o, k4, k5⟩ := h'.2.2 a c hm
      exact ⟨k1, he k2 k3, k3, o, k4, k5⟩
    · obtain ⟨v, f1, f2⟩ := s.sl j p q
      exact ⟨v, f1, f2.move g.fz fun b hb => (alive (fun z' => z z'.symm) q hb).2⟩
  · have new : ∀ {j : Nat} {p : R} {b c : Addr}, j ≠ i → δ[j]? = some (some p) → b ∈ p.adr → c ∈ m'.map (·.1) → b ≠ c := fun {j p b c} n hj hb hc z => by
      subst z
      obtain ⟨v, _, hv⟩ := s.sl j p hj
      obtain ⟨o, ho⟩ := hv.live hb
      have nm := (alive n hj hb).1
      have this : VL.lend m H b = Option.none := (h'.adr (a := b) hc).2.1
      rw [show VL.lend m H b = H b from lend_out nm, ho] at this
      cases this
    rcases set_at q1 with ⟨z1, y1⟩ | ⟨z1, y1⟩ <;> rcases set_at q2 with ⟨z2, y2⟩ | ⟨z2, y2⟩
    · exact absurd (z1.symm.trans z2) n
    · rw [y1] at a1; exact (new (fun z => z2 z.symm) y2 a2 a1).symm
    · rw [y2] at a2; exact new (fun z => z1 z.symm) y1 a1 a2
    · exact s.sep j k b c p q n y1 y2 a1 a2
end
/-! ### a method's own walk -/
theorem fn_okM {P : Program} {w : World} {K : PySem.W.Frag} {mg : Str → Option Value} {base : Heap} {x qual : Str} {st : Stmt} {fa : Addr} {fd : FuncData} {N ps : List Str} {k : Nat} {p : VSpM}
    (F : Fun K x qual st fa fd) (S : FnScope N ps (defScope st))
    (hbody : ∀ (cdv : Value) (A : Around) (outer : List Env) (s : Shared) (H : Hp) (E : XK), Room k (A.deeper (PyProof.Rows.envOfC qual (defScope st) s.heap.objs.size fa cdv)) →
      ∃ t, PSs (cxOf CX0 P w K mg base N qual (defScope st) fa cdv A outer s H E).nox (defBody st) t ∧ ∃ d : DS, (∀ (ex : Option Addr) (He Hf : Hp), SmS ⟨K, ex, He, Hf⟩ t d) ∧ ∀ u m rs Φ, (m.map (·.1)).Nodup → p u m rs Φ →
        d { nx := fun δ => ∃ m', δ[0]? = some (some (.reg u m')) ∧ Φ m' .none, rt := fun r => ∃ m' x, r = .m u m' x ∧ Φ m' x } (startD N.length (.reg u m :: rs))) : FnOk P w K mg base CX0 (k + 1) fa fd ps (toSpM K ps.length p) := by
  refine F.ok S (fun vs H Q E h => h.1) (fun cdv A outer s H vs Q E hr h => ?_)
  obtain ⟨t, ht, d, hd, hp⟩ := hbody cdv A outer s H E hr
  obtain ⟨hl, ex, H0, u, m, ws, rs, Φ, rfl, wf, hR, ra, hsp, q⟩ := h
  refine ⟨t, ht, ?_⟩
  have hlen := ra.length
  have hget : ∀ {j : Nat} {r : R}, (startD N.length (.reg u m :: rs))[j]? = some (some r) → ((j = 0 ∧ r = .reg u m) ∨ ∃ k v, j = k + 1 ∧ rs[k]? = some r ∧ ws[k]? = some v ∧ RRa K ex (VL.lend m H) H0 v r) := fun {j r} e => by
    unfold startD at e
    by_cases hj : j < (R.reg u m :: rs).length
    · rw [List.getElem?_append_left (by simpa using hj), List.getElem?_map] at e
      cases j with
      | zero => simp at e; exact .inl ⟨rfl, e.symm⟩
      | succ j =>
        rw [List.getElem?_cons_succ] at e
        cases e1 : rs[j]? with
        | none => rw [e1] at e; simp at e
        | some r' =>
          rw [e1] at e
          simp at e
          subst e
          obtain ⟨v, h1, h2⟩ := ra.get e1
          exact .inr ⟨j, v, rfl, e1, h1, h2⟩
    · rw [List.getElem?_append_right (by simpa using hj)] at e
      rw [List.getElem?_replicate] at e
      split at e <;> simp at e
  refine hd ex (VL.lend m H) H0 _ (startD N.length (.reg u m :: rs)) H0 H _ _ ⟨wf, ?_, fun j r e => ?_, fun i j a b xs ys n e1 e2 a1 a2 => ?_⟩ (hp u m rs Φ hR.2.1 hsp) ⟨fun H0' H' σ δ g s' ⟨m', h1, h2⟩ => ?_, fun H0' H' v r g w' xr ⟨m', x, er, p'⟩ => ?_, fun _ _ _ _ _ _ h => h.elim, fun _ _ _ _ _ _ h => h.elim⟩
  · simp [L2.start, startD, hlen]
  · rcases hget e with ⟨rfl, rfl⟩ | ⟨k, v, rfl, e1, h1, h2⟩
    · exact ⟨u, by unfold L2.start; simp, hR⟩
    · refine ⟨v, ?_, ?_⟩
      · unfold L2.start
        have hk := (List.getElem?_eq_some_iff.mp h1).1
        rw [List.getElem?_append_left (by rw [List.length_map, List.length_cons]; omega), List.getElem?_map, List.getElem?_cons_succ, h1]
        rfl
      · cases r with
        | d x => exact h2
        | own a xs => exact h2.elim
        | drw => exact h2
        | raw u => exact h2
        | scr ns => exact h2
        | fn F => exact h2
        | dct a es => exact h2.elim
        | reg u m => exact h2.elim
  · have f : ∀ {k : Nat} {v : V} {r : R} {a : Addr}, RRa K ex (VL.lend m H) H0 v r → a ∈ r.adr → False := fun {k v r a} h2 ea => by
      cases r with
      | own a xs => exact h2
      | dct a xs => exact h2
      | reg u m => exact h2
      | d x => cases ea
      | drw => cases ea
      | raw u => cases ea
      | scr ns => cases ea
      | fn F => cases ea
    rcases hget e1 with ⟨z1, _⟩ | ⟨k, v, _, _, _, h2⟩
    · rcases hget e2 with ⟨z2, _⟩ | ⟨k, v, _, _, _, h2⟩
      · exact absurd (z1.trans z2.symm) n
      · exact (f (k := 0) h2 a2).elim
    · exact (f (k := 0) h2 a1).elim
  · obtain ⟨v, _, hv⟩ := s'.sl 0 _ h1
    have ev : v = u := hv.1
    subst ev
    exact q H0' H' .non m' .none s'.toWf hv .non h2
  · subst er
    obtain ⟨x1, x2⟩ := xr
    exact q H0' H' v m' x w' x2 x1 p'
section
variable {C : Ctx} {H0 H H0' H' : Hp} {σ : L2.St} {δ : Dl} {f f1 f2 : Bool} {te ta tb : TE} {de da db dk : DE} {dv dw : DV} {dx dy : DX} {tas : TA} {dqs : DR} {ts : TS} {ds : DS}
/-- return e, within a method -/
@[simp] def dRetM (i : Nat) (de : DE) : DS := fun E δ => de δ fun x => ∃ u m, δ[i]? = some (some (.reg u m)) ∧ E.rt (.m u m x)
theorem sms_retM (i : Nat) (h : Sm C true te de) : SmS C (tRet te) (dRetM i de) := fun σ δ H0 H E D s w e =>
  h σ δ H0 H _ _ s w fun H0' H' v x g r ⟨u, m, ei, p⟩ => by
    obtain ⟨w', _, hw⟩ := (s.go g).sl i _ ei
    have ew : w' = u := hw.1
    subst ew
    exact e.rt H0' H' v (.m w' m x) g.fz g.wf ⟨r, hw⟩ p
/-- o.m(..), o the slot of a region -/
@[simp] def xMeth (i : Nat) (A : Addr) (name : Str) (n : Nat) (p : VSpM) (ds : DR) : DX := fun δ Φ => ∃ b m dx fs, δ[i]? = some (some (.reg (.ref b) m)) ∧ m.at b = some (.I A dx fs) ∧ fs.lookup name = none ∧ ds δ fun rs => rs.length + 1 = n ∧ p (.ref b) m rs fun m' x => (m'.map (·.1)).Nodup → Φ (δ.set i (some (.reg (.ref b) m'))) (.d x)
theorem CVk.nol {K : PySem.W.Frag} {n : Str} : ∀ {vs : List (Str × V)} {cs : List (Str × CV)}, CVk K H vs cs → cs.lookup n = none → vs.lookup n = none
  | _, _, .nil, _ => rfl
  | _, _, .cons (k := k) h r, e => by
    rw [List.lookup_cons] at e ⊢
    cases q : n == k with
    | true => rw [q] at e; cases e
    | false => rw [q] at e; exact CVk.nol r e
theorem smx_meth (i : Nat) {A : Addr} {name : Str} {n : Nat} {p : VSpM} {E : XK} (ha : SmQ C tas dqs) : SmX C (tMeth A name (toSpM C.K n p) [] E (tVar i) tas) (xMeth i A name n p dqs) := fun σ δ H0 H Φ Q s ⟨b, m, dx, fs, e, eb, hn, w⟩ q => by
  obtain ⟨v, e1, hv⟩ := s.sl i _ e
  have ev : v = .ref b := hv.1
  subst ev
  obtain ⟨_, _, _, o, ho, vs, rfl, hk⟩ := reg_at hv eb
  refine ⟨_, e1, b, dx, vs, rfl, ho, hk.nol hn, ha σ δ H0 H _ _ s w fun H01 H1 us rs g1 r1 ⟨hl, w1⟩ => ?_⟩
  show toSpM C.K n p (.ref b :: (us ++ [])) H1 Q E
  rw [List.append_nil]
  have s1 := s.go g1
  obtain ⟨v', e1', hv'⟩ := s1.sl i _ e
  obtain ⟨wl, hR⟩ := Wf.lent s1.toWf hv'
  refine ⟨by rw [List.length_cons, r1.length]; exact hl, C.ex, H01, .ref b, m, us, rs, _, rfl, wl, hR, RRas.lent s1.toWf hv' r1, w1, fun H02 H2 v2 m' x g2 h2 rx p2 => ?_⟩
  obtain ⟨gr, s2⟩ := s1.lend i e g2 h2
  exact q H02 H2 v2 (.d x) _ (g1.fz.trans gr) s2 rx (p2 h2.2.1)
/-- a statement that is an expression -/
@[simp] def dDropX (dx : DX) : DS := fun E δ => dx δ fun δ' _ => E.nx δ'
theorem sms_dropX (h : SmX C te dx) : SmS C (tDrop te) (dDropX dx) := fun σ δ H0 H E D s w e =>
  h σ δ H0 H _ _ s w fun H0' H' v c δ' gr s' r p => e.nx H0' H' σ δ' gr s' p
/-- slot = e, data -/
@[simp] def dAsgX (j : Nat) (dx : DX) : DS := fun E δ => dx δ fun δ' c => ∃ x, c = .d x ∧ E.nx (δ'.set j (some (.d x)))
theorem sms_asgX (j : Nat) (h : SmX C te dx) : SmS C (tAsg te (gName j)) (dAsgX j dx) := fun σ δ H0 H E D s w e =>
  h σ δ H0 H _ _ s w fun H0' H' v c δ' gr s' r ⟨x, ec, p⟩ => by
    subst ec
    exact e.nx H0' H' _ _ gr (s'.set_d j r) p
/-- an item at a place that a call tells -/
@[simp] def xIx (i : Nat) (dv : DV) (dx : DX) : DX := fun δ Φ => dv δ fun c => dx δ fun δ' c2 => ∃ b u m xs k z, c = .r b ∧ c2 = .d (.int k) ∧ δ'[i]? = some (some (.reg u m)) ∧ m.at b = some (.l xs) ∧ atI xs k = some z ∧ Φ δ' z
theorem smx_ix (i : Nat) (hv : SmV C ta dv) (hk : SmX C tb dx) : SmX C (tOp (rIx C.K) ta tb) (xIx i dv dx) := fun σ δ H0 H Φ Q s w q =>
  hv σ δ H0 H _ _ s w fun H01 H1 v c g1 r1 w1 => hk σ δ H01 H1 _ _ (s.go g1) w1 fun H02 H2 v2 c2 δ' g2 s2 r2 ⟨b, u, m, xs, k, z, e1, e2, e3, e4, e5, p⟩ => by
    subst e1 e2
    have r1 : v = .ref b := r1
    subst r1
    have r2 : Rp C.K H02 v2 (.int k) := r2
    cases r2
    obtain ⟨v', _, hv'⟩ := s2.sl i _ e3
    obtain ⟨_, _, _, o, ho, vs, rfl, hc⟩ := reg_at hv' e4
    obtain ⟨w', ew, rw'⟩ := atC hc e5
    exact .inl ⟨_, _, k, w', rfl, rfl, SqL.of ho, ew, q H02 H2 w' z δ' (g1.fz.trans g2) s2 rw' p⟩
/-- a built-in of two values, the second told by a call -/
@[simp] def xCB2 (g : List PyData → (PyData → Prop) → Prop) (da : DE) (dx : DX) : DX := fun δ Φ => da δ fun x => dx δ fun δ' c => ∃ y, c = .d y ∧ g [x, y] fun z => Φ δ' (.d z)
theorem smx_cb2 {r : List V → Hp → VK → Prop} {g : List PyData → (PyData → Prop) → Prop} (hr : CbD C r g) (ha : Sm C true ta da) (hx : SmX C tb dx) : SmX C (tCB r (tCons ta (tCons tb tNil))) (xCB2 g da dx) := fun σ δ H0 H Φ Q s w q =>
  ha σ δ H0 H _ _ s w fun H01 H1 v x g1 r1 w1 => hx σ δ H01 H1 _ _ (s.go g1) w1 fun H02 H2 v2 c δ' g2 s2 r2 ⟨y, ec, p⟩ => by
    subst ec
    have r2 : Rp C.K H02 v2 y := r2
    refine hr H2 [v, v2] [x, y] _ Q ((RpA.cons (r1.mono g2) (.cons r2 .nil)).mono s2.toWf.sub) p fun w' z hz p' => q H02 H2 w' (.d z) δ' (g1.fz.trans g2) s2 (hz _) p'
/-- X.f = e -/
def putC (n : Str) (c : CV) : List (Str × CV) → List (Str × CV)
  | [] => [(n, c)]
  | (g, x) :: r => if g = n then (g, c) :: r else (g, x) :: putC n c r
theorem CVk.putF {K : PySem.W.Frag} {n : Str} {y : V} {c : CV} (h : CVR K H y c) : ∀ {vs : List (Str × V)} {cs : List (Str × CV)}, CVk K H vs cs → CVk K H (L2.putF n y vs) (putC n c cs)
  | _, _, .nil => .cons h .nil
  | _, _, .cons (k := k) g r => by
    unfold L2.putF VL.putC
    by_cases e : k = n
    · rw [if_pos e, if_pos e]; exact .cons h r
    · rw [if_neg e, if_neg e]; exact .cons g (CVk.putF h r)
@[simp] def dFldV (i : Nat) (A : Addr) (n : Str) (dx : DX) (dv : DV) : DS := fun E δ => dx δ fun δ' c => dv δ' fun c1 => ∃ b u m dx' fs, c1 = .r b ∧ δ'[i]? = some (some (.reg u m)) ∧ m.at b = some (.I A dx' fs) ∧ fs.length < 1000 ∧ E.nx (δ'.set i (some (.reg u (m.put b (.I A dx' (putC n c fs))))))
theorem sms_fldV (i : Nat) {A : Addr} {n : Str} (hc : Cls C.K A) (hn : NoAttr C.K A n) (h : SmX C te dx) (hv : SmV C ta dv) : SmS C (sFld C.K ta te n) (dFldV i A n dx dv) := fun σ δ H0 H E D s w e =>
  h σ δ H0 H _ _ s w fun H01 H1 v c δ1 gr s1 r w1 => hv σ δ1 H01 H1 _ _ s1 w1 fun H02 H2 v1 c1 g2 r2 ⟨b, u, m, dx', fs, e1, e3, e4, e5, p⟩ => by
    subst e1
    have r2 : v1 = .ref b := r2
    subst r2
    have s2 := s1.go g2
    obtain ⟨v', _, hv'⟩ := s2.sl i _ e3
    obtain ⟨_, _, _, o, ho, vs, rfl, hk⟩ := reg_at hv' e4
    exact ⟨b, A, dx', vs, rfl, ho, hc, hn, by rw [hk.length]; exact e5, e.nx H02 _ σ _ (gr.trans g2.fz) (s2.putR (c := .I A dx' (VL.putC n c fs)) i e3 e4 ⟨_, rfl, hk.putF (r.mono g2.fz)⟩) p⟩
/-- slot = A(..) -/
@[simp] def dMake (j : Nat) (A : Addr) (n : Nat) (p : VSpM) (ds : DR) : DS := fun E δ => ds δ fun rs => rs.length + 1 = n ∧ ∀ b dx, p (.ref b) [(b, .I A dx [])] rs fun m' x => x = .none ∧ ((m'.map (·.1)).Nodup → E.nx (δ.set j (some (.reg (.ref b) m'))))
theorem sms_make (j : Nat) {A : Addr} {n : Nat} {p : VSpM} {E0 : XK} (ha : SmQ C tas dqs) : SmS C (tAsg (tMake A (toSpM C.K n p) [] E0 tas) (gName j)) (dMake j A n p dqs) := fun σ δ H0 H E D s w e =>
  ha σ δ H0 H _ _ s w fun H01 H1 us rs g1 r1 ⟨hl, w1⟩ => fun x dx hx hdx ne => by
    show toSpM C.K n p (.ref x :: (us ++ [])) _ _ E0
    rw [List.append_nil]
    have s1 := s.go g1
    have ga := Go.free (o := .own x) s1.toWf hdx
    have hx2 : upd H1 dx (.own x) x = none := by rw [upd_ne (fun z => ne z.symm)]; exact hx
    have gb := Go.free (o := .ins A dx []) ga.wf hx2
    have s2 := (s1.go ga).go gb
    -- a state of one more slot, which holds the new instance
    have hhe := Go.he s1.toWf hx
    have s3 : St C H01 (upd (upd H1 dx (.own x)) x (.ins A dx [])) (σ ++ [some (.ref x)]) (δ ++ [some (.reg (.ref x) [(x, .I A dx [])])]) := by
      refine ⟨s2.toWf, by rw [List.length_append, List.length_append, s2.len]; rfl, fun k r er => ?_, fun k l a c p q nk e1 e2 a1 a2 => ?_⟩
      · by_cases hk : k < δ.length
        · rw [List.getElem?_append_left hk] at er
          obtain ⟨v, h1, h2⟩ := s2.sl k r er
          exact ⟨v, by rw [List.getElem?_append_left (by rw [s2.len]; exact hk)]; exact h1, h2⟩
        · rw [List.getElem?_append_right (by omega)] at er
          cases hz : k - δ.length with
          | zero =>
            rw [hz] at er
            simp at er
            subst er
            refine ⟨.ref x, by rw [List.getElem?_append_right (by rw [s2.len]; omega), s2.len, hz]; rfl, rfl, by simp, fun a c hm => ?_⟩
            cases List.mem_singleton.mp hm
            exact ⟨s1.toWf.none hx, hhe.1, hhe.2, _, upd_same, _, rfl, .nil⟩
          | succ z => rw [hz] at er; simp at er
      · have key : ∀ {k : Nat} {p : R}, (δ ++ [some (R.reg (.ref x) [(x, .I A dx [])])])[k]? = some (some p) → (k < δ.length ∧ δ[k]? = some (some p)) ∨ (k = δ.length ∧ p = .reg (.ref x) [(x, .I A dx [])]) := fun {k p} er => by
          by_cases hk : k < δ.length
          · rw [List.getElem?_append_left hk] at er; exact .inl ⟨hk, er⟩
          · rw [List.getElem?_append_right (by omega)] at er
            cases hz : k - δ.length with
            | zero => rw [hz] at er; simp at er; exact .inr ⟨by omega, er.symm⟩
            | succ z => rw [hz] at er; simp at er
        rcases key e1 with ⟨h1, k1⟩ | ⟨h1, k1⟩ <;> rcases key e2 with ⟨h2, k2⟩ | ⟨h2, k2⟩
        · exact s2.sep k l a c p q nk k1 k2 a1 a2
        · subst k2
          have hc : c = x := by simpa [R.adr] using a2
          subst hc
          intro z
          subst z
          exact s1.fresh hx k1 a1
        · subst k1
          have ha' : a = x := by simpa [R.adr] using a1
          subst ha'
          intro z
          subst z
          exact s1.fresh hx k2 a2
        · exact absurd (h1.trans h2.symm) nk
    have ei : (δ ++ [some (R.reg (.ref x) [(x, .I A dx [])])])[δ.length]? = some (some (.reg (.ref x) [(x, .I A dx [])])) := by rw [List.getElem?_append_right (Nat.le_refl _), Nat.sub_self]; rfl
    obtain ⟨v', e1', hv'⟩ := s3.sl _ _ ei
    obtain ⟨wl, hR⟩ := Wf.lent s3.toWf hv'
    have gab := ga.trans gb
    have rmono : RRas C.K C.ex C.He H01 us rs := r1
    refine ⟨by rw [List.length_cons, r1.length]; exact hl, C.ex, H01, .ref x, [(x, .I A dx [])], us, rs, _, rfl, wl, hR, RRas.lent s3.toWf hv' rmono, w1 x dx, fun H02 H2 v2 m' y g2 h2 ry ⟨ey, p2⟩ => ?_⟩
    subst ey
    cases ry
    refine ⟨rfl, ?_⟩
    obtain ⟨gr, s4⟩ := s3.lend _ ei g2 h2
    have e4 : ((δ ++ [some (R.reg (.ref x) [(x, .I A dx [])])]).set δ.length (some (.reg (.ref x) m'))) = δ ++ [some (.reg (.ref x) m')] := by
      rw [List.set_append_right _ _ (Nat.le_refl _), Nat.sub_self]
      rfl
    rw [e4] at s4
    refine e.nx H02 H2 _ _ (g1.fz.trans gr) ⟨s4.toWf, ?_, fun k r er => ?_, fun k l a c p q nk q1 q2 a1 a2 => ?_⟩ (p2 h2.2.1)
    · rw [List.length_set, List.length_set, s.len]
    · rcases set_at er with ⟨z, rfl⟩ | ⟨z, er⟩
      · subst z
        have hd : j < δ.length := by
          have := (List.getElem?_eq_some_iff.mp er).1
          rwa [List.length_set] at this
        obtain ⟨v3, e3, h3⟩ := s4.sl δ.length (.reg (.ref x) m') (by rw [List.getElem?_append_right (Nat.le_refl _), Nat.sub_self]; rfl)
        have : v3 = .ref x := h3.1
        subst this
        exact ⟨.ref x, by rw [List.getElem?_set_self (by rw [s.len]; exact hd)], h3⟩
      · have hk := (List.getElem?_eq_some_iff.mp er).1
        obtain ⟨v3, e3, h3⟩ := s4.sl k r (by rw [List.getElem?_append_left hk]; exact er)
        exact ⟨v3, by rw [List.getElem?_set_ne z]; rw [List.getElem?_append_left (by rw [s.len]; exact hk)] at e3; exact e3, h3⟩
    · have lst : (δ ++ [some (R.reg (.ref x) m')])[δ.length]? = some (some (.reg (.ref x) m')) := by rw [List.getElem?_append_right (Nat.le_refl _), Nat.sub_self]; rfl
      have up : ∀ {k : Nat} {p : R}, δ[k]? = some (some p) → k < δ.length ∧ (δ ++ [some (R.reg (.ref x) m')])[k]? = some (some p) := fun {k p} er => by
        have hk := (List.getElem?_eq_some_iff.mp er).1
        exact ⟨hk, by rw [List.getElem?_append_left hk]; exact er⟩
      rcases set_at q1 with ⟨z1, y1⟩ | ⟨z1, y1⟩ <;> rcases set_at q2 with ⟨z2, y2⟩ | ⟨z2, y2⟩
      · exact absurd (z1.symm.trans z2) nk
      · subst y1
        obtain ⟨h1, h2⟩ := up y2
        exact s4.sep δ.length l a c _ q (by omega) lst h2 a1 a2
      · subst y2
        obtain ⟨h1, h2⟩ := up y1
        exact s4.sep k δ.length a c p _ (by omega) h2 lst a1 a2
      · exact s4.sep k l a c p q nk (up y1).2 (up y2).2 a1 a2
end
/-! ### slot = [[] for _ in xs]; a walk over a list in a region -/
section
variable {C : Ctx} {H0 H H0' H' : Hp} {σ : L2.St} {δ : Dl} {ta : TE} {dv : DV} {g : TG} {dg : DG} {ti : TI} {di : DI} {ts : TS} {ds : DS}
@[simp] def dSetNs (i : Nat) (di : DI) : DS := fun E δ => di δ fun xs => xs.length < sizeLine ∧ ∀ (a : Addr) (bs : List Addr), (a :: bs).Nodup → bs.length = xs.length → E.nx (δ.set i (some (.reg (.ref a) ((a, .l (bs.map .r)) :: bs.map fun b => (b, .l [])))))
theorem sms_setNs (i j : Nat) (hi : SmI C ti di) : SmS C (tAsg (tLc ti (gName j) tYes (tLst tNil) [j]) (gName i)) (dSetNs i di) := fun σ δ H0 H E D' s w e =>
  hi σ δ H0 H _ _ s w fun H01 H1 J xs g1 wk ⟨hxs, ie⟩ D hD => by
    have hD0 : H D = none := g1.fresh hD
    have nex : C.ex ≠ some D := (Go.he g1.wf hD).2
    refine ⟨fun k m H' => m = xs.length - k ∧ k ≤ xs.length ∧ ∃ H0' bs, Go C H01 H1 H0' H' ∧ H0' D = none ∧ H' D = some (.lst (bs.map V.ref)) ∧ bs.length = k ∧ (D :: bs).Nodup ∧ ∀ b ∈ bs, H1 b = none ∧ H0' b = none ∧ H' b = some (.lst []), ⟨_, rfl, Nat.zero_le _, H01, [], Go.free g1.wf hD, g1.wf.none hD, upd_same, rfl, by simp, fun b hb => (nomatch hb)⟩, ?_⟩
    rintro k m H' ⟨rfl, hk, H0', bs, g2, hn, hl, hbl, nd, hb⟩
    by_cases hlt : k < xs.length
    · refine .inr ⟨wk.go H0' H' k g2.fz g2.wf hlt, fun H3 => ∃ H0' bs, Go C H01 H1 H0' H3 ∧ H0' D = none ∧ H3 D = some (.lst (bs.map V.ref)) ∧ bs.length = k + 1 ∧ (D :: bs).Nodup ∧ ∀ b ∈ bs, H1 b = none ∧ H0' b = none ∧ H3 b = some (.lst []), fun H3 h => ⟨_, by omega, rfl, hlt, h⟩, fun v H'' y => ?_⟩
      obtain ⟨H02, z, g3, hz, rz⟩ := wk.yld H0' H' k v H'' g2.fz g2.wf hlt y
      have g23 := g2.trans g3
      show wipe ((wipe σ [j]).set j (some v)) [j] = wipe σ [j] ∧ _
      refine ⟨by simp [wipe], ?_⟩
      dsimp only [tYes]
      rw [if_pos rfl]
      refine ⟨by show 0 ≤ sizeLine; exact Nat.zero_le _, fun p hp => ?_⟩
      have keep : ∀ {b : Addr} {o : HO}, C.ex ≠ some b → H0' b = none → H' b = some o → H02 b = none ∧ H'' b = some o := fun {b o} n h0 h => by
        have h1 := g3.kp b _ n h
        refine ⟨?_, h1⟩
        cases e : H02 b with
        | none => rfl
        | some u =>
          rcases g3.nw b u e with h2 | h2
          · rw [h0] at h2; cases h2
          · rw [h] at h2; cases h2
      have kD := keep nex hn hl
      have gp := Go.free (o := .lst []) g3.wf hp
      have g4 := g23.trans gp
      have nDp : D ≠ p := fun z => by rw [z, hp] at kD; cases kD.2
      have hDp : (upd H'' p (.lst [])) D = some (.lst (bs.map V.ref)) := by rw [upd_ne nDp]; exact kD.2
      have p1 : H1 p = none := (g23.fresh hp)
      refine ⟨bs.map V.ref, hDp, by rw [List.length_map]; omega, H02, bs ++ [p], ?_, kD.1, by rw [upd_same, List.map_append]; rfl, by rw [List.length_append, hbl]; rfl, ?_, fun b hb' => ?_⟩
      · refine ⟨⟨fun b u e => ?_, fun b u n e => ?_, g4.wf.fz, g4.wf.nw, fun c e => ?_⟩, g4.fz, fun b u n e => ?_, g4.nw⟩
        · rw [upd_ne (fun z => by rw [z, kD.1] at e; cases e)]; exact g4.wf.sub b u e
        · rw [upd_ne (fun z => by rw [z, (Go.he g1.wf hD).1] at e; cases e)]; exact g4.wf.kp b u n e
        · exact (g4.wf.dr c e).keep (Same.refl _) (g4.wf.dr c e).no (upd_ne (fun z => nex (by rw [← z]; exact e)))
        · rw [upd_ne (fun z => by rw [z, hD] at e; cases e)]; exact g4.kp b u n e
      · have nd2 := List.nodup_cons.mp nd
        refine List.nodup_cons.mpr ⟨fun z => ?_, List.nodup_append.mpr ⟨nd2.2, by simp, fun a ha c hc => ?_⟩⟩
        · rcases List.mem_append.mp z with z | z
          · exact nd2.1 z
          · exact nDp (List.mem_singleton.mp z)
        · rw [List.mem_singleton.mp hc]
          intro q
          subst q
          have hba := hb a ha
          have := (keep (Go.he g1.wf hba.1).2 hba.2.1 hba.2.2).2
          rw [hp] at this; cases this
      · rcases List.mem_append.mp hb' with hb' | hb'
        · have hba := hb b hb'
          have k1 := keep (Go.he g1.wf hba.1).2 hba.2.1 hba.2.2
          have n1 : b ≠ D := fun z => (List.nodup_cons.mp nd).1 (z ▸ hb')
          have n2 : b ≠ p := fun z => by rw [z, hp] at k1; cases k1.2
          exact ⟨hba.1, k1.1, by rw [upd_ne n1, upd_ne n2]; exact k1.2⟩
        · rw [List.mem_singleton.mp hb']
          exact ⟨p1, g3.wf.none hp, by rw [upd_ne (fun z => nDp z.symm), upd_same]⟩
    · have hk' : k = xs.length := by omega
      have gg := g1.trans g2
      refine .inl ⟨wk.stop H0' H' k g2.fz g2.wf (by omega), ?_⟩
      have sg := s.go gg
      have fr : ∀ {b : Addr}, H1 b = none → H b = none := fun h => g1.fresh h
      have hhe : ∀ {b : Addr}, H1 b = none → C.He b = none ∧ C.ex ≠ some b := fun h => Go.he g1.wf h
      have nd2 := List.nodup_cons.mp nd
      refine e.nx H0' H' _ _ gg.fz (sg.reset i (v' := .ref D) (r' := .reg (.ref D) ((D, .l (bs.map .r)) :: bs.map fun b => (b, .l []))) ⟨rfl, ?_, fun a c hm => ?_⟩ fun b hb' l q n hl' => ?_) (ie D bs nd (hbl.trans hk'))
      · rw [List.map_cons, List.map_map]
        have : (bs.map ((fun x : Addr × Cell => x.1) ∘ fun b => (b, Cell.l []))) = bs := by
          refine (List.map_congr_left fun b _ => ?_).trans (List.map_id' bs)
          rfl
        rw [this]
        exact nd
      · rcases List.mem_cons.mp hm with hm | hm
        · cases hm
          exact ⟨hn, (hhe hD).1, nex, _, hl, _, rfl, cvs_refs bs⟩
        · obtain ⟨b, hb1, hb2⟩ := List.mem_map.mp hm
          cases hb2
          have hba := hb _ hb1
          exact ⟨hba.2.1, (hhe hba.1).1, (hhe hba.1).2, _, hba.2.2, _, rfl, .nil⟩
      · have hb' : b ∈ ((D, Cell.l (bs.map .r)) :: bs.map fun b => (b, Cell.l [])).map (fun q : Addr × Cell => q.1) := hb'
        rw [List.map_cons, List.map_map] at hb'
        have hfb : H b = none := by
          rcases List.mem_cons.mp hb' with hb' | hb'
          · rw [hb']; exact hD0
          · obtain ⟨b2, hb3, hb4⟩ := List.mem_map.mp hb'
            have : b2 = b := hb4
            subst this
            exact fr (hb b2 hb3).1
        exact s.fresh hfb hl'
/-- for .. in X, X a list in a region that the turns leave -/
def dForV (i : Nat) (dv : DV) (dg : DG) (db : DS) : DS := fun E δ => dv δ fun c => ∃ (b : Addr) (xs : List PyData), c = .r b ∧ (∃ u m, δ[i]? = some (some (.reg u m)) ∧ m.at b = some (.l (xs.map .d))) ∧ ∃ I : Nat → Dl → Prop, I 0 δ ∧
  (∀ k y δ', xs[k]? = some y → I k δ' → (∃ u m, δ'[i]? = some (some (.reg u m)) ∧ m.at b = some (.l (xs.map .d))) ∧ dg y δ' fun δ'' => db { E with nx := I (k + 1), ct := I (k + 1), bk := E.nx } δ'') ∧ ∀ δ', I xs.length δ' → (∃ u m, δ'[i]? = some (some (.reg u m)) ∧ m.at b = some (.l (xs.map .d))) ∧ E.nx δ'
theorem sms_forV (i : Nat) (hv : SmV C ta dv) (hg : SmG C g dg) (hb : SmS C ts ds) : SmS C (tFor (iList C.K ta) g ts) (dForV i dv dg ds) := fun σ δ H0 H E D s w e =>
  hv σ δ H0 H _ _ s w fun H01 H1 v c g1 r1 ⟨b, xs, ec, ⟨u, m, e0, em⟩, I, i0, it, ie⟩ => by
    subst ec
    have r1 : v = .ref b := r1
    subst r1
    have look : ∀ {A B : Hp} {τ : L2.St} {δ' : Dl}, St C A B τ δ' → (∃ u m, δ'[i]? = some (some (.reg u m)) ∧ Sto.at m b = some (.l (xs.map .d))) → ∃ vs, B b = some (.lst vs) ∧ RpA C.K A vs xs := fun {A B τ δ'} s' ⟨u, m, h1, h2⟩ => by
      obtain ⟨v', _, hv'⟩ := s'.sl i _ h1
      obtain ⟨_, _, _, o, ho, vs, rfl, hc⟩ := reg_at hv' h2
      exact ⟨vs, ho, hc.rpa⟩
    obtain ⟨us, h4, h5⟩ := look (s.go g1) ⟨u, m, e0, em⟩
    refine ⟨b, rfl, ⟨us, SqL.of h4⟩, fun k m σ H => m = xs.length - k ∧ k ≤ xs.length ∧ ∃ H0' δ', Same H01 H0' ∧ St C H0' H σ δ' ∧ I k δ', ⟨_, rfl, Nat.zero_le _, H01, δ, Same.refl _, s.go g1, i0⟩, ?_⟩
    rintro k m' σ' H' ⟨rfl, hi, H0', δ', gr, s', p⟩
    by_cases hl : k < xs.length
    · obtain ⟨y, hy⟩ := get_lt hl
      obtain ⟨k1, k2⟩ := it k y δ' hy p
      obtain ⟨ws, f4, f5⟩ := look s' k1
      obtain ⟨u', hu, ru⟩ := f5.get hy
      refine .inr ⟨⟨ws, u', SqL.of f4, hu⟩, fun σ2 H2 => ∃ H0'' δ'', Same H01 H0'' ∧ St C H0'' H2 σ2 δ'' ∧ I (k + 1) δ'', fun σ2 H2 ⟨H02, δ2, h1, h2, h3⟩ => ⟨_, by omega, rfl, hl, H02, δ2, h1, h2, h3⟩, fun v H'' y' => ?_⟩
      obtain ⟨rfl, y'⟩ := y'
      have y' := y' ws (SqL.of f4)
      rw [hu] at y'
      cases y'
      refine hg u' y σ' δ' H0' H'' _ _ s' ru k2 fun σ2 δ2 s2 w2 => ?_
      refine hb σ2 δ2 H0' H'' _ _ s2 w2 ⟨fun H03 H3 σ3 δ3 e3 s3 p3 => ⟨H03, δ3, gr.trans e3, s3, p3⟩, fun H03 H3 v3 r3 e3 w3 x3 p3 => e.rt H03 H3 v3 r3 ((g1.fz.trans gr).trans e3) w3 x3 p3,
        fun H03 H3 σ3 δ3 e3 s3 p3 => e.nx H03 H3 σ3 δ3 ((g1.fz.trans gr).trans e3) s3 p3, fun H03 H3 σ3 δ3 e3 s3 p3 => ⟨H03, δ3, gr.trans e3, s3, p3⟩⟩
    · have hl' : k = xs.length := by omega
      obtain ⟨k1, k2⟩ := ie δ' (hl' ▸ p)
      obtain ⟨ws, f4, f5⟩ := look s' k1
      exact .inl ⟨⟨ws, SqL.of f4, by rw [f5.length]; omega⟩, e.nx H0' H' σ' δ' (g1.fz.trans gr) s' k2⟩
end
/-! ### a region of rows comes to rest -/
section
variable {C : Ctx} {H0 H : Hp} {σ : L2.St} {δ : Dl} {m : Sto} {ts : TS} {ds : DS}
theorem St.settle {a : Addr} {rows : List (Addr × List PyData)} (s : St C H0 H σ δ) (i : Nat) (e : δ[i]? = some (some (.reg (.ref a) m))) (ha : m.at a = some (.l (rows.map fun p => .r p.1))) (hr : ∀ p ∈ rows, m.at p.1 = some (.l (p.2.map .d))) :
    ∃ H0', Same H0 H0' ∧ St C H0' H σ (δ.set i (some (.d (.list (rows.map fun p => .list p.2))))) := by
  obtain ⟨v, e1, hv⟩ := s.sl i _ e
  have ev : v = .ref a := hv.1
  subst ev
  obtain ⟨S, hS⟩ : ∃ S : List Addr, S = a :: rows.map (·.1) := ⟨_, rfl⟩
  have inm : ∀ b ∈ S, b ∈ m.map (·.1) ∧ H0 b = Option.none ∧ C.He b = Option.none ∧ C.ex ≠ some b := fun b hb => by
    have hb : b ∈ m.map (·.1) := by
      rw [hS] at hb
      rcases List.mem_cons.mp hb with rfl | hb
      · exact sat_dom ha
      · obtain ⟨p, hp, rfl⟩ := List.mem_map.mp hb
        exact sat_dom (hr p hp)
    have := hv.adr hb
    exact ⟨hb, this.1, this.2.1, this.2.2⟩
  obtain ⟨F, hF⟩ : ∃ F : Hp, F = fun b => if b ∈ S then H b else H0 b := ⟨_, rfl⟩
  have fin : ∀ {b : Addr}, b ∈ S → F b = H b := fun {b} h => by rw [hF]; exact if_pos h
  have fout : ∀ {b : Addr}, b ∉ S → F b = H0 b := fun {b} h => by rw [hF]; exact if_neg h
  have gr : Same H0 F := fun b o q => by
    rw [fout (fun z => by rw [(inm b z).2.1] at q; cases q)]; exact q
  refine ⟨F, gr, ⟨fun b o q => ?_, s.kp, s.fz.trans gr, fun b o q => ?_, fun p q => ?_⟩, by rw [List.length_set, s.len], fun j p q => ?_, fun j k b c p q n q1 q2 a1 a2 => ?_⟩
  · by_cases hb : b ∈ S
    · rw [fin hb] at q; exact q
    · rw [fout hb] at q; exact s.sub b o q
  · by_cases hb : b ∈ S
    · exact .inr (inm b hb).2.2.1
    · rw [fout hb] at q; exact s.nw b o q
  · exact (s.dr p q).keep gr (by rw [fout (fun z => (inm p z).2.2.2 q)]; exact (s.dr p q).no) rfl
  · rcases set_at q with ⟨z, rfl⟩ | ⟨z, q⟩
    · subst z
      refine ⟨_, e1, ?_⟩
      obtain ⟨_, _, _, o, ho, vs, rfl, hc⟩ := reg_at hv ha
      have hc2 : CVs C.K H0 vs ((rows.map (·.1)).map CV.r) := by rw [List.map_map]; exact hc
      show Rp C.K F (.ref a) _
      refine .lst (by rw [fin (by rw [hS]; exact List.mem_cons_self ..)]; exact ho) ?_
      rw [cvs_ref_eq hc2]
      have one : ∀ p ∈ rows, Rp C.K F (.ref p.1) (.list p.2) := fun p hp => by
        obtain ⟨_, _, _, o, ho, vs, rfl, hc⟩ := reg_at hv (hr p hp)
        exact .lst (by rw [fin (by rw [hS]; exact List.mem_cons_of_mem _ (List.mem_map.mpr ⟨p, hp, rfl⟩))]; exact ho) (hc.rpa.mono gr)
      clear hc hc2 ho ha hr inm hS q
      induction rows with
      | nil => exact .nil
      | cons p rows ih => exact .cons (one p (List.mem_cons_self ..)) (ih fun q hq => one q (List.mem_cons_of_mem _ hq))
    · obtain ⟨u, f1, f2⟩ := s.sl j p q
      refine ⟨u, f1, f2.move gr fun b hb => ⟨?_, fun _ h => h⟩⟩
      have nb : b ∉ S := fun zb => s.sep j i b b p _ (fun z' => z z'.symm) q e hb (inm b zb).1 rfl
      rw [fout nb]
      exact (f2.adr hb).1
  · rcases set_at q1 with ⟨_, rfl⟩ | ⟨_, q1⟩
    · cases a1
    rcases set_at q2 with ⟨_, rfl⟩ | ⟨_, q2⟩
    · cases a2
    exact s.sep j k b c p q n q1 q2 a1 a2
/-- from here on the rows in the slot stand -/
@[simp] def dSettle (i : Nat) (d : DS) : DS := fun E δ => ∃ (a : Addr) (m : Sto) (rows : List (Addr × List PyData)), δ[i]? = some (some (.reg (.ref a) m)) ∧ m.at a = some (.l (rows.map fun p : Addr × List PyData => .r p.1)) ∧ (∀ p ∈ rows, m.at p.1 = some (.l (p.2.map .d))) ∧ d E (δ.set i (some (.d (.list (rows.map fun p => .list p.2)))))
theorem sms_settle (i : Nat) (h : SmS C ts ds) : SmS C ts (dSettle i ds) := fun σ δ H0 H E D s ⟨a, m, rows, h1, h2, h3, w⟩ e => by
  obtain ⟨H0', g, s'⟩ := s.settle i h1 h2 h3
  exact h σ _ H0' H E D s' w (e.mono g)
end
/-! ### range(i, j, c) -/
section
variable {C : Ctx} {H0 : Hp} {ta tb tc : TE} {da db dc : DE} {f1 f2 f3 : Bool}
def rng3 (lo c : Int) (n : Nat) : List PyData := (List.range n).map fun (k : Nat) => PyData.int (lo + (k : Int) * c)
theorem rng3_get {lo c : Int} {n i : Nat} {y : PyData} (h : (rng3 lo c n)[i]? = some y) : i < n ∧ y = .int (lo + (i : Int) * c) := by
  unfold rng3 at h
  rw [List.getElem?_map] at h
  cases q : (List.range n)[i]? with
  | none => rw [q] at h; simp at h
  | some k =>
    rw [q] at h
    obtain ⟨a, b⟩ := List.getElem?_eq_some_iff.mp q
    simp at a b h
    subst b
    exact ⟨a, h.symm⟩
theorem rng3_at {lo c : Int} {n i : Nat} (h : i < n) : (rng3 lo c n)[i]? = some (.int (lo + (i : Int) * c)) := by
  unfold rng3
  rw [List.getElem?_map, List.getElem?_range h]
  rfl
theorem rng3_len (lo c : Int) (n : Nat) : (rng3 lo c n).length = n := by simp [rng3]
theorem wk_rng3 (lo c : Int) (n : Nat) : Wk C (Itc lo c n) H0 (rng3 lo c n) := by
  refine ⟨fun H0' H' i e w hi => ?_, fun H0' H' i e w hi => ?_, fun H0' H' i v H'' e w hi y => ?_⟩
  · rw [rng3_len] at hi; first | exact hi | exact Nat.le_of_eq hi
  · rw [rng3_len] at hi; first | exact hi | exact Nat.le_of_eq hi
  · rw [rng3_len] at hi
    obtain ⟨rfl, rfl⟩ := y
    exact ⟨H0', _, .refl w, rng3_at hi, .int _⟩
@[simp] def iR3 (da db dc : DE) : DI := fun δ Φ => da δ fun x => db δ fun y => dc δ fun z => ∃ i j c n, x = .int i ∧ y = .int j ∧ z = .int c ∧ RgC i j c n ∧ Φ (rng3 i c n)
theorem smi_rng3 (ha : Sm C f1 ta da) (hb : Sm C f2 tb db) (hc : Sm C f3 tc dc) : SmI C (iRng3 (tCons ta (tCons tb (tCons tc tNil)))) (iR3 da db dc) := fun σ δ H0 H Φ R s w q =>
  ha σ δ H0 H _ _ s w fun H01 H1 v x g1 r1 w1 => hb σ δ H01 H1 _ _ (s.go g1) w1 fun H02 H2 u y g2 r2 w2 => hc σ δ H02 H2 _ _ ((s.go g1).go g2) w2 fun H03 H3 t z g3 r3 ⟨i, j, c, n, e1, e2, e3, h, p⟩ => by
    subst e1 e2 e3
    cases r1
    cases r2
    cases r3
    exact ⟨i, j, c, n, rfl, h, q _ _ _ _ ((g1.trans g2).trans g3) (wk_rng3 _ _ _) p⟩
end
end VL

/-! sorted of a dict of numbers; the place of a number in a list. -/
namespace VL
open PySem PySem.Spec PyProof.Rows L2 Srt
theorem ints_atK : ∀ {us : List Value} {ks : List Int}, us.length = ks.length → (∀ (j : Nat) (v : Value), us[j]? = some v → ∃ (x : Int) (t : Tok), ks[j]? = some x ∧ v = Value.int x t) → IntsAre us ks
  | [], [], _, _ => .nil
  | u :: us, k :: ks, hl, h => by
    obtain ⟨x, t, e1, e2⟩ := h 0 u rfl
    have e1' : k = x := Option.some.inj e1
    subst e1'
    subst e2
    refine .cons _ _ (ints_atK (by simpa using hl) fun j v e => ?_)
    obtain ⟨x, t, a, b⟩ := h (j + 1) v (by simpa using e)
    exact ⟨x, t, by simpa using a, b⟩
  | [], _ :: _, hl, _ => by simp at hl
  | _ :: _, [], hl, _ => by simp at hl
def rSortedDI : List V → Hp → VK → Prop := fun xs H Q => ∃ (a : Addr) (kvs : List (Key × V)) (ks : List Int), xs = [.ref a] ∧ Rd H a (.dK kvs) ∧ kvs.map (·.1) = ks.map Sum.inl ∧ ks.length ≤ 100000 ∧
    ∀ (ns : List Int) (p : Addr), ns.Perm ks → ns.Pairwise (· ≤ ·) → H p = none → Q (.ref p) (upd H p (.lst (ns.map V.int)))
theorem vcall_sortedDI {X : Cx} (hcalm : X.calm = true) : CallR X (.builtin "sorted") rSortedDI := by
  intro pins s σ H xs us Q I r q
  obtain ⟨a, kvs, ks, ex, hd, hks, h64, q⟩ := q
  subst ex
  obtain ⟨u, eu, rx⟩ := vals1 r
  subst eu
  cases rx
  obtain ⟨z, lo, vs, rel, dd⟩ := dk_rd I.hok hd
  obtain ⟨ep, hat⟩ := dd.dictAt
  have hkeys : vs.map (·.1) = ks.map Sum.inl := rel.keys.symm.trans hks
  have hl : vs.length = ks.length := by
    have e := congrArg List.length hkeys
    rw [List.length_map, List.length_map] at e
    exact e
  have h16 : vs.length ≤ sizeLine := by rw [hl, sizeLine_eq]; omega
  refine Calls.call_function_entry PyProof.Rows.kind_sorted PyProof.Rows.plain_sorted PyProof.Rows.entry_sorted (PyProof.Rows.args_sorted1 _) ?_
  unfold Builtin.«sorted»
  refine wpAny_bind (m := checkCount "sorted" 1 1 _) (wpAny_pure ?_)
  refine wpAny_bind (PySem.W.kdu_collect (A := X.A.in1) (PySem.W.kdl_dict (knd := mixKind X.prog X.w) (kvs := vs) (ep := ep) lo) (I.ok.hd hcalm) hat h16 fun h' tk acc hk hacc => ?_)
  have hal : acc.toList.length = ks.length := by rw [Array.length_toList, hacc.1, hl]
  have hS : IntsAre acc.toList ks := ints_atK hal fun j v e => by
    obtain ⟨k, x, e1, e2⟩ := hacc.2 j v (by rw [← Array.getElem?_toList]; exact e)
    have e3 : (vs.map (·.1))[j]? = some k := by rw [List.getElem?_map, e1]; all_goals rfl
    rw [hkeys, List.getElem?_map] at e3
    cases e4 : ks[j]? with
    | none => rw [e4] at e3; cases e3
    | some y =>
      rw [e4] at e3
      have e5 : Sum.inl y = k := Option.some.inj e3
      subst e5
      have e2 : keyIs (Sum.inl y) v = true := e2
      rcases keyIs_shape e2 with ⟨i, t, ek, ev⟩ | ⟨z, t, ek, ev⟩
      · cases ek
        exact ⟨y, t, rfl, ev⟩
      · cases ek
  have I1 : Inv X pins σ H { s with heap := h', toks := tk } := I.kept hk
  have hle : acc.toList.length ≤ sizeLine := by rw [hal, sizeLine_eq]; omega
  refine wpAny_bind (wpAny_newList ?_ hle)
  have hoL : (h'.push (seqObj "list" acc.toList.toArray 0)).get? h'.objs.size = some (seqObj "list" acc.toList.toArray 0) := Heap.get?_push_size _ rfl
  show wpAny _ _ _ _ _ { s with heap := h'.push (seqObj "list" acc.toList.toArray 0), toks := tk }
  refine wpAny_bind (wpAny_holding (wpAny_call_entry PyProof.Rows.slot_list_sort ⟨_, hoL, rfl⟩ PyProof.Rows.entry_list_sort
    (SrtO.list_sort_ord (s := { s with heap := h'.push (seqObj "list" acc.toList.toArray 0), toks := tk }) SrtO.swo_int hoL hle (fun h2 => SrtO.ints_sortable hS h2) fun out h1 h2 => ⟨_, rfl, ?_⟩)
    (PyProof.Rows.args_list_sort _)))
  obtain ⟨k1, k2, k3⟩ := SrtO.ints_out hS h1 h2
  obtain ⟨e', he'⟩ := PyProof.Rows.sortedHeap_at (vs := acc.toList) (out := out.toArray) hoL
  have hlen : ((out.map SrtO.iv).map V.int).length ≤ sizeLine := by
    rw [List.length_map, k2.length_eq, sizeLine_eq]; omega
  refine wpAny_pure ⟨_, rfl, .ref h'.objs.size, upd H h'.objs.size (.lst ((out.map SrtO.iv).map V.int)), I1.laid (t' := tk) (fun b u e => ?_) (Nat.le_refl _)
    (show ObjOk X.prog X.w _ _ _ (.lst ((out.map SrtO.iv).map V.int)) from ⟨hlen, out, e', vals_of_ints k1, he'⟩), rfl, q _ _ k2 k3 (I1.hok.fresh (Nat.le_refl _))⟩
  have hb : b < h'.objs.size := Heap.lt_size e
  rw [PyProof.Rows.sortedHeap_old (Nat.ne_of_lt hb) (by rw [size_push']; exact Nat.lt_succ_of_lt hb)]
  exact Heap.get?_push_of_some _ e
section
variable {C : Ctx} {ta tb : TE} {da db dd : DE} {f f2 : Bool}
@[simp] def oSortedD (dd : DE) : DO := fun δ Φ => dd δ fun x => ∃ (es : List (Key × PyData)) (ks : List Int), x = .dict (entD es) ∧ es.map (·.1) = ks.map Sum.inl ∧ ks.length ≤ 100000 ∧ ∀ ms : List Int, ms.Perm ks → ms.Pairwise (· ≤ ·) → Φ (ms.map PyData.int)
theorem RpK.keys {K : PySem.W.Frag} {H : Hp} : ∀ {vs : List (Key × V)} {es : List (Key × PyData)}, RpK K H vs es → vs.map (·.1) = es.map (·.1)
  | _, _, .nil => rfl
  | _, _, .cons _ r => by rw [List.map_cons, List.map_cons, RpK.keys r]
theorem smo_sortedD (hd : Sm C f ta dd) : SmO C (tCB rSortedDI (tCons ta tNil)) (oSortedD dd) := fun σ δ H0 H Φ Q s w q =>
  hd σ δ H0 H _ _ s w fun H01 H1 v x g1 r1 ⟨es, ks, e, ek, hl, p⟩ => by
    subst e
    obtain ⟨a, kvs, rfl, h1, h2⟩ := dic_rd r1
    exact ⟨a, kvs, ks, rfl, rd_same g1.wf.loc h1, by rw [h2.keys]; exact ek, hl, fun ms l hp hs hl => q _ _ l _ _ (g1.trans (Go.free (o := .lst _) g1.wf hl)) (g1.fresh hl) (g1.wf.none hl) upd_same (rpa_nums ms) (p ms hp hs)⟩
/-- the first place of a number -/
@[simp] def dIndex (da db : DE) : DE := fun δ Φ => da δ fun x => ∃ ns : List Int, x = .list (ns.map PyData.int) ∧ db δ fun y => ∃ (v : Int) (j : Nat), y = .int v ∧ ns[j]? = some v ∧ (∀ i, i < j → ns[i]? ≠ some v) ∧ Φ (.int j)
theorem eqV_int (i j : Int) : eqV (.int i) (.int j) = decide (i = j) := by rw [Bool.eq_iff_iff]; simp [eqV]
theorem sm_index {f1 : Bool} (ha : Sm C f1 ta da) (hb : Sm C f2 tb db) : Sm C f (tBM C.K "list" (L2.rIndex C.K) ta (tCons tb tNil)) (dIndex da db) := fun σ δ H0 H Φ Q s w q =>
  ha σ δ H0 H _ _ s w fun H01 H1 v x g1 r1 w1 => by
    obtain ⟨ns, e, w1⟩ := w1
    subst e
    have r2 : Rp C.K H1 v (.list (ns.map PyData.int)) := Rp.mono g1.wf.loc r1
    cases r2 with
    | @lst a vs _ h r =>
      have e := r.ints
      subst e
      refine ⟨.inl ⟨rfl, _, SqL.of h⟩, hb σ δ H01 H1 _ _ (s.go g1) w1 fun H02 H2 u y g2 r2 ⟨n, j, ey, hj, hno, p⟩ => ?_⟩
      subst ey
      cases r2
      have r3 : Rp C.K (loc C f1 H02 H2) (.ref a) (.list (ns.map PyData.int)) := r1.mono g2.loc
      cases r3 with
      | @lst _ vs2 _ h2 r3 =>
        have e := r3.ints
        subst e
        refine ⟨a, ns.map V.int, .int n, j, .int n, rfl, rfl, SqL.of (g2.wf.loc _ _ h2), rfl, ?_, by rw [List.getElem?_map, hj]; rfl, by rw [eqV_int]; simp, fun m z' hm hz => ?_, q H02 H2 _ _ (g1.trans g2) (.int _) p⟩
        · rw [List.all_map]
          exact List.all_eq_true.mpr fun i _ => rfl
        · rw [List.getElem?_map] at hz
          obtain ⟨i, hi, rfl⟩ := Option.map_eq_some_iff.mp hz
          rw [eqV_int]
          exact decide_eq_false fun z => hno m hm (by rw [hi, z])
end
/-- list.index, its data said -/
theorem kx_index {X : Cx} {K : PySem.W.Frag} (h : X.K = K) : MtR X "list.index" (L2.rIndex K) := by subst h; exact L2.mt_index
theorem pe_idx {X : Cx} {K : PySem.W.Frag} (h : X.K = K) {o e : Expr} {es : List Expr} {apos cpos : Pos} {to : TE} {t : TA} (ho : PE X o to) (ha : PA X (e :: es) t)
    (hbase : attributeBase o "index" X.env (eval o X.env) = eval o X.env := by rfl)
    (hfew : ((backTo cpos (starEach (e :: es) X.env)).all (fun x => !x.1) && (backToKw cpos (keywordEach [] X.env)).all (fun x => x.1.isSome)
      && decide ((e :: es).length + ([] : List Keyword).length + (if ([] : List Keyword).isEmpty then 0 else 1) < 30)) = true := by rfl)
    (hline : (apos.endLine == cpos.line) = true := by rfl) (hs : starEach (e :: es) X.env = (false, eval e X.env) :: starEach es X.env := by rfl) (hplain : (backTo cpos (starEach es X.env)).any (·.1) = false := by rfl) :
    PE X (.Call (.Attribute o "index" apos) (e :: es) [] cpos) (tBM K "list" (L2.rIndex K) to t) := by
  subst h
  exact pe_bm PySem.F.plainAttrs_list PySem.F.slot_list_index PySem.F.type_list_index L2.mt_index ho ha hbase hfew hline hs hplain
end VL

/-! sorted of rows (a number first, all of them different). -/
namespace VL
open PySem PySem.Spec PyProof.Rows L2 Srt
/-- a tuple of two, a number first -/
def IsRowV (h : Heap) (v : Value) (i : Int) : Prop := ∃ (a : Addr) (o : Obj) (xs : Array Value) (t : Tok) (y : Value) (n : Nat), v = .ref a ∧ h.get? a = some o ∧ o.cls = .type "tuple" ∧ o.data = .seq xs n ∧ xs.toList = [.int i t, y]
section
variable {prog : Program} {w : World} {A : Around} {E : Value → Shared → Prop} {s : Shared}
theorem row_firsts {h : Heap} {k : Value → Int} : ∀ {vs : List Value}, (∀ v ∈ vs, IsRowV h v (k v)) → ∃ fs, PySem.W.KatTups h vs fs ∧ fs.length = vs.length ∧ ∀ f ∈ fs, ∃ x t, f = Value.int x t
  | [], _ => ⟨[], .nil, rfl, fun f hf => (nomatch hf)⟩
  | v :: vs, hp => by
    obtain ⟨fs, h1, h2, h3⟩ := row_firsts (vs := vs) fun u hu => hp u (List.mem_cons_of_mem _ hu)
    obtain ⟨a, o, xs, t, y, n, e, ho, hc, hd, hx⟩ := hp v (List.mem_cons_self ..)
    subst e
    refine ⟨.int (k (.ref a)) t :: fs, .cons ho hc hd ?_ h1, by simp [h2], fun f hf => ?_⟩
    · rw [← Array.getElem?_toList, hx]; rfl
    · rcases List.mem_cons.mp hf with rfl | hf
      · exact ⟨_, _, rfl⟩
      · exact h3 f hf
theorem swo_row (k : Value → Int) : SrtO.Swo fun v u => decide (k v < k u) := by
  refine ⟨fun x y h => ?_, fun x y z h1 h2 => ?_⟩
  · have a := of_decide_eq_true h
    exact decide_eq_false (by omega)
  · have a := of_decide_eq_false h1
    have b := of_decide_eq_false h2
    exact decide_eq_false (by omega)
theorem row_cmp {vs : List Value} {k : Value → Int} (hp : ∀ v ∈ vs, IsRowV s.heap v (k v)) (inj : ∀ v ∈ vs, ∀ u ∈ vs, k v = k u → v = u) : SrtO.Cmp prog w A s (tuples' true) (fun p => p.1 ∈ vs) (SrtO.lt2 fun v u => decide (k v < k u)) := by
  intro p q hm hm'
  have h1 := hp _ hm
  have h2 := hp _ hm'
  have hi := inj _ hm _ hm'
  show wpAny (model prog w) A (keyLt' (tuples' true) p.1 q.1) (fun r s' => s' = s ∧ r = decide (k p.1 < k q.1)) (fun _ _ => False) s
  generalize k p.1 = x at h1 hi ⊢
  generalize k q.1 = x' at h2 hi ⊢
  obtain ⟨a, o, xs, t, y, n, e, ho, hc, hd, hx⟩ := h1
  obtain ⟨a', o', xs', t', y', n', e', ho', hc', hd', hx'⟩ := h2
  rw [e, e'] at hi
  rw [e, e']
  refine PySem.W.kat_lt ho hd ho' hd' ?_
  have sz : decide (xs.size < xs'.size) = false := by
    have l1 := congrArg List.length hx
    have l2 := congrArg List.length hx'
    rw [Array.length_toList] at l1 l2
    exact decide_eq_false (by simp at l1 l2; omega)
  rw [hx, hx', sz]
  refine PySem.W.kat_cons (SeqAt.EqAt.int_int x t x' t' prog w _ _ ?_)
  refine PySem.W.kat_go (fun e1 => ?_) (fun e1 => ?_)
  · have ex : x = x' := by simpa using e1
    have ea := hi ex
    cases ea
    rw [ho] at ho'
    cases ho'
    rw [hd] at hd'
    cases hd'
    rw [hx] at hx'
    cases hx'
    refine PySem.W.kat_yes (PySem.W.kat_cons (SeqAt.EqAt.same _ prog w _ _ ?_))
    exact PySem.W.kat_yes (PySem.W.kat_nil ⟨rfl, (decide_eq_false (by omega)).symm⟩)
  · exact PySem.W.kat_no (oneLt_int ⟨rfl, rfl⟩)
theorem rows_sortableO {a : Addr} {vs : List Value} {k : Value → Int} (h0 : 0 < vs.length) (hp : ∀ v ∈ vs, IsRowV s.heap v (k v)) (inj : ∀ v ∈ vs, ∀ u ∈ vs, k v = k u → v = u) (ha : ∀ o, s.heap.get? a = some o → o.cls ≠ .type "tuple") : SrtO.SortableO prog w A s a vs fun v u => decide (k v < k u) := by
  intro h' keep
  have hp' : ∀ v ∈ vs, IsRowV h' v (k v) := fun v hm => by
    obtain ⟨b, o, xs, t, y, n, e, ho, hc, hd, hx⟩ := hp v hm
    exact ⟨b, o, xs, t, y, n, e, keep b o (fun z => by subst z; exact ha o ho hc) ho, hc, hd, hx⟩
  obtain ⟨fs, h1, h2, h3⟩ := row_firsts hp'
  refine ⟨tuples' true, fun Q E hq => ?_, row_cmp (s := { s with heap := h' }) hp' inj⟩
  refine PySem.W.kat_kind (T := .type "int") h1 (by omega) (fun f hm => ?_) (by rfl) ?_
  · obtain ⟨x, t, rfl⟩ := h3 f hm
    exact PySem.W.Looks.now
  · have e : (Value.type "int" != Value.type "tuple") = true := by first | decide +kernel | rfl | decide
    rw [e]
    exact hq
end
/-- sorted(rows): a new list of the rows, by their numbers -/
def rSortedR (K : PySem.W.Frag) : List V → Hp → VK → Prop := fun vs H Q => ∃ (a : Addr) (rows : List (Addr × Int)), vs = [.ref a] ∧ (SqL K H a (rows.map fun r => .ref r.1) ∨ SqT K H a (rows.map fun r => .ref r.1)) ∧ (rows.map (·.2)).Nodup ∧ (∀ r ∈ rows, ∃ y, SqT K H r.1 [.int r.2, y]) ∧
  ∀ (ys : List (Addr × Int)) (p : Addr), ys.Perm rows → ys.Pairwise (fun r q => r.2 ≤ q.2) → H p = none → Q (.ref p) (upd H p (.lst (ys.map fun r => .ref r.1)))
theorem cr_sortedR {X : Cx} : CallR X (.builtin "sorted") (rSortedR X.K) := by
  intro pins s σ H xs us Q I r h
  obtain ⟨a, rows, rfl, hs, hnd, hrow, q⟩ := h
  rw [Vals.ref1 r]
  have seq : ∃ (T : String) (its : List Value) (o : Obj) (n : Nat), (T = "list" ∨ T = "tuple") ∧ Vals (rows.map fun r => V.ref r.1) its ∧ s.heap.get? a = some o ∧ o.cls = .type T ∧ o.data = .seq its.toArray n ∧ (rows.map fun r => V.ref r.1).length ≤ sizeLine := by
    rcases hs with hs | hs
    · obtain ⟨its, rv, hl, hz⟩ := I.list hs
      obtain ⟨o, ho, hc, n, hd⟩ := hl.isList
      exact ⟨"list", its, o, n, .inl rfl, rv, ho, hc, hd, hz⟩
    · obtain ⟨its, rv, hl, hz⟩ := I.tuple hs
      obtain ⟨o, ho, hc, n, hd⟩ := hl
      exact ⟨"tuple", its, o, n, .inr rfl, rv, ho, hc, hd, hz⟩
  obtain ⟨T, its, o, n, hT, rv, ho, hc, hd, hz⟩ := seq
  have hil : its.length ≤ sizeLine := by rw [← rv.length]; exact hz
  have hits : its = rows.map fun r => Value.ref r.1 := by
    clear hd ho hc hs hrow hnd q hz hil
    induction rows generalizing its with
    | nil => cases rv; rfl
    | cons r rows ih =>
      cases rv with
      | cons h t =>
        cases h
        rw [List.map_cons, ih _ t]
  subst hits
  obtain ⟨k, hk⟩ : ∃ k : Value → Int, ∀ v, k v = match v with
    | .ref a => ((rows.find? fun r => decide (r.1 = a)).map (·.2)).getD 0
    | _ => 0 := ⟨_, fun _ => rfl⟩
  have hkr : ∀ r ∈ rows, k (.ref r.1) = r.2 := fun r hr => by
    rw [hk]
    have : ∃ q, rows.find? (fun q => decide (q.1 = r.1)) = some q := by
      cases e : rows.find? fun q => decide (q.1 = r.1) with
      | none => exact absurd (List.find?_eq_none.mp e r hr) (by simp)
      | some q => exact ⟨q, rfl⟩
    obtain ⟨q, e⟩ := this
    simp only [e, Option.map_some, Option.getD_some]
    have e1 : q.1 = r.1 := by simpa using List.find?_some e
    obtain ⟨y, hy⟩ := hrow q (List.mem_of_find?_eq_some e)
    obtain ⟨y', hy'⟩ := hrow r hr
    rw [e1] at hy
    have := I.tuple_inj hy hy'
    injection this with h1 _
    injection h1
  have hinj : ∀ r ∈ rows, ∀ q ∈ rows, r.2 = q.2 → r = q := fun r hr q hq e => by
    obtain ⟨i, hi⟩ := List.getElem?_of_mem hr
    obtain ⟨j, hj⟩ := List.getElem?_of_mem hq
    obtain ⟨i1, i2⟩ := List.getElem?_eq_some_iff.mp hi
    obtain ⟨j1, j2⟩ := List.getElem?_eq_some_iff.mp hj
    have : i = j := (List.getElem_inj (h₀ := by simpa using i1) (h₁ := by simpa using j1) hnd).mp (by rw [List.getElem_map, List.getElem_map, i2, j2]; exact e)
    subst this
    rw [hi] at hj
    exact Option.some.inj hj
  have hp0 : ∀ v ∈ rows.map (fun r => Value.ref r.1), IsRowV s.heap v (k v) := fun v hv => by
    obtain ⟨r, hr, rfl⟩ := List.mem_map.mp hv
    obtain ⟨y, hy⟩ := hrow r hr
    obtain ⟨its2, rv2, hl2, hz2⟩ := I.tuple hy
    obtain ⟨o2, ho2, hc2, n2, hd2⟩ := hl2
    obtain ⟨u1, u2, rfl, r1, r2⟩ := vals2 rv2
    obtain ⟨tk, rfl⟩ := r1
    rw [hkr r hr]
    exact ⟨r.1, o2, _, tk, u2, n2, rfl, ho2, hc2, hd2, rfl⟩
  have hin : ∀ v ∈ rows.map (fun r => Value.ref r.1), ∀ u ∈ rows.map (fun r => Value.ref r.1), k v = k u → v = u := fun v hv u hu e => by
    obtain ⟨r, hr, rfl⟩ := List.mem_map.mp hv
    obtain ⟨q, hq, rfl⟩ := List.mem_map.mp hu
    rw [hkr r hr, hkr q hq] at e
    rw [hinj r hr q hq e]
  refine Calls.call_function_entry PyProof.Rows.kind_sorted PyProof.Rows.plain_sorted PyProof.Rows.entry_sorted (PyProof.Rows.args_sorted1 _) ?_
  unfold Builtin.«sorted»
  refine wpAny_bind (m := checkCount "sorted" 1 1 _) (wpAny_pure ?_)
  refine wpAny_bind (wpAny_collect_seq a hT ho hc hd (fun h' hkeep => ?_) (by simpa using hil))
  rw [List.toList_toArray]
  have I1 : Inv X pins σ H { s with heap := h' } := I.kept (t' := s.toks) hkeep
  refine wpAny_bind (wpAny_newList ?_ hil)
  have hoL : (h'.push (seqObj "list" (rows.map fun r => Value.ref r.1).toArray 0)).get? h'.objs.size = some (seqObj "list" (rows.map fun r => Value.ref r.1).toArray 0) := Heap.get?_push_size _ rfl
  show wpAny _ _ _ _ _ { s with heap := h'.push (seqObj "list" (rows.map fun r => Value.ref r.1).toArray 0) }
  refine wpAny_bind (wpAny_holding (wpAny_call_entry PyProof.Rows.slot_list_sort ⟨_, hoL, rfl⟩ PyProof.Rows.entry_list_sort
    (SrtO.list_sort_ord (s := { s with heap := h'.push (seqObj "list" (rows.map fun r => Value.ref r.1).toArray 0) }) (swo_row k) hoL hil (fun h2 => rows_sortableO (by omega) (fun v hv => ?_) hin fun o e => ?_) fun out h1 h2 => ⟨_, rfl, ?_⟩)
    (PyProof.Rows.args_list_sort _)))
  · obtain ⟨b, o2, xs, tk, y, n2, e, ho2, hc2, hd2, hx2⟩ := hp0 v hv
    exact ⟨b, o2, xs, tk, y, n2, e, Heap.get?_push_of_some _ (hkeep b o2 ho2), hc2, hd2, hx2⟩
  · have e : (h'.push (seqObj "list" (rows.map fun r => Value.ref r.1).toArray 0)).get? h'.objs.size = some o := e
    rw [hoL] at e
    cases e
    intro c
    exact absurd (Value.type.inj c) (by decide)
  · obtain ⟨e', he'⟩ := PyProof.Rows.sortedHeap_at (vs := rows.map fun r => Value.ref r.1) (out := out.toArray) hoL
    obtain ⟨bk, hbk⟩ : ∃ bk : Value → Addr × Int, ∀ v, bk v = match v with
      | .ref a => (a, k (.ref a))
      | _ => (0, 0) := ⟨_, fun _ => rfl⟩
    have hbr : ∀ r ∈ rows, bk (.ref r.1) = r := fun r hr => by rw [hbk]; simp only; rw [hkr r hr]
    have hout : ∀ v ∈ out, ∃ r ∈ rows, v = .ref r.1 := fun v hv => by
      obtain ⟨r, hr, e⟩ := List.mem_map.mp (h2.perm.mem_iff.mp hv)
      exact ⟨r, hr, e.symm⟩
    have hperm : (out.map bk).Perm rows := by
      have := h2.perm.map bk
      rw [List.map_map] at this
      have e : rows.map (bk ∘ fun r => Value.ref r.1) = rows := by
        refine (List.map_congr_left fun r hr => hbr r hr).trans (List.map_id' rows)
      rw [e] at this
      exact this
    have hback : out.map (fun v => V.ref (bk v).1) = (out.map bk).map fun r => V.ref r.1 := by rw [List.map_map]; rfl
    have hvals : Vals ((out.map bk).map fun r => V.ref r.1) out := by
      rw [← hback]
      clear h1 h2 e' he' hperm hback
      induction out with
      | nil => exact .nil
      | cons v out ih =>
        obtain ⟨r, hr, rfl⟩ := hout v (List.mem_cons_self ..)
        rw [List.map_cons, hbr r hr]
        exact .cons rfl (ih fun u hu => hout u (List.mem_cons_of_mem _ hu))
    have hsrt : (out.map bk).Pairwise fun r q => r.2 ≤ q.2 := by
      refine List.pairwise_map.mpr (List.Pairwise.imp_of_mem ?_ h1)
      intro v u hv hu hle
      obtain ⟨r, hr, rfl⟩ := hout v hv
      obtain ⟨q, hq, rfl⟩ := hout u hu
      rw [hbr r hr, hbr q hq]
      have hle := of_decide_eq_false hle
      rw [hkr r hr, hkr q hq] at hle
      omega
    have hlen : ((out.map bk).map fun r => V.ref r.1).length ≤ sizeLine := by
      rw [List.length_map, hperm.length_eq]
      rw [List.length_map] at hil
      exact hil
    refine wpAny_pure ⟨_, rfl, .ref h'.objs.size, upd H h'.objs.size (.lst ((out.map bk).map fun r => V.ref r.1)), I1.laid (t' := s.toks) (fun b u e => ?_) (Nat.le_refl _)
      (show ObjOk X.prog X.w _ _ _ (.lst ((out.map bk).map fun r => V.ref r.1)) from ⟨hlen, out, e', hvals, he'⟩), rfl, q _ _ hperm hsrt (I1.hok.fresh (Nat.le_refl _))⟩
    have hb : b < h'.objs.size := Heap.lt_size e
    rw [PyProof.Rows.sortedHeap_old (Nat.ne_of_lt hb) (by rw [size_push']; exact Nat.lt_succ_of_lt hb)]
    exact Heap.get?_push_of_some _ e
end VL

/-! sorted of rows; a dict of new lists; a dict of lists comes to rest. -/
namespace VL
open PySem PySem.Spec PyProof.Rows L2
theorem perm_map_inv {α β : Type} {f : α → β} {ys zs : List β} (h : ys.Perm zs) : ∀ l : List α, zs = l.map f → ∃ l' : List α, List.Perm l' l ∧ ys = l'.map f := by
  induction h with
  | nil =>
    intro l e
    cases l with
    | nil => exact ⟨[], List.Perm.nil, rfl⟩
    | cons x l => cases e
  | cons x p ih =>
    intro l e
    cases l with
    | nil => cases e
    | cons y l =>
      rw [List.map_cons] at e
      injection e with e1 e2
      obtain ⟨l', h1, h2⟩ := ih l e2
      exact ⟨y :: l', h1.cons y, by rw [List.map_cons, ← h2, e1]⟩
  | swap x y l0 =>
    intro l e
    match l, e with
    | a :: b :: l, e =>
      rw [List.map_cons, List.map_cons] at e
      injection e with e1 e2
      injection e2 with e2 e3
      exact ⟨b :: a :: l, .swap a b l, by rw [List.map_cons, List.map_cons, ← e1, ← e2, ← e3]⟩
  | trans p q ih1 ih2 =>
    intro l e
    obtain ⟨l1, h1, e1⟩ := ih2 l e
    obtain ⟨l2, h2, e2⟩ := ih1 l1 e1
    exact ⟨l2, h2.trans h1, e2⟩
/-- a row: a number first -/
def rowD (r : Int × PyData) : PyData := .tuple [.int r.1, r.2]
theorem rpa_rows {K : PySem.W.Frag} {H : Hp} : ∀ {vs : List V} {rs : List (Int × PyData)}, RpA K H vs (rs.map rowD) → ∃ zs : List (Addr × (Int × PyData)), zs.map (·.2) = rs ∧ vs = zs.map (fun z => V.ref z.1) ∧ ∀ z ∈ zs, Rp K H (.ref z.1) (rowD z.2) ∧ ∃ y, SqT K H z.1 [.int z.2.1, y]
  | _, [], .nil => ⟨[], rfl, rfl, fun z hz => (nomatch hz)⟩
  | _, r :: rs, .cons h t => by
    obtain ⟨zs, h1, h2, h3⟩ := rpa_rows t
    have h' := h
    unfold rowD at h
    cases h with
    | @tup a xs ds hs hr =>
      cases hr with
      | cons i1 r1 =>
        cases i1
        cases r1 with
        | cons i2 r2 =>
          cases r2
          refine ⟨(a, r) :: zs, by rw [List.map_cons, h1], by rw [List.map_cons, h2], fun z hz => ?_⟩
          rcases List.mem_cons.mp hz with rfl | hz
          · exact ⟨h', _, hs⟩
          · exact h3 z hz
theorem rpa_rows_of {K : PySem.W.Frag} {H : Hp} : ∀ {zs : List (Addr × (Int × PyData))}, (∀ z ∈ zs, Rp K H (.ref z.1) (rowD z.2)) → RpA K H (zs.map fun z => V.ref z.1) ((zs.map (·.2)).map rowD)
  | [], _ => .nil
  | z :: zs, h => .cons (h z (List.mem_cons_self ..)) (rpa_rows_of fun y hy => h y (List.mem_cons_of_mem _ hy))
section
variable {C : Ctx} {ta : TE} {da : DE}
@[simp] def oSortedR (da : DE) : DO := fun δ Φ => da δ fun x => ∃ rs : List (Int × PyData), (x = .tuple (rs.map rowD) ∨ x = .list (rs.map rowD)) ∧ (rs.map (·.1)).Nodup ∧ ∀ ms : List (Int × PyData), ms.Perm rs → ms.Pairwise (fun r q => r.1 ≤ q.1) → Φ (ms.map rowD)
theorem smo_sortedR (ha : Sm C true ta da) : SmO C (tCB (rSortedR C.K) (tCons ta tNil)) (oSortedR da) := fun σ δ H0 H Φ Q s w q =>
  ha σ δ H0 H _ _ s w fun H01 H1 v x g1 r1 ⟨rs, e, nd, p⟩ => by
    have sq : ∃ (b : Addr) (vs : List V), v = .ref b ∧ (SqL C.K H1 b vs ∨ SqT C.K H1 b vs) ∧ RpA C.K H01 vs (rs.map rowD) := by
      rcases e with e | e
      · subst e
        cases r1 with
        | @tup b vs _ h r => exact ⟨b, vs, rfl, .inr (same_t g1.wf.sub h), r⟩
      · subst e
        cases r1 with
        | @lst b vs _ h r => exact ⟨b, vs, rfl, .inl (SqL.of (g1.wf.sub _ _ h)), r⟩
    obtain ⟨b, vs, rfl, hs, hr⟩ := sq
    obtain ⟨zs, z1, z2, z3⟩ := rpa_rows hr
    subst z2
    have em : (zs.map fun z => (z.1, z.2.1)).map (fun r : Addr × Int => V.ref r.1) = zs.map fun z => V.ref z.1 := by rw [List.map_map]; rfl
    have e2 : (zs.map fun z => (z.1, z.2.1)).map (fun r : Addr × Int => r.2) = rs.map (·.1) := by rw [← z1, List.map_map, List.map_map]; rfl
    refine ⟨b, zs.map fun z => (z.1, z.2.1), rfl, by rw [em]; exact hs, by rw [e2]; exact nd, fun r hm => ?_, fun ys l hp hs hl => ?_⟩
    · obtain ⟨z, hz, rfl⟩ := List.mem_map.mp hm
      obtain ⟨_, y, hy⟩ := z3 z hz
      exact ⟨y, same_t g1.wf.sub hy⟩
    · obtain ⟨zs', h1, h2⟩ := perm_map_inv hp zs rfl
      have e3 : ys.map (fun r : Addr × Int => V.ref r.1) = zs'.map fun z => V.ref z.1 := by rw [h2, List.map_map]; rfl
      rw [e3]
      refine q _ _ l _ _ (g1.trans (Go.free (o := .lst _) g1.wf hl)) (g1.fresh hl) (g1.wf.none hl) upd_same (rpa_rows_of fun z hz => (z3 z (h1.mem_iff.mp hz)).1) (p (zs'.map (·.2)) (by rw [← z1]; exact h1.map _) ?_)
      rw [h2] at hs
      exact List.pairwise_map.mpr ((List.pairwise_map (R := fun (r q : Addr × Int) => r.2 ≤ q.2)).mp hs)
end
/-! ### slot = {key: [] for target in source} -/
section
variable {C : Ctx} {H0 H : Hp} {σ : L2.St} {δ : Dl} {tk : TE} {dk : DE} {g : TG} {dg : DG} {ti : TI} {di : DI} {m : Sto} {ts : TS} {ds : DS}
theorem CVk.put_new {K : PySem.W.Frag} {H : Hp} {k : Key} {v : V} {c : CV} (h : CVR K H v c) : ∀ {vs : List (Key × V)} {es : List (Key × CV)}, CVk K H vs es → k ∉ vs.map (·.1) → CVk K H (putK vs k v) (es ++ [(k, c)]) := fun {vs es} r n => by
  have : putK vs k v = vs ++ [(k, v)] := by
    unfold putK
    rw [if_neg]
    intro z
    obtain ⟨e, he, hk⟩ := List.any_eq_true.mp z
    exact n (List.mem_map.mpr ⟨e, he, of_decide_eq_true hk⟩)
  rw [this]
  clear n this
  induction r with
  | nil => exact .cons h .nil
  | cons a _ ih => exact .cons a ih
theorem cvk_zip {K : PySem.W.Frag} {H : Hp} : ∀ (ks : List Key) (bs : List Addr), CVk K H (ks.zip (bs.map V.ref)) (ks.zip (bs.map CV.r))
  | [], _ => .nil
  | _ :: _, [] => .nil
  | k :: ks, b :: bs => .cons rfl (cvk_zip ks bs)
def dSetND (i : Nat) (di : DI) (own : List Nat) (dg : DG) (dk : DE) : DS := fun E δ => di δ fun (xs : List PyData) => ∃ ks : List Key, ks.length = xs.length ∧ ks.Nodup ∧ xs.length < sizeLine ∧
  (∀ (k : Nat) (y : PyData), xs[k]? = some y → dg y (dwipe δ own) fun δ' => dk δ' fun u => ∃ ky, ks[k]? = some ky ∧ u = keyD ky) ∧
  ∀ (a : Addr) (bs : List Addr), (a :: bs).Nodup → bs.length = xs.length → E.nx (δ.set i (some (.reg (.ref a) ((a, .D (ks.zip (bs.map .r))) :: bs.map fun b => (b, .l [])))))
theorem sms_setND {own : List Nat} (i : Nat) (hk : Kps own g) (hi : SmI C ti di) (hg : SmG C g dg) (hkk : Sm C true tk dk) : SmS C (tAsg (tDc ti g tYes tk (tLst tNil) own) (gName i)) (dSetND i di own dg dk) := fun σ δ H0 H E D' s w e =>
  hi σ δ H0 H _ _ s w fun H01 H1 J xs g1 wk ⟨ks, kl, knd, hxs, it, ie⟩ D hD => by
    have hD0 : H D = none := g1.fresh hD
    have nex : C.ex ≠ some D := (Go.he g1.wf hD).2
    refine ⟨fun k m H' => m = xs.length - k ∧ k ≤ xs.length ∧ ∃ H0' bs, Go C H01 H1 H0' H' ∧ H0' D = none ∧ H' D = some (.dK ((ks.take k).zip (bs.map V.ref))) ∧ bs.length = k ∧ (D :: bs).Nodup ∧ ∀ b ∈ bs, H1 b = none ∧ H0' b = none ∧ H' b = some (.lst []), ⟨_, rfl, Nat.zero_le _, H01, [], Go.free g1.wf hD, g1.wf.none hD, by rw [upd_same]; rfl, rfl, by simp, fun b hb => (nomatch hb)⟩, ?_⟩
    rintro k m H' ⟨rfl, hk', H0', bs, g2, hn, hl, hbl, nd, hb⟩
    by_cases hlt : k < xs.length
    · refine .inr ⟨wk.go H0' H' k g2.fz g2.wf hlt, fun H3 => ∃ H0' bs, Go C H01 H1 H0' H3 ∧ H0' D = none ∧ H3 D = some (.dK ((ks.take (k + 1)).zip (bs.map V.ref))) ∧ bs.length = k + 1 ∧ (D :: bs).Nodup ∧ ∀ b ∈ bs, H1 b = none ∧ H0' b = none ∧ H3 b = some (.lst []), fun H3 h => ⟨_, by omega, rfl, hlt, h⟩, fun v H'' y => ?_⟩
      obtain ⟨H02, z, g3, hz, rz⟩ := wk.yld H0' H' k v H'' g2.fz g2.wf hlt y
      have g23 := g2.trans g3
      have sw : St C H02 H'' (wipe σ own) (dwipe δ own) := (s.go (g1.trans g23)).wipe own
      obtain ⟨NX, hNX⟩ : ∃ NX : Hp → Prop, NX = fun H3 => ∃ H0' bs, Go C H01 H1 H0' H3 ∧ H0' D = none ∧ H3 D = some (.dK ((ks.take (k + 1)).zip (bs.map V.ref))) ∧ bs.length = k + 1 ∧ (D :: bs).Nodup ∧ ∀ b ∈ bs, H1 b = none ∧ H0' b = none ∧ H3 b = some (.lst []) := ⟨_, rfl⟩
      rw [← hNX]
      have fin := hk v (wipe σ own) H'' _ (hg v z (wipe σ own) (dwipe δ own) H02 H'' _ (fun σ2 H2 => tYes σ2 H2 fun b H3 => if b = true then tk σ2 H3 fun y H4 => (tLst tNil) σ2 H4 fun z H5 => ∃ kvs ky, y = kV ky ∧ H5 D = some (.dK kvs) ∧ kvs.length < sizeLine ∧ NX (upd H5 D (.dK (putK kvs ky z))) else NX H3) sw rz (it k z hz) fun σ2 δ2 s2 w2 => ?_)
      · rw [wipe_wipe] at fin
        exact fin
      dsimp only [tYes]
      rw [if_pos rfl]
      refine hkk σ2 δ2 H02 H'' _ _ s2 w2 fun H05 H5 y' u' g5 r5 ⟨ky, hky, eu⟩ => ?_
      subst eu
      obtain rfl := rp_key r5
      refine ⟨by show 0 ≤ sizeLine; exact Nat.zero_le _, fun p hp => ?_⟩
      have g35 := g3.trans g5
      have keep : ∀ {b : Addr} {o : HO}, C.ex ≠ some b → H0' b = none → H' b = some o → H05 b = none ∧ H5 b = some o := fun {b o} n h0 h => by
        have h1 := g35.kp b _ n h
        refine ⟨?_, h1⟩
        cases e : H05 b with
        | none => rfl
        | some u =>
          rcases g35.nw b u e with h2 | h2
          · rw [h0] at h2; cases h2
          · rw [h] at h2; cases h2
      have kD := keep nex hn hl
      have g25 := g2.trans g35
      have gp := Go.free (o := .lst []) g35.wf hp
      have g4 := g25.trans gp
      have nDp : D ≠ p := fun z => by rw [z, hp] at kD; cases kD.2
      have hDp : (upd H5 p (.lst [])) D = some (.dK ((ks.take k).zip (bs.map V.ref))) := by rw [upd_ne nDp]; exact kD.2
      have p1 : H1 p = none := (g25.fresh hp)
      have hkl : k < ks.length := by omega
      have tk1 : ks.take (k + 1) = ks.take k ++ [ky] := by rw [List.take_add_one, hky]; rfl
      have ln : (ks.take k).length = (bs.map V.ref).length := by rw [List.length_take, List.length_map, hbl]; omega
      have knew : ky ∉ ((ks.take k).zip (bs.map V.ref)).map (·.1) := by
        rw [List.map_fst_zip (by omega)]
        intro hm
        obtain ⟨j, hj⟩ := List.getElem?_of_mem hm
        have hj1 := (List.getElem?_eq_some_iff.mp hj).1
        rw [List.length_take] at hj1
        rw [List.getElem?_take_of_lt (by omega)] at hj
        have h1 := List.getElem?_eq_some_iff.mp hj
        have h2 := List.getElem?_eq_some_iff.mp hky
        obtain ⟨a1, a2⟩ := h1
        obtain ⟨b1, b2⟩ := h2
        have := (List.getElem_inj (h₀ := a1) (h₁ := b1) knd).mp (a2.trans b2.symm)
        omega
      have hput : putK ((ks.take k).zip (bs.map V.ref)) ky (.ref p) = (ks.take (k + 1)).zip ((bs ++ [p]).map V.ref) := by
        unfold putK
        rw [if_neg, tk1, List.map_append, List.zip_append ln]
        · rfl
        · intro z
          obtain ⟨e, he, hk2⟩ := List.any_eq_true.mp z
          exact knew (List.mem_map.mpr ⟨e, he, of_decide_eq_true hk2⟩)
      refine ⟨_, ky, rfl, hDp, by rw [List.length_zip, List.length_take, List.length_map]; omega, ?_⟩
      rw [hNX, hput]
      refine ⟨H05, bs ++ [p], ?_, kD.1, upd_same, by rw [List.length_append, hbl]; rfl, ?_, fun b hb' => ?_⟩
      · refine ⟨⟨fun b u e => ?_, fun b u n e => ?_, g4.wf.fz, g4.wf.nw, fun c e => ?_⟩, g4.fz, fun b u n e => ?_, g4.nw⟩
        · rw [upd_ne (fun z => by rw [z, kD.1] at e; cases e)]; exact g4.wf.sub b u e
        · rw [upd_ne (fun z => by rw [z, (Go.he g1.wf hD).1] at e; cases e)]; exact g4.wf.kp b u n e
        · exact (g4.wf.dr c e).keep (Same.refl _) (g4.wf.dr c e).no (upd_ne (fun z => nex (by rw [← z]; exact e)))
        · rw [upd_ne (fun z => by rw [z, hD] at e; cases e)]; exact g4.kp b u n e
      · have nd2 := List.nodup_cons.mp nd
        refine List.nodup_cons.mpr ⟨fun z => ?_, List.nodup_append.mpr ⟨nd2.2, by simp, fun a ha c hc => ?_⟩⟩
        · rcases List.mem_append.mp z with z | z
          · exact nd2.1 z
          · exact nDp (List.mem_singleton.mp z)
        · rw [List.mem_singleton.mp hc]
          intro q
          subst q
          have hba := hb a ha
          have := (keep (Go.he g1.wf hba.1).2 hba.2.1 hba.2.2).2
          rw [hp] at this; cases this
      · rcases List.mem_append.mp hb' with hb' | hb'
        · have hba := hb b hb'
          have k1 := keep (Go.he g1.wf hba.1).2 hba.2.1 hba.2.2
          have n1 : b ≠ D := fun z => (List.nodup_cons.mp nd).1 (z ▸ hb')
          have n2 : b ≠ p := fun z => by rw [z, hp] at k1; cases k1.2
          exact ⟨hba.1, k1.1, by rw [upd_ne n1, upd_ne n2]; exact k1.2⟩
        · rw [List.mem_singleton.mp hb']
          exact ⟨p1, g35.wf.none hp, by rw [upd_ne (fun z => nDp z.symm), upd_same]⟩
    · have hk2 : k = xs.length := by omega
      have gg := g1.trans g2
      refine .inl ⟨wk.stop H0' H' k g2.fz g2.wf (by omega), ?_⟩
      have sg := s.go gg
      have hhe : ∀ {b : Addr}, H1 b = none → C.He b = none ∧ C.ex ≠ some b := fun h => Go.he g1.wf h
      have tkk : ks.take k = ks := List.take_of_length_le (by omega)
      rw [tkk] at hl
      refine e.nx H0' H' _ _ gg.fz (sg.reset i (v' := .ref D) (r' := .reg (.ref D) ((D, .D (ks.zip (bs.map .r))) :: bs.map fun b => (b, .l []))) ⟨rfl, ?_, fun a c hm => ?_⟩ fun b hb' l q n hl' => ?_) (ie D bs nd (hbl.trans hk2))
      · rw [List.map_cons, List.map_map]
        have : (bs.map ((fun x : Addr × Cell => x.1) ∘ fun b => (b, Cell.l []))) = bs := by
          refine (List.map_congr_left fun b _ => ?_).trans (List.map_id' bs)
          rfl
        rw [this]
        exact nd
      · rcases List.mem_cons.mp hm with hm | hm
        · cases hm
          exact ⟨hn, (hhe hD).1, nex, _, hl, _, rfl, cvk_zip ks bs⟩
        · obtain ⟨b, hb1, hb2⟩ := List.mem_map.mp hm
          cases hb2
          have hba := hb _ hb1
          exact ⟨hba.2.1, (hhe hba.1).1, (hhe hba.1).2, _, hba.2.2, _, rfl, .nil⟩
      · have hb' : b ∈ ((D, Cell.D (ks.zip (bs.map .r))) :: bs.map fun b => (b, Cell.l [])).map (fun q : Addr × Cell => q.1) := hb'
        rw [List.map_cons, List.map_map] at hb'
        have hfb : H b = none := by
          rcases List.mem_cons.mp hb' with hb' | hb'
          · rw [hb']; exact hD0
          · obtain ⟨b2, hb3, hb4⟩ := List.mem_map.mp hb'
            have : b2 = b := hb4
            subst this
            exact g1.fresh (hb b2 hb3).1
        exact s.fresh hfb hl'
/-! ### a dict of lists comes to rest: its lists are data from here on -/
theorem cvk_rows {K : PySem.W.Frag} {H : Hp} : ∀ {vs : List (Key × V)} {rows : List (Key × Addr × List PyData)}, CVk K H vs (rows.map fun p => (p.1, CV.r p.2.1)) → vs = rows.map fun p => (p.1, V.ref p.2.1)
  | _, [], .nil => rfl
  | _, p :: rows, .cons h r => by rw [List.map_cons, cvk_rows r]; rw [show _ = V.ref p.2.1 from h]
theorem St.settleD {a : Addr} {rows : List (Key × Addr × List PyData)} (s : St C H0 H σ δ) (i : Nat) (e : δ[i]? = some (some (.reg (.ref a) m))) (ha : m.at a = some (.D (rows.map fun p => (p.1, .r p.2.1)))) (hr : ∀ p ∈ rows, m.at p.2.1 = some (.l (p.2.2.map .d))) :
    ∃ H0', Same H0 H0' ∧ St C H0' H σ (δ.set i (some (.dct a (rows.map fun p => (p.1, .list p.2.2))))) := by
  obtain ⟨v, e1, hv⟩ := s.sl i _ e
  have ev : v = .ref a := hv.1
  subst ev
  obtain ⟨S, hS⟩ : ∃ S : List Addr, S = rows.map (·.2.1) := ⟨_, rfl⟩
  have inm : ∀ b ∈ S, b ∈ m.map (·.1) ∧ H0 b = Option.none ∧ C.He b = Option.none ∧ C.ex ≠ some b := fun b hb => by
    have hb : b ∈ m.map (·.1) := by
      rw [hS] at hb
      obtain ⟨p, hp, rfl⟩ := List.mem_map.mp hb
      exact sat_dom (hr p hp)
    have := hv.adr hb
    exact ⟨hb, this.1, this.2.1, this.2.2⟩
  have naS : a ∉ S := fun z => by
    rw [hS] at z
    obtain ⟨p, hp, z⟩ := List.mem_map.mp z
    have := hr p hp
    rw [z, ha] at this
    cases this
  obtain ⟨F, hF⟩ : ∃ F : Hp, F = fun b => if b ∈ S then H b else H0 b := ⟨_, rfl⟩
  have fin : ∀ {b : Addr}, b ∈ S → F b = H b := fun {b} h => by rw [hF]; exact if_pos h
  have fout : ∀ {b : Addr}, b ∉ S → F b = H0 b := fun {b} h => by rw [hF]; exact if_neg h
  have gr : Same H0 F := fun b o q => by
    rw [fout (fun z => by rw [(inm b z).2.1] at q; cases q)]; exact q
  refine ⟨F, gr, ⟨fun b o q => ?_, s.kp, s.fz.trans gr, fun b o q => ?_, fun p q => ?_⟩, by rw [List.length_set, s.len], fun j p q => ?_, fun j k b c p q n q1 q2 a1 a2 => ?_⟩
  · by_cases hb : b ∈ S
    · rw [fin hb] at q; exact q
    · rw [fout hb] at q; exact s.sub b o q
  · by_cases hb : b ∈ S
    · exact .inr (inm b hb).2.2.1
    · rw [fout hb] at q; exact s.nw b o q
  · exact (s.dr p q).keep gr (by rw [fout (fun z => (inm p z).2.2.2 q)]; exact (s.dr p q).no) rfl
  · rcases set_at q with ⟨z, rfl⟩ | ⟨z, q⟩
    · subst z
      refine ⟨_, e1, ?_⟩
      obtain ⟨b1, b2, b3, o, ho, vs, rfl, hc⟩ := reg_at hv ha
      refine ⟨rfl, by rw [fout naS]; exact b1, b2, b3, vs, ho, ?_⟩
      rw [cvk_rows hc]
      have one : ∀ p ∈ rows, Rp C.K F (.ref p.2.1) (.list p.2.2) := fun p hp => by
        obtain ⟨_, _, _, o, ho, vs, rfl, hc⟩ := reg_at hv (hr p hp)
        exact .lst (by rw [fin (by rw [hS]; exact List.mem_map.mpr ⟨p, hp, rfl⟩)]; exact ho) (hc.rpa.mono gr)
      clear hc ho ha hr inm hS q
      induction rows with
      | nil => exact .nil
      | cons p rows ih => exact .cons (one p (List.mem_cons_self ..)) (ih fun q hq => one q (List.mem_cons_of_mem _ hq))
    · obtain ⟨u, f1, f2⟩ := s.sl j p q
      refine ⟨u, f1, f2.move gr fun b hb => ⟨?_, fun _ h => h⟩⟩
      have nb : b ∉ S := fun zb => s.sep j i b b p _ (fun z' => z z'.symm) q e hb (inm b zb).1 rfl
      rw [fout nb]
      exact (f2.adr hb).1
  · have sub : ∀ {l : Nat} {p : R}, (δ.set i (some (R.dct a (rows.map fun p => (p.1, .list p.2.2)))))[l]? = some (some p) → ∀ b, b ∈ p.adr → ∃ p', δ[l]? = some (some p') ∧ b ∈ p'.adr := fun {l p} ql b hb => by
      rcases set_at ql with ⟨z, rfl⟩ | ⟨z, ql⟩
      · subst z
        have : b = a := List.mem_singleton.mp hb
        subst this
        exact ⟨_, e, sat_dom ha⟩
      · exact ⟨p, ql, hb⟩
    obtain ⟨p', h1, h2⟩ := sub q1 b a1
    obtain ⟨q', h3, h4⟩ := sub q2 c a2
    exact s.sep j k b c p' q' n h1 h3 h2 h4
@[simp] def dSettleD (i : Nat) (d : DS) : DS := fun E δ => ∃ (a : Addr) (m : Sto) (rows : List (Key × Addr × List PyData)), δ[i]? = some (some (.reg (.ref a) m)) ∧ m.at a = some (.D (rows.map fun p : Key × Addr × List PyData => (p.1, .r p.2.1))) ∧ (∀ p ∈ rows, m.at p.2.1 = some (.l (p.2.2.map .d))) ∧ d E (δ.set i (some (.dct a (rows.map fun p => (p.1, .list p.2.2)))))
theorem sms_settleD (i : Nat) (h : SmS C ts ds) : SmS C ts (dSettleD i ds) := fun σ δ H0 H E D s ⟨a, m, rows, h1, h2, h3, w⟩ e => by
  obtain ⟨H0', g, s'⟩ := s.settleD i h1 h2 h3
  exact h σ _ H0' H E D s' w (e.mono g)
end
theorem kx_sortedR {X : Cx} {K : PySem.W.Frag} (h : X.K = K) : CallR X (.builtin "sorted") (rSortedR K) := by subst h; exact cr_sortedR
/-! ### hand layer: name = {..} on one line, the name a local -/
section
open PyProof.Rows
variable {X : Cx}
theorem ps_setDc {i : Nat} {y : Str} {py : Pos} {kx vx tg iter : Expr} {ifs : List Expr} {scope : Scope} {own : List (Str × Nat)} {pos spos : Pos} {wi : TI} {g : TG} {tt : TT} {tk tv : TE} (hc : X.calm = true) (hN : X.N.Nodup) (hy : X.N[i]? = some y) (hyl : X.env.scope.names.lookup y = some .local)
    (hsw : swapsWith (.DictComp kx vx [⟨tg, iter, ifs, 0⟩] scope pos) (some (.Name y py)) spos.line X.env = pure true) (hi : PI X tg iter wi) (ok : BlkOk X.N X.env.scope scope own)
    (hg : ∀ (s : Shared) (H : Hp) (C : Addr) (cl : List (Str × Addr)) (fp : List Addr), PG (X.blk s H scope (compEnvC scope cl C X.env) fp) tg g) (ht : ∀ (s : Shared) (H : Hp) (C : Addr) (cl : List (Str × Addr)) (fp : List Addr), PTs (X.blk s H scope (compEnvC scope cl C X.env) fp) ifs tt)
    (hk : ∀ (s : Shared) (H : Hp) (C : Addr) (cl : List (Str × Addr)) (fp : List Addr), PE (X.blk s H scope (compEnvC scope cl C X.env) fp) kx tk)
    (he : ∀ (s : Shared) (H : Hp) (C : Addr) (cl : List (Str × Addr)) (fp : List Addr), PE (X.blk s H scope (compEnvC scope cl C X.env) fp) vx tv) (hs : ∀ x, foldedSetIterable iter X.env x = pure x := by intro _; rfl) :
    PS X (.Assign [.Name y py] (.DictComp kx vx [⟨tg, iter, ifs, 0⟩] scope pos) spos) (tAsg (tDc wi g tt tk tv (own.map (·.2))) (gName i)) := by
  refine ⟨fun pins s σ H D I h => ?_⟩
  rw [exec_Assign_Name_used _ _ _ _ hsw]
  refine wpAny_bind (wpAny_standAt (wpAny_bind ?_))
  show wpAny _ X.A (do let _ ← comprehension (.DictComp kx vx [⟨tg, iter, ifs, 0⟩] scope pos) scope X.env (firstIterPos [⟨tg, iter, ifs, 0⟩] pos) newDict false (eval iter X.env) (some (assign (.Name y py) X.env))) _ _ s
  have h : tDc wi g tt tk tv (own.map (·.2)) σ H (fun x H1 => gName i x σ H1 D.nx) := h
  refine wpAny_bind (thn (dc_core (Qf := fun _ s' => SP X pins D .next s') hc hN I hi ok hg ht hk he hs h fun L C s' m H' I' q hn f => ?_) fun _ s' hq => wpAny_pure (wpAny_pure hq))
  show wpAny _ _ (assign (.Name y py) X.env (.ref L)) _ _ _
  refine wpAny_assign_Name (store_ok2 (v := V.ref L) I' hN hy (.inl hyl) rfl (fun s2 I2 ⟨a, sb, ha⟩ => ?_) (.inr hyl))
  obtain ⟨f0, f1, f2, f3, f4, f5⟩ := f
  have haC : C ≠ a := by
    rcases ha with z | z
    · rw [z]; exact f1
    · exact fun e => f4 y a z e.symm
  refine ⟨m, hn.sameBut sb haC, fun h3 sb3 => ?_⟩
  exact ⟨_, H', I2.turned (t' := s2.toks) (fun b o hb e => (sb3.2 b hb).trans e) f0 f1 f3 f4 f5, q⟩
theorem sw_trueD {kx vx : Expr} {gs : List Comprehension} {scope : Scope} {pos py : Pos} {y : Str} {l : Nat} {env : Env} (hk : env.scope.kind = .function) (hy : env.scope.names.lookup y = some .local) (hl : (py.line == pos.line) = true)
    (ha : (scope.names.any fun (n, k) => n == y && (k == .local || k == .cell)) = false) : swapsWith (.DictComp kx vx gs scope pos) (some (.Name y py)) l env = pure true := by
  have ky : env.kindOf y = some .local := hy
  have hb : env.blockKind = .function := by unfold Env.blockKind; rw [hk]; rfl
  unfold swapsWith
  simp only [hb, ky, ha, Expr.pos, hl]
  rfl
end
/-- whether a tuple or a list has items -/
theorem kpt_truth {X : Cx} {K : PySem.W.Frag} {a : Expr} {ta : TE} (h : X.K = K) (ha : PE X a ta) (he : ∀ whole, isTrue a X.env whole = (do let v ← whole; standAt a.pos; holding [v] (truthy v))) : PT X a (fun σ H Q => ta σ H fun x H' => ∃ k, TruV K x H' k ∧ Q k H') := by
  subst h
  exact pt_truth ha he
@[simp] def dTruS (da : DE) : DT := fun δ Φ => da δ fun x => ∃ xs, (x = .list xs ∨ x = .tuple xs) ∧ Φ (!xs.isEmpty)
theorem smt_truS {C : Ctx} {ta : TE} {da : DE} (ha : Sm C true ta da) : SmT C (fun σ H Q => ta σ H fun x H' => ∃ k, TruV C.K x H' k ∧ Q k H') (dTruS da) := fun σ δ H0 H Φ Q s w q =>
  ha σ δ H0 H _ _ s w fun H01 H1 v x g1 r1 ⟨xs, e, p⟩ => by
    have emp : ∀ {vs : List V}, RpA C.K H01 vs xs → (!xs.isEmpty) = !vs.isEmpty := fun {vs} r => by
      have := r.length
      cases vs <;> cases xs <;> simp at this ⊢
    rcases e with e | e
    · subst e
      cases r1 with
      | @lst a vs _ h r => exact ⟨_, .inl ⟨vs, SqL.of (g1.wf.sub _ _ h), emp r⟩, q _ _ _ g1 p⟩
    · subst e
      cases r1 with
      | @tup a vs _ h r => exact ⟨_, .inr (.inl ⟨vs, same_t g1.wf.sub h, emp r⟩), q _ _ _ g1 p⟩
end VL

/-! d.setdefault(k, []) in a region; X.append where X makes things; slot = {} as a region's root; xs[::-1]. -/
namespace VL
open PySem L2
section
variable {C : Ctx} {H0 H H0' H' : Hp} {σ : L2.St} {δ : Dl} {te ta tb : TE} {de da dk : DE} {dx dx2 : DX} {f2 : Bool} {m : Sto}
theorem CVk.noV {K : PySem.W.Frag} {k : Key} : ∀ {vs : List (Key × V)} {cs : List (Key × CV)}, CVk K H vs cs → getC cs k = none → valV vs k = none
  | _, _, .nil, _ => rfl
  | (k', v) :: vs, (_, c) :: cs, .cons h r, e => by
    unfold getC at e
    rw [List.find?_cons] at e
    unfold valV
    rw [List.find?_cons]
    by_cases q : k' = k
    · simp [q] at e
    · simp only [q, decide_false] at e ⊢
      exact CVk.noV r e
theorem CVk.snoc {K : PySem.W.Frag} {k : Key} {v : V} {c : CV} (h : CVR K H v c) : ∀ {vs : List (Key × V)} {cs : List (Key × CV)}, CVk K H vs cs → CVk K H (vs ++ [(k, v)]) (cs ++ [(k, c)])
  | _, _, .nil => .cons h .nil
  | _, _, .cons a r => .cons a (CVk.snoc h r)
/-- slot.setdefault(key, []) -/
@[simp] def xSetd (i : Nat) (dk : DE) : DX := fun δ Φ => ∃ (a : Addr) (m : Sto) (es : List (Key × CV)), δ[i]? = some (some (.reg (.ref a) m)) ∧ m.at a = some (.D es) ∧ es.length < sizeLine ∧ dk δ fun y => ∃ k : Key, y = keyD k ∧
  (∀ c, getC es k = some c → Φ δ c) ∧ (getC es k = none → ∀ b, NewIn b m → Φ (δ.set i (some (.reg (.ref a) (Sto.put (m ++ [(b, .l [])]) a (.D (es ++ [(k, .r b)])))))) (.r b))
theorem smx_setd (i : Nat) (hk : Sm C f2 tb dk) : SmX C (tDSetd (tVar i) tb (tLst tNil)) (xSetd i dk) := fun σ δ H0 H Φ Q s ⟨a, m, es, e0, em, hl, w⟩ q => by
  obtain ⟨v, e1, hv⟩ := s.sl i _ e0
  have ev : v = .ref a := hv.1
  subst ev
  obtain ⟨_, _, _, o, ho, vs, rfl, hc⟩ := reg_at hv em
  refine ⟨_, e1, a, rfl, .inl ⟨vs, .inl ho⟩, hk σ δ H0 H _ _ s w fun H01 H1 y0 y g1 r1 ⟨k, ey, hyes, hno⟩ => ?_⟩
  subst ey
  obtain rfl := rp_key r1
  refine ⟨by show 0 ≤ sizeLine; exact Nat.zero_le _, fun p hp => ?_⟩
  have s1 := s.go g1
  have gp := Go.free (o := .lst []) g1.wf hp
  have s2 := s1.go gp
  obtain ⟨v2, _, hv2⟩ := s2.sl i _ e0
  obtain ⟨_, _, _, o2, ho2, vs2, rfl, hc2⟩ := reg_at hv2 em
  refine ⟨vs2, k, ho2, rfl, by rw [hc2.length]; exact hl, fun v hv => ?_, fun hnone => ?_⟩
  · cases e : getC es k with
    | none => rw [hc2.noV e] at hv; cases hv
    | some c =>
      obtain ⟨v', h1, h2⟩ := hc2.val e
      rw [h1] at hv
      cases hv
      exact q H01 _ _ c δ (g1.fz.trans gp.fz) s2 h2 (hyes c e)
  · have e : getC es k = none := by
      cases e : getC es k with
      | none => rfl
      | some c =>
        obtain ⟨v', h1, _⟩ := hc2.val e
        rw [h1] at hnone; cases hnone
    obtain ⟨nb, s3⟩ := s2.join i e0 s1 hp (g1.wf.none hp) (upd_same) (c := .l []) ⟨[], rfl, .nil⟩
    have hi : i < δ.length := (List.getElem?_eq_some_iff.mp e0).1
    have hap : a ≠ p := fun z => nb (by rw [← z]; exact sat_dom em)
    have s4 := s3.putR (c := .D (es ++ [(k, .r p)])) (o := .dK (putK vs2 k (.ref p))) i (List.getElem?_set_self hi) (sat_old em hap) ⟨_, rfl, by rw [putK_new _ hnone]; exact CVk.snoc (c := .r p) rfl hc2⟩
    rw [List.set_set] at s4
    exact q H01 _ (.ref p) (.r p) _ (g1.fz.trans gp.fz) s4 rfl (hno e p nb)
/-- X.append(e), X an expression that may make things -/
@[simp] def dAppX (i : Nat) (dx dx2 : DX) : DS := fun E δ => dx δ fun δ1 c1 => ∃ b u0 m0 xs0, c1 = .r b ∧ δ1[i]? = some (some (.reg u0 m0)) ∧ m0.at b = some (.l xs0) ∧ dx2 δ1 fun δ' c => ∃ u m xs, δ'[i]? = some (some (.reg u m)) ∧ m.at b = some (.l xs) ∧ xs.length < sizeLine ∧ E.nx (δ'.set i (some (.reg u (m.put b (.l (xs ++ [c]))))))
theorem sms_appX (i : Nat) (hv : SmX C ta dx) (h : SmX C te dx2) : SmS C (tDrop (tBM C.K "list" rAppend ta (tCons te tNil))) (dAppX i dx dx2) := fun σ δ H0 H E D s w e =>
  hv σ δ H0 H _ _ s w fun H01 H1 v1 c1 δ1 gr1 s1 r1 ⟨b, u0, m0, xs0, e1, e2, e3, w1⟩ => by
    subst e1
    have r1 : v1 = .ref b := r1
    subst r1
    obtain ⟨v', _, hv'⟩ := s1.sl i _ e2
    obtain ⟨_, _, _, o, ho, vs, rfl, hc⟩ := reg_at hv' e3
    refine ⟨.inl ⟨rfl, vs, SqL.of ho⟩, h σ δ1 H01 H1 _ _ s1 w1 fun H02 H2 v c δ' gr s' r ⟨u, m, xs, e4, e5, hl, p⟩ => ?_⟩
    obtain ⟨v2, _, hv2⟩ := s'.sl i _ e4
    obtain ⟨_, _, _, o2, ho2, vs2, rfl, hc2⟩ := reg_at hv2 e5
    exact ⟨b, vs2, v, rfl, rfl, ho2, by rw [hc2.length]; exact hl, e.nx H02 _ σ _ (gr1.trans gr) (s'.putR (c := .l (xs ++ [c])) i e4 e5 ⟨_, rfl, hc2.snoc r⟩) p⟩
/-- slot = {}, a region's root -/
@[simp] def dRegD0 (i : Nat) : DS := fun E δ => ∀ a, E.nx (δ.set i (some (.reg (.ref a) [(a, .D [])])))
theorem sms_regD0 (i : Nat) : SmS C (tAsg tDNewK (gName i)) (dRegD0 i) := fun σ δ H0 H E D s w e => fun p hp => by
  have g := Go.free (o := .dK []) s.toWf hp
  refine e.nx H0 _ _ _ (Same.refl _) ((s.go g).reset i (v' := .ref p) (r' := .reg (.ref p) [(p, .D [])]) ⟨rfl, by simp, fun a c hm => ?_⟩ fun b hb l q n hl => ?_) (w p)
  · cases List.mem_singleton.mp hm
    exact ⟨s.toWf.none hp, (Go.he s.toWf hp).1, (Go.he s.toWf hp).2, _, upd_same, _, rfl, .nil⟩
  · cases List.mem_singleton.mp hb
    exact s.fresh hp hl
/-- xs[::-1] -/
theorem RpA.reverse {K : PySem.W.Frag} {H : Hp} : ∀ {vs : List V} {xs : List PyData}, RpA K H vs xs → RpA K H vs.reverse xs.reverse
  | _, _, .nil => .nil
  | _, _, .cons h r => by rw [List.reverse_cons, List.reverse_cons]; exact (RpA.reverse r).snoc h
theorem kpe_revL {X : Cx} {K : PySem.W.Frag} (hK : X.K = K) {e : Expr} {te : TE} {k : Nat} {p1 p2 p3 pos : Pos} (he : PE X e te) : PE X (.Subscript e (.Slice none none (some (.UnaryOp .USub (.Constant (.int 1) k p1) p2)) p3) pos) (tRevL K te) := by
  subst hK
  exact pe_revL he
@[simp] def oRevL (da : DE) : DO := fun δ Φ => da δ fun x => ∃ xs, x = .list xs ∧ Φ xs.reverse
theorem smo_revL (ha : Sm C true ta da) : SmO C (tRevL C.K ta) (oRevL da) := fun σ δ H0 H Φ Q s w q =>
  ha σ δ H0 H _ _ s w fun H01 H1 v x g1 r1 ⟨xs, e, p⟩ => by
    subst e
    cases r1 with
    | @lst a vs _ h r => exact ⟨a, vs, rfl, SqL.of (g1.wf.sub _ _ h), fun l hl => q _ _ l _ _ (g1.trans (Go.free (o := .lst _) g1.wf hl)) (g1.fresh hl) (g1.wf.none hl) upd_same r.reverse p⟩
end
end VL

/-! d[k] += e, d an owned dict of numbers. -/
namespace VL
open PySem L2
section
variable {C : Ctx} {H0 H H0' H' : Hp} {σ : L2.St} {δ : Dl} {te tb : TE} {de db : DE} {f1 f2 : Bool}
@[simp] def dAugD (i : Nat) (de dk : DE) : DS := fun E δ => ∃ a es, δ[i]? = some (some (.dct a es)) ∧ dk δ fun y => ∃ k n, y = keyD k ∧ getE es k = some (.int n) ∧ es.length < sizeLine ∧ de δ fun x => ∃ m, x = .int m ∧ E.nx (δ.set i (some (.dct a (putE es k (.int (n + m))))))
theorem sms_augD (i : Nat) (h : Sm C f1 te de) (hk : Sm C f2 tb db) : SmS C (sDAug (tVar i) tb te rAdd) (dAugD i de db) := fun σ δ H0 H E D s ⟨a, es, e0, w⟩ e => by
  obtain ⟨u, e1, hu⟩ := s.sl i _ e0
  refine ⟨u, e1, hk σ δ H0 H _ _ s w fun H01 H1 y0 y g1 r1 ⟨k, n, ey, ex, hl, p⟩ => ?_⟩
  subst ey
  obtain rfl := rp_key r1
  obtain ⟨o, h1, h2, h3⟩ := in_go (s.go g1) e0 k
  rw [e1] at h1
  cases h1
  rcases h3 with ⟨_, e3⟩ | ⟨v, d, rfl, e3, r⟩
  · rw [e3] at ex; cases ex
  rw [e3] at ex; cases ex
  cases r
  refine ⟨a, _, rfl, h2, h σ δ H01 H1 _ _ (s.go g1) p fun H02 H2 v2 x2 g2 r2 ⟨m, em, p2⟩ => ?_⟩
  subst em
  cases r2
  have s2 := (s.go g1).go g2
  obtain ⟨u', e2, rfl, k1, k2, k3, kvs, h4, h5⟩ := s2.sl i _ e0
  rw [e1] at e2
  cases e2
  refine ⟨n, m, rfl, rfl, _, DPut.k h4 (by rw [h5.length]; exact hl), e.nx H02 _ σ _ (g1.fz.trans g2.fz) ?_ p2⟩
  exact s2.put i e0 (fun _ h => h.1) rfl rfl fun H' hH k1 k2 k3 => ⟨rfl, k1, k2, k3, _, hH, h5.put (.int _)⟩
/-! ### new dicts -/
abbrev DD := Dl → (List (Key × PyData) → Prop) → Prop
def SmD (C : Ctx) (te : TE) (dd : DD) : Prop := ∀ (σ : L2.St) (δ : Dl) (H0 H : Hp) (Φ : List (Key × PyData) → Prop) (Q : VK), St C H0 H σ δ → dd δ Φ →
  (∀ H0' H' a vs es, Go C H0 H H0' H' → H a = none → H0' a = none → H' a = some (.dK vs) → RpK C.K H0' vs es → Φ es → Q (.ref a) H') → te σ H Q
theorem Go.frzO {a : Addr} {o : HO} (w : Wf C H0 H) (q : Go C H0 H H0' H') (hp : H a = none) (h0 : H0' a = none) (h : H' a = some o) : Go C H0 H (upd H0' a o) H' := by
  have gr : Same H0' (upd H0' a o) := fun b u e => by rw [upd_ne (fun z => by rw [z, h0] at e; cases e)]; exact e
  obtain ⟨he, n⟩ := Go.he w hp
  refine ⟨⟨fun b u e => ?_, q.wf.kp, q.wf.fz.trans gr, fun b u e => ?_, fun c e => ?_⟩, q.fz.trans gr, q.kp, fun b u e => ?_⟩
  · by_cases z : b = a
    · subst z; rw [upd_same] at e; cases e; exact h
    · rw [upd_ne z] at e; exact q.wf.sub b u e
  · by_cases z : b = a
    · subst z; exact .inr he
    · rw [upd_ne z] at e; exact q.wf.nw b u e
  · exact (q.wf.dr c e).keep gr (by rw [upd_ne (fun z => n (by rw [← z]; exact e))]; exact (q.wf.dr c e).no) rfl
  · by_cases z : b = a
    · subst z; exact .inr hp
    · rw [upd_ne z] at e; exact q.nw b u e
/-- e, a new thing, locked for good -/
def tFrzE (te : TE) : TE := fun σ H Q => te σ H fun x H1 => ∃ a u, x = .ref a ∧ H1 a = some u ∧ Mut (some u) ∧ ∀ od, Q (.ref a) (upd H1 a (.frz od u))
theorem pe_frz {X : Cx} {e : Expr} {t : TE} (h : PE X e t) : PE X e (tFrzE t) := by
  refine ⟨fun pins s σ H Q I hw => thn (h.run pins s σ H _ I hw) fun v s1 ⟨x, H1, I1, rx, a, u, ex, ea, mu, q⟩ => ?_⟩
  subst ex
  obtain ⟨od, I2⟩ := I1.lock ea mu
  exact ⟨.ref a, _, I2, rx, q od⟩
def dD (dd : DD) : DE := fun δ Φ => dd δ fun es => Φ (.dict (entD es))
theorem SmD.sm {dd : DD} (h : SmD C te dd) : Sm C f1 (tFrzE te) (dD dd) := fun σ δ H0 H Φ Q s w q =>
  h σ δ H0 H _ _ s w fun H01 H1 a vs es g1 e1 e2 e3 r p => ⟨a, .dK vs, rfl, e3, trivial, fun od => by
    have g2 := Go.frzO s.toWf (Go.wr (o := .frz od (.dK vs)) s.toWf e1 g1 e2) e1 e2 upd_same
    refine q _ _ _ _ g2 (Rp.mono (H := upd H01 a (.frz od (.dK vs))) ?_ ?_) p
    · cases f1
      · exact g2.wf.to
      · exact Same.refl _
    · exact .dic upd_same (r.mono (Go.same_new e2)).rpd⟩
def dAsgD (i : Nat) (dd : DD) : DS := fun E δ => dd δ fun es => ∀ a, E.nx (δ.set i (some (.dct a es)))
theorem sms_asgD {dd : DD} (i : Nat) (h : SmD C te dd) : SmS C (tAsg te (gName i)) (dAsgD i dd) := fun σ δ H0 H E D s w e =>
  h σ δ H0 H _ _ s w fun H01 H1 a vs es g1 e1 e2 e3 r p => by
    refine e.nx H01 H1 _ _ g1.fz ((s.go g1).set_adr (r := .dct a es) i rfl (fun j q b hj hb z => ?_) ⟨rfl, e2, (Go.he s.toWf e1).1, (Go.he s.toWf e1).2, vs, e3, r⟩) (p a)
    subst z
    obtain ⟨v, _, hv⟩ := s.sl j _ hj
    obtain ⟨o, k⟩ := hv.live hb
    rw [e1] at k; cases k
/-- {k: v} -/
def ddOne (dk dv : DE) : DD := fun δ Φ => dk δ fun y => dv δ fun z => ∃ k, y = keyD k ∧ Φ [(k, z)]
theorem smd_one (hk : Sm C false tb db) (hv : Sm C true te de) : SmD C (tDisp [(tb, te)]) (ddOne db de) := fun σ δ H0 H Φ Q s w q => by
  intro p hp
  have gp : Go C H0 H H0 (upd H p (.dK [])) := Go.free s.toWf hp
  have nex := (Go.he s.toWf hp).2
  refine hk σ δ H0 _ _ _ (s.go gp) w fun H01 H1 v x g1 r1 w1 => hv σ δ H01 H1 _ _ ((s.go gp).go g1) w1 fun H02 H2 u y g2 r2 ⟨k, ek, w2⟩ => ?_
  subst ek
  obtain rfl := rp_key r1
  have g12 := g1.trans g2
  have hkk : H2 p = some (.dK []) := g12.kp p _ nex upd_same
  have g0 := gp.trans g12
  have hn : H02 p = none := by
    cases e : H02 p with
    | none => rfl
    | some o =>
      rcases g12.nw p o e with h | h
      · rw [s.toWf.none hp] at h; cases h
      · rw [upd_same] at h; cases h
  have m1 : mergeK [] [(k, u)] = [(k, u)] := by simp [mergeK, putK]
  refine ⟨hkk, [(k, u)], rfl, by simp, ?_⟩
  rw [m1]
  exact q _ _ p [(k, u)] _ (Go.wr (o := .dK [(k, u)]) s.toWf hp g0 hn) hp hn upd_same (.cons r2 .nil) w2
end
/-! ### {key: value for target in source if test}, a new dict -/
def ddDC (di : DI) (own : List Nat) (dg : DG) (dt : DT) (dk dv : DE) : DD := fun δ Φ => di δ fun xs => ∃ I : Nat → List (Key × PyData) → Prop, I 0 [] ∧
  (∀ k y acc, xs[k]? = some y → I k acc → dg y (dwipe δ own) fun δ' => dt δ' fun b => if b = true then dk δ' fun u => dv δ' fun z => ∃ ky, u = keyD ky ∧ acc.length < sizeLine ∧ I (k + 1) (putE acc ky z) else I (k + 1) acc) ∧
  ∀ acc, I xs.length acc → Φ acc
section
variable {C : Ctx} {tk tv : TE} {dk dv : DE} {tt : TT} {dt : DT} {g : TG} {dg : DG} {ti : TI} {di : DI}
theorem smd_dc {own : List Nat} (hk : Kps own g) (hi : SmI C ti di) (hg : SmG C g dg) (ht : SmT C tt dt) (hkk : Sm C true tk dk) (hv : Sm C true tv dv) : SmD C (tDc ti g tt tk tv own) (ddDC di own dg dt dk dv) := fun σ δ H0 H Φ Q s w e =>
  hi σ δ H0 H _ _ s w fun H01 H1 J xs g1 wk ⟨I, i0, it, ie⟩ D hD => by
    have hD0 : H D = none := g1.fresh hD
    refine ⟨fun k m H' => m = xs.length - k ∧ k ≤ xs.length ∧ ∃ H0' us acc, Go C H01 H1 H0' H' ∧ H0' D = none ∧ H' D = some (.dK us) ∧ RpK C.K H0' us acc ∧ I k acc, ⟨_, rfl, Nat.zero_le _, H01, [], [], Go.free g1.wf hD, g1.wf.none hD, upd_same, .nil, i0⟩, ?_⟩
    rintro k m H' ⟨rfl, hk', H0', us, acc, g2, hn, hl, r, p⟩
    have nex : C.ex ≠ some D := (Go.he g1.wf hD).2
    by_cases hlt : k < xs.length
    · refine .inr ⟨wk.go H0' H' k g2.fz g2.wf hlt, fun H3 => ∃ H0' us acc, Go C H01 H1 H0' H3 ∧ H0' D = none ∧ H3 D = some (.dK us) ∧ RpK C.K H0' us acc ∧ I (k + 1) acc, fun H3 h => ⟨_, by omega, rfl, hlt, h⟩, fun v H'' y => ?_⟩
      obtain ⟨H02, z, g3, hz, rz⟩ := wk.yld H0' H' k v H'' g2.fz g2.wf hlt y
      have g23 := g2.trans g3
      have keep : ∀ {A B : Hp}, Go C H02 H'' A B → A D = none ∧ B D = some (.dK us) := fun {A B} gg => by
        have h1 : B D = some (.dK us) := gg.kp D _ nex (g3.kp D _ nex hl)
        refine ⟨?_, h1⟩
        cases e : A D with
        | none => rfl
        | some u =>
          rcases (g3.trans gg).nw D u e with h2 | h2
          · rw [hn] at h2; cases h2
          · rw [hl] at h2; cases h2
      have sw : St C H02 H'' (wipe σ own) (dwipe δ own) := (s.go ((g1.trans g2).trans g3)).wipe own
      have fin := hk v (wipe σ own) H'' _ (hg v z (wipe σ own) (dwipe δ own) H02 H'' _ (fun σ2 H2 => tt σ2 H2 fun b H3 => if b = true then tk σ2 H3 fun y H4 => tv σ2 H4 fun z H5 => ∃ kvs ky, y = kV ky ∧ H5 D = some (.dK kvs) ∧ kvs.length < sizeLine ∧ ∃ H0' us acc', Go C H01 H1 H0' (upd H5 D (.dK (putK kvs ky z))) ∧ H0' D = none ∧ (upd H5 D (.dK (putK kvs ky z))) D = some (.dK us) ∧ RpK C.K H0' us acc' ∧ I (k + 1) acc' else ∃ H0' us acc, Go C H01 H1 H0' H3 ∧ H0' D = none ∧ H3 D = some (.dK us) ∧ RpK C.K H0' us acc ∧ I (k + 1) acc) sw rz (it k z acc hz p) fun σ2 δ2 s2 w2 => ?_)
      · rw [wipe_wipe] at fin
        exact fin
      · refine ht _ _ H02 H'' _ _ s2 w2 fun H04 H4 b g4 w4 => ?_
        cases b with
        | false => exact iteF ⟨H04, us, acc, g23.trans g4, (keep g4).1, (keep g4).2, r.mono (g3.fz.trans g4.fz), by simpa using w4⟩
        | true =>
          refine iteT (hkk _ _ H04 H4 (fun u => dv δ2 fun z => ∃ ky, u = keyD ky ∧ acc.length < sizeLine ∧ I (k + 1) (putE acc ky z)) _ (s2.go g4) (by simpa using w4) fun H05 H5 y' u' g5 r5 w5 => ?_)
          refine hv _ _ H05 H5 (fun z => ∃ ky, u' = keyD ky ∧ acc.length < sizeLine ∧ I (k + 1) (putE acc ky z)) _ ((s2.go g4).go g5) w5 fun H06 H6 y6 z6 g6 r6 ⟨ky, eu, w6, p6⟩ => ?_
          subst eu
          obtain rfl := rp_key r5
          have k6 := keep ((g4.trans g5).trans g6)
          refine ⟨us, ky, rfl, k6.2, by rw [r.length]; exact w6, H06, _, putE acc ky z6, ?_, k6.1, upd_same, (r.mono (g3.fz.trans (g4.fz.trans (g5.fz.trans g6.fz)))).put r6, p6⟩
          have gg := ((g23.trans g4).trans g5).trans g6
          refine ⟨⟨fun b u e => ?_, fun b u n e => ?_, gg.wf.fz, gg.wf.nw, fun c e => ?_⟩, gg.fz, fun b u n e => ?_, gg.nw⟩
          · rw [upd_ne (fun z => by rw [z, k6.1] at e; cases e)]; exact gg.wf.sub b u e
          · rw [upd_ne (fun z => by rw [z, (Go.he g1.wf hD).1] at e; cases e)]; exact gg.wf.kp b u n e
          · exact (gg.wf.dr c e).keep (Same.refl _) (gg.wf.dr c e).no (upd_ne (fun z => nex (by rw [← z]; exact e)))
          · rw [upd_ne (fun z => by rw [z, hD] at e; cases e)]; exact gg.kp b u n e
    · have hk' : k = xs.length := by omega
      refine .inl ⟨wk.stop H0' H' k g2.fz g2.wf (by omega), ?_⟩
      have gg := g1.trans g2
      exact e H0' H' D us acc gg (g1.fresh hD |> fun _ => by
        cases z : H D with
        | none => rfl
        | some u => exact absurd (Go.fresh g1 hD) (by rw [z]; exact fun q => nomatch q)) hn hl r (ie acc (hk' ▸ p))
end
end VL

namespace Toy
open PySem PySem.Spec PyProof.Rows L2 VL
def topS (i : Nat) : Stmt := PySem.Challenge.pw_burnish_k10_reached_and_dominating.main.body.getD i (.Pass ⟨0, 0, 0, 0⟩)
abbrev swalk : Stmt := topS 1
theorem sc_walk : FnScope ["targets", "entered", "left", "parents", "seen", "trail", "row", "target", "node", "slot"] ["targets"] (defScope swalk) := ⟨rfl, rfl, rfl, by decide +kernel, rfl, by decide +kernel, by decide +kernel⟩
abbrev sreached_nodes : Stmt := topS 2
theorem sc_reached_nodes : FnScope ["targets", "found", "node"] ["targets"] (defScope sreached_nodes) := ⟨rfl, rfl, rfl, by decide +kernel, rfl, by decide +kernel, by decide +kernel⟩
abbrev sForest___init__ : Stmt := inClass (topS 3) 0
theorem sc_Forest___init__ : FnScope ["self", "count"] ["self", "count"] (defScope sForest___init__) := ⟨rfl, rfl, rfl, by decide +kernel, rfl, by decide +kernel, by decide +kernel⟩
abbrev sForest_shorten : Stmt := inClass (topS 3) 1
theorem sc_Forest_shorten : FnScope ["self", "place", "path", "upper"] ["self", "place"] (defScope sForest_shorten) := ⟨rfl, rfl, rfl, by decide +kernel, rfl, by decide +kernel, by decide +kernel⟩
abbrev sForest_lowest : Stmt := inClass (topS 3) 2
theorem sc_Forest_lowest : FnScope ["self", "place"] ["self", "place"] (defScope sForest_lowest) := ⟨rfl, rfl, rfl, by decide +kernel, rfl, by decide +kernel, by decide +kernel⟩
abbrev s_dominating_places : Stmt := topS 4
theorem sc__dominating_places : FnScope ["parents", "sources", "count", "forest", "semi", "found", "waiting", "place", "source", "parent", "low", "_", "best"] ["parents", "sources"] (defScope s_dominating_places) := ⟨rfl, rfl, rfl, by decide +kernel, rfl, by decide +kernel, by decide +kernel⟩
abbrev simmediate : Stmt := topS 5
theorem sc_immediate : FnScope ["targets", "places", "sources", "found", "places_above", "entered", "_", "parents", "place", "node", "target"] ["targets"] (defScope simmediate) := ⟨rfl, rfl, rfl, by decide +kernel, rfl, by decide +kernel, by decide +kernel⟩
abbrev sedges : Stmt := topS 7
theorem sc_edges : FnScope ["end", "case"] ["end"] (defScope sedges) := ⟨rfl, rfl, rfl, by decide +kernel, rfl, by decide +kernel, by decide +kernel⟩
abbrev sblock_numbers : Stmt := topS 9
theorem sc_block_numbers : FnScope ["function", "numbers", "number", "block"] ["function"] (defScope sblock_numbers) := ⟨rfl, rfl, rfl, by decide +kernel, rfl, by decide +kernel, by decide +kernel⟩
abbrev sblock_targets : Stmt := topS 10
theorem sc_block_targets : FnScope ["function", "numbers", "rows", "block", "label", "_"] ["function"] (defScope sblock_targets) := ⟨rfl, rfl, rfl, by decide +kernel, rfl, by decide +kernel, by decide +kernel⟩
abbrev sreached : Stmt := topS 11
theorem sc_reached : FnScope ["function", "found", "block", "is_reached"] ["function"] (defScope sreached) := ⟨rfl, rfl, rfl, by decide +kernel, rfl, by decide +kernel, by decide +kernel⟩
abbrev sdominating : Stmt := topS 12
theorem sc_dominating : FnScope ["function", "targets", "uppers", "rows", "node", "labels", "block", "k"] ["function"] (defScope sdominating) := ⟨rfl, rfl, rfl, by decide +kernel, rfl, by decide +kernel, by decide +kernel⟩
abbrev s_downwards : Stmt := topS 13
theorem sc__downwards : FnScope ["uppers", "lowers", "found", "waiting", "node", "upper", "_"] ["uppers"] (defScope s_downwards) := ⟨rfl, rfl, rfl, by decide +kernel, rfl, by decide +kernel, by decide +kernel⟩
abbrev s_law_stream : Stmt := topS 15
theorem sc__law_stream : FnScope ["script", "count", "row", "mixed", "cell", "k", "number"] ["script", "count"] (defScope s_law_stream) := ⟨rfl, rfl, rfl, by decide +kernel, rfl, by decide +kernel, by decide +kernel⟩
abbrev s_law_same : Stmt := topS 16
theorem sc__law_same : FnScope ["actual", "expected", "at"] ["actual", "expected"] (defScope s_law_same) := ⟨rfl, rfl, rfl, by decide +kernel, rfl, by decide +kernel, by decide +kernel⟩
abbrev s_law_free_operand : Stmt := topS 17
theorem sc__law_free_operand : FnScope ["first", "second", "span", "kinds", "widths", "choice", "at", "value"] ["first", "second", "span"] (defScope s_law_free_operand) := ⟨rfl, rfl, rfl, by decide +kernel, rfl, by decide +kernel, by decide +kernel⟩
abbrev s_law_free_kind : Stmt := topS 18
theorem sc__law_free_kind : FnScope ["op", "number", "kinds"] ["op", "number"] (defScope s_law_free_kind) := ⟨rfl, rfl, rfl, by decide +kernel, rfl, by decide +kernel, by decide +kernel⟩
abbrev s_law_free_count : Stmt := topS 19
theorem sc__law_free_count : FnScope ["op", "number"] ["op", "number"] (defScope s_law_free_count) := ⟨rfl, rfl, rfl, by decide +kernel, rfl, by decide +kernel, by decide +kernel⟩
abbrev s_law_free_data : Stmt := topS 20
theorem sc__law_free_data : FnScope ["op", "row", "at", "count", "scales", "k", "number"] ["op", "row", "at", "count"] (defScope s_law_free_data) := ⟨rfl, rfl, rfl, by decide +kernel, rfl, by decide +kernel, by decide +kernel⟩
abbrev s_law_free_instruction : Stmt := topS 21
theorem sc__law_free_instruction : FnScope ["row", "at", "span", "ops", "op", "count", "operands", "k", "data", "name", "place"] ["row", "at", "span"] (defScope s_law_free_instruction) := ⟨rfl, rfl, rfl, by decide +kernel, rfl, by decide +kernel, by decide +kernel⟩
abbrev s_law_free_edge : Stmt := topS 22
theorem sc__law_free_edge : FnScope ["row", "at", "span", "labels", "args", "k"] ["row", "at", "span", "labels"] (defScope s_law_free_edge) := ⟨rfl, rfl, rfl, by decide +kernel, rfl, by decide +kernel, by decide +kernel⟩
abbrev s_law_free_end : Stmt := topS 23
theorem sc__law_free_end : FnScope ["row", "at", "span", "labels", "word", "operand", "found", "cases", "k"] ["row", "at", "span", "labels"] (defScope s_law_free_end) := ⟨rfl, rfl, rfl, by decide +kernel, rfl, by decide +kernel, by decide +kernel⟩
abbrev s_law_free_block : Stmt := topS 24
theorem sc__law_free_block : FnScope ["row", "at", "span", "labels", "kinds", "params", "k", "body"] ["row", "at", "span", "labels"] (defScope s_law_free_block) := ⟨rfl, rfl, rfl, by decide +kernel, rfl, by decide +kernel, by decide +kernel⟩
abbrev s_law_free_function : Stmt := topS 25
theorem sc__law_free_function : FnScope ["row", "at", "name", "span", "kind", "count", "labels", "blocks", "k"] ["row", "at", "name"] (defScope s_law_free_function) := ⟨rfl, rfl, rfl, by decide +kernel, rfl, by decide +kernel, by decide +kernel⟩
abbrev s_law_edge_list : Stmt := topS 26
theorem sc__law_edge_list : FnScope ["end", "case"] ["end"] (defScope s_law_edge_list) := ⟨rfl, rfl, rfl, by decide +kernel, rfl, by decide +kernel, by decide +kernel⟩
abbrev s_law_target : Stmt := topS 28
theorem sc__law_target : FnScope ["function", "label", "at"] ["function", "label"] (defScope s_law_target) := ⟨rfl, rfl, rfl, by decide +kernel, rfl, by decide +kernel, by decide +kernel⟩
abbrev s_law_visited : Stmt := topS 29
theorem sc__law_visited : FnScope ["function", "without", "found", "waiting", "turn", "at", "edge"] ["function", "without"] (defScope s_law_visited) := ⟨rfl, rfl, rfl, by decide +kernel, rfl, by decide +kernel, by decide +kernel⟩
abbrev slaw : Stmt := topS 30
theorem sc_law : FnScope ["script", "row", "function", "found", "labels", "at", "table", "expected", "other", "label"] ["script"] (defScope slaw) := ⟨rfl, rfl, rfl, by decide +kernel, rfl, by decide +kernel, by decide +kernel⟩
structure Txt (K : PySem.W.Frag) (mg : Str → Option Value) where
  f_walk : Addr
  fd_walk : FuncData
  F_walk : Fun K "walk" "walk" swalk f_walk fd_walk
  g_walk : mg "walk" = some (.ref f_walk)
  b_walk : Binds K fd_walk ["targets"] []
  f_reached_nodes : Addr
  fd_reached_nodes : FuncData
  F_reached_nodes : Fun K "reached_nodes" "reached_nodes" sreached_nodes f_reached_nodes fd_reached_nodes
  g_reached_nodes : mg "reached_nodes" = some (.ref f_reached_nodes)
  b_reached_nodes : Binds K fd_reached_nodes ["targets"] []
  f_Forest___init__ : Addr
  fd_Forest___init__ : FuncData
  F_Forest___init__ : Fun K "__init__" "Forest.__init__" sForest___init__ f_Forest___init__ fd_Forest___init__
  b_Forest___init__ : Binds K fd_Forest___init__ ["self", "count"] []
  f_Forest_shorten : Addr
  fd_Forest_shorten : FuncData
  F_Forest_shorten : Fun K "shorten" "Forest.shorten" sForest_shorten f_Forest_shorten fd_Forest_shorten
  b_Forest_shorten : Binds K fd_Forest_shorten ["self", "place"] []
  f_Forest_lowest : Addr
  fd_Forest_lowest : FuncData
  F_Forest_lowest : Fun K "lowest" "Forest.lowest" sForest_lowest f_Forest_lowest fd_Forest_lowest
  b_Forest_lowest : Binds K fd_Forest_lowest ["self", "place"] []
  f__dominating_places : Addr
  fd__dominating_places : FuncData
  F__dominating_places : Fun K "_dominating_places" "_dominating_places" s_dominating_places f__dominating_places fd__dominating_places
  g__dominating_places : mg "_dominating_places" = some (.ref f__dominating_places)
  b__dominating_places : Binds K fd__dominating_places ["parents", "sources"] []
  f_immediate : Addr
  fd_immediate : FuncData
  F_immediate : Fun K "immediate" "immediate" simmediate f_immediate fd_immediate
  g_immediate : mg "immediate" = some (.ref f_immediate)
  b_immediate : Binds K fd_immediate ["targets"] []
  f_edges : Addr
  fd_edges : FuncData
  F_edges : Fun K "edges" "edges" sedges f_edges fd_edges
  g_edges : mg "edges" = some (.ref f_edges)
  b_edges : Binds K fd_edges ["end"] []
  f_block_numbers : Addr
  fd_block_numbers : FuncData
  F_block_numbers : Fun K "block_numbers" "block_numbers" sblock_numbers f_block_numbers fd_block_numbers
  g_block_numbers : mg "block_numbers" = some (.ref f_block_numbers)
  b_block_numbers : Binds K fd_block_numbers ["function"] []
  f_block_targets : Addr
  fd_block_targets : FuncData
  F_block_targets : Fun K "block_targets" "block_targets" sblock_targets f_block_targets fd_block_targets
  g_block_targets : mg "block_targets" = some (.ref f_block_targets)
  b_block_targets : Binds K fd_block_targets ["function"] []
  f_reached : Addr
  fd_reached : FuncData
  F_reached : Fun K "reached" "reached" sreached f_reached fd_reached
  g_reached : mg "reached" = some (.ref f_reached)
  b_reached : Binds K fd_reached ["function"] []
  f_dominating : Addr
  fd_dominating : FuncData
  F_dominating : Fun K "dominating" "dominating" sdominating f_dominating fd_dominating
  g_dominating : mg "dominating" = some (.ref f_dominating)
  b_dominating : Binds K fd_dominating ["function"] []
  f__downwards : Addr
  fd__downwards : FuncData
  F__downwards : Fun K "_downwards" "_downwards" s_downwards f__downwards fd__downwards
  g__downwards : mg "_downwards" = some (.ref f__downwards)
  b__downwards : Binds K fd__downwards ["uppers"] []
  f__law_stream : Addr
  fd__law_stream : FuncData
  F__law_stream : Fun K "_law_stream" "_law_stream" s_law_stream f__law_stream fd__law_stream
  g__law_stream : mg "_law_stream" = some (.ref f__law_stream)
  b__law_stream : Binds K fd__law_stream ["script", "count"] []
  f__law_same : Addr
  fd__law_same : FuncData
  F__law_same : Fun K "_law_same" "_law_same" s_law_same f__law_same fd__law_same
  g__law_same : mg "_law_same" = some (.ref f__law_same)
  b__law_same : Binds K fd__law_same ["actual", "expected"] []
  f__law_free_operand : Addr
  fd__law_free_operand : FuncData
  F__law_free_operand : Fun K "_law_free_operand" "_law_free_operand" s_law_free_operand f__law_free_operand fd__law_free_operand
  g__law_free_operand : mg "_law_free_operand" = some (.ref f__law_free_operand)
  b__law_free_operand : Binds K fd__law_free_operand ["first", "second", "span"] []
  f__law_free_kind : Addr
  fd__law_free_kind : FuncData
  F__law_free_kind : Fun K "_law_free_kind" "_law_free_kind" s_law_free_kind f__law_free_kind fd__law_free_kind
  g__law_free_kind : mg "_law_free_kind" = some (.ref f__law_free_kind)
  b__law_free_kind : Binds K fd__law_free_kind ["op", "number"] []
  f__law_free_count : Addr
  fd__law_free_count : FuncData
  F__law_free_count : Fun K "_law_free_count" "_law_free_count" s_law_free_count f__law_free_count fd__law_free_count
  g__law_free_count : mg "_law_free_count" = some (.ref f__law_free_count)
  b__law_free_count : Binds K fd__law_free_count ["op", "number"] []
  f__law_free_data : Addr
  fd__law_free_data : FuncData
  F__law_free_data : Fun K "_law_free_data" "_law_free_data" s_law_free_data f__law_free_data fd__law_free_data
  g__law_free_data : mg "_law_free_data" = some (.ref f__law_free_data)
  b__law_free_data : Binds K fd__law_free_data ["op", "row", "at", "count"] []
  f__law_free_instruction : Addr
  fd__law_free_instruction : FuncData
  F__law_free_instruction : Fun K "_law_free_instruction" "_law_free_instruction" s_law_free_instruction f__law_free_instruction fd__law_free_instruction
  g__law_free_instruction : mg "_law_free_instruction" = some (.ref f__law_free_instruction)
  b__law_free_instruction : Binds K fd__law_free_instruction ["row", "at", "span"] []
  f__law_free_edge : Addr
  fd__law_free_edge : FuncData
  F__law_free_edge : Fun K "_law_free_edge" "_law_free_edge" s_law_free_edge f__law_free_edge fd__law_free_edge
  g__law_free_edge : mg "_law_free_edge" = some (.ref f__law_free_edge)
  b__law_free_edge : Binds K fd__law_free_edge ["row", "at", "span", "labels"] []
  f__law_free_end : Addr
  fd__law_free_end : FuncData
  F__law_free_end : Fun K "_law_free_end" "_law_free_end" s_law_free_end f__law_free_end fd__law_free_end
  g__law_free_end : mg "_law_free_end" = some (.ref f__law_free_end)
  b__law_free_end : Binds K fd__law_free_end ["row", "at", "span", "labels"] []
  f__law_free_block : Addr
  fd__law_free_block : FuncData
  F__law_free_block : Fun K "_law_free_block" "_law_free_block" s_law_free_block f__law_free_block fd__law_free_block
  g__law_free_block : mg "_law_free_block" = some (.ref f__law_free_block)
  b__law_free_block : Binds K fd__law_free_block ["row", "at", "span", "labels"] []
  f__law_free_function : Addr
  fd__law_free_function : FuncData
  F__law_free_function : Fun K "_law_free_function" "_law_free_function" s_law_free_function f__law_free_function fd__law_free_function
  g__law_free_function : mg "_law_free_function" = some (.ref f__law_free_function)
  b__law_free_function : Binds K fd__law_free_function ["row", "at", "name"] []
  f__law_edge_list : Addr
  fd__law_edge_list : FuncData
  F__law_edge_list : Fun K "_law_edge_list" "_law_edge_list" s_law_edge_list f__law_edge_list fd__law_edge_list
  g__law_edge_list : mg "_law_edge_list" = some (.ref f__law_edge_list)
  b__law_edge_list : Binds K fd__law_edge_list ["end"] []
  f__law_target : Addr
  fd__law_target : FuncData
  F__law_target : Fun K "_law_target" "_law_target" s_law_target f__law_target fd__law_target
  g__law_target : mg "_law_target" = some (.ref f__law_target)
  b__law_target : Binds K fd__law_target ["function", "label"] []
  f__law_visited : Addr
  fd__law_visited : FuncData
  F__law_visited : Fun K "_law_visited" "_law_visited" s_law_visited f__law_visited fd__law_visited
  g__law_visited : mg "_law_visited" = some (.ref f__law_visited)
  b__law_visited : Binds K fd__law_visited ["function", "without"] []
  f_law : Addr
  fd_law : FuncData
  F_law : Fun K "law" "law" slaw f_law fd_law
  g_law : mg "law" = some (.ref f_law)
  b_law : Binds K fd_law ["script"] []
  C_Forest : Addr
  cl_Forest : Cls K C_Forest
  mgC_Forest : mg "Forest" = some (.ref C_Forest)
  mk_Forest : Mk K C_Forest f_Forest___init__
  n_Forest_semi : NoAttr K C_Forest "semi"
  n_Forest_above : NoAttr K C_Forest "above"
  n_Forest_best : NoAttr K C_Forest "best"
  mt_Forest_shorten : Meth K C_Forest "shorten" f_Forest_shorten
  mt_Forest_lowest : Meth K C_Forest "lowest" f_Forest_lowest
  len : mg "len" = none
  list : mg "list" = none
  range : mg "range" = none
  min : mg "min" = none
  enumerate : mg "enumerate" = none
  zip : mg "zip" = none
  sorted : mg "sorted" = none
  abs : mg "abs" = none
  isinstance : mg "isinstance" = none
  tuple : mg "tuple" = none
  bool : mg "bool" = none
  int : mg "int" = none
  str : mg "str" = none
  dict : mg "dict" = none
section
variable {P : Program} {w : World} {K : PySem.W.Frag} {mg : Str → Option Value} {base : Heap}

/-! ### the row that a law makes of its script -/
def Row (ns : List Int) : Prop := ∀ x ∈ ns, 0 ≤ x ∧ x < 1000000000000000000
theorem Row.snoc {ns : List Int} {x : Int} (h : Row ns) (h0 : 0 ≤ x) (h1 : x < 1000000000000000000) : Row (ns ++ [x]) := fun y hy => by
  rcases List.mem_append.mp hy with hy | hy
  · exact h y hy
  · rw [List.mem_singleton.mp hy]; exact ⟨h0, h1⟩
theorem cdw7 {i : Int} : CDivW i 7 := ⟨by decide, by decide⟩
theorem cdwk {i : Int} : CDivW i 1000 := ⟨by decide, by decide⟩
def vp__law_stream : VSp := fun rs Φ => ∃ (ns : List Int) (count : Nat), rs = [.scr ns, .d (.int count)] ∧ ns.length ≤ 63 ∧ count ≤ 5000 ∧ ∀ row : List Int, count ≤ row.length → row.length ≤ 9000 → Row row → Φ (.own (row.map .int))
theorem len__law_stream : ∀ rs Φ, vp__law_stream rs Φ → rs.length = 2 := fun rs Φ ⟨_, _, e, _⟩ => by rw [e]; rfl
theorem G__law_stream (T : Txt K mg) : FnOk P w K mg base CX0 1 T.f__law_stream T.fd__law_stream ["script", "count"] (toSp K 2 vp__law_stream) := by
  refine fn_ok T.F__law_stream sc__law_stream fun cdv A outer s H E hr => ⟨_, (pss_cons (ps_set (i := 2) sc__law_stream.nd rfl (Or.inl rfl) (pe_lst pa_nil))
 (pss_cons (ps_set (i := 3) sc__law_stream.nd rfl (Or.inl rfl) pe_int)
 (pss_cons (ps_for PassesOwn.never rfl ((kpi_list (K := K) rfl (pv 0))) (pg_name (i := 4) sc__law_stream.nd rfl (Or.inl rfl)) (pss_cons (ps_set (i := 6) sc__law_stream.nd rfl (Or.inl rfl) (pe_callB call_abs (by rfl) T.abs (by decide +kernel) (pa_cons (pv 4) pa_nil)))
 (pss_cons (ps_set (i := 3) sc__law_stream.nd rfl (Or.inl rfl) (pe_op op_mod (pe_op op_add (pe_op op_mul (pv 3) pe_int) (pv 6)) pe_int))
 (pss_one (ps_if (pt_cmpR op_ge (pv 6) (pe_op op_pow pe_int pe_int) (nomark _)) (pss_one (ps_for PassesOwn.never rfl (pi_range1 rfl T.range (pa_cons pe_int pa_nil)) (pg_name (i := 5) sc__law_stream.nd rfl (Or.inl rfl)) (pss_one (ps_if (pt_cmpR op_gt (pv 6) pe_int (nomark _)) (pss_cons (ps_expr (pe_bm PySem.F.plainAttrs_list PySem.F.slot_list_append PySem.F.type_list_append mt_append (pv 2) (pa_cons (pe_op op_mod (pv 6) pe_int) pa_nil)))
 (pss_one (ps_set (i := 6) sc__law_stream.nd rfl (Or.inl rfl) (pe_op op_fdivW (pv 6) pe_int)))) pss_nil)))) (pss_one (ps_expr (pe_bm PySem.F.plainAttrs_list PySem.F.slot_list_append PySem.F.type_list_append mt_append (pv 2) (pa_cons (pv 6) pa_nil)))))))))
 (pss_cons (ps_for PassesOwn.never rfl (pi_range1 rfl T.range (pa_cons (pv 1) pa_nil)) (pg_name (i := 5) sc__law_stream.nd rfl (Or.inl rfl)) (pss_cons (ps_set (i := 3) sc__law_stream.nd rfl (Or.inl rfl) (pe_op op_mod (pe_op op_add (pe_op op_mul (pv 3) pe_int) pe_int) pe_int))
 (pss_one (ps_expr (pe_bm PySem.F.plainAttrs_list PySem.F.slot_list_append PySem.F.type_list_append mt_append (pv 2) (pa_cons (pe_op op_fdivW (pv 3) pe_int) pa_nil))))))
 (pss_one (ps_ret (pv 2))))))), _, fun ex He Hf => (sms_seq (sms_setO 2 (smo_lst sma_nil))
 (sms_seq (sms_asg (sm_int _) (smg_name 3))
 (sms_seq (sms_for (smi_scr 0) (smg_name 4)
 (sms_seq (sms_asg (sm_cb (f1 := false) cbd_abs (sma_cons (sm_var 4) sma_nil)) (smg_name 6))
 (sms_seq (sms_asg (sm_op (f1 := false) (f2 := false) (opd_I (g' := fun i j => .int (i % j)) fun _ _ => rfl) (sm_op (f1 := false) (f2 := false) (opd_I0 (g' := fun i j => .int (i + j)) fun _ _ => rfl) (sm_op (f1 := false) (f2 := false) (opd_I (g' := fun i j => .int (i * j)) fun _ _ => rfl) (sm_var 3) (sm_int _)) (sm_var 6)) (sm_int _)) (smg_name 3))
 (sms_if (smt_t (f1 := false) (sm_op (f1 := false) (f2 := false) (opd_I0 (g' := fun i j => .bool (decide (j ≤ i))) fun _ _ => rfl) (sm_var 6) (sm_op (f1 := false) (f2 := false) (opd_I (g' := fun i j => .int (i ^ j.toNat)) fun _ _ => rfl) (sm_int _) (sm_int _))))
 (sms_for (smi_rng1 (f1 := false) (sm_int _)) (smg_name 5)
 (sms_if (smt_t (f1 := false) (sm_op (f1 := false) (f2 := false) (opd_I0 (g' := fun i j => .bool (decide (j < i))) fun _ _ => rfl) (sm_var 6) (sm_int _)))
 (sms_seq (sms_app 2 (sm_op (f1 := false) (f2 := false) (opd_I (g' := fun i j => .int (i % j)) fun _ _ => rfl) (sm_var 6) (sm_int _)))
 (sms_asg (sm_op (f1 := false) (f2 := false) (opd_I (g' := fun i j => .int (i / j)) fun _ _ => rfl) (sm_var 6) (sm_int _)) (smg_name 6)))
 sms_next))
 (sms_app 2 (sm_var 6))))))
 (sms_seq (sms_for (smi_rng1 (f1 := false) (sm_var 1)) (smg_name 5)
 (sms_seq (sms_asg (sm_op (f1 := false) (f2 := false) (opd_I (g' := fun i j => .int (i % j)) fun _ _ => rfl) (sm_op (f1 := false) (f2 := false) (opd_I0 (g' := fun i j => .int (i + j)) fun _ _ => rfl) (sm_op (f1 := false) (f2 := false) (opd_I (g' := fun i j => .int (i * j)) fun _ _ => rfl) (sm_var 3) (sm_int _)) (sm_int _)) (sm_int _)) (smg_name 3))
 (sms_app 2 (sm_op (f1 := false) (f2 := false) (opd_I (g' := fun i j => .int (i / j)) fun _ _ => rfl) (sm_var 3) (sm_int _)))))
 (sms_retO 2))))), ?_⟩
  rintro rs Φ ⟨ns, count, rfl, hn, hc, h⟩
  refine seq_by (fun δ => ∃ a, δ = [some (.scr ns), some (.d (.int count)), some (.own a []), none, none, none, none]) (fun δ hI => ?_) (fun N hN => ?_)
  rotate_left
  · simp
    exact fun a => hN _ ⟨a, rfl⟩
  obtain ⟨a, rfl⟩ := hI
  refine seq_by (fun δ => δ = [some (.scr ns), some (.d (.int count)), some (.own a []), some (.d (.int 7)), none, none, none]) (fun δ hI => ?_) (fun N hN => ?_)
  rotate_left
  · simp
    exact hN _ rfl
  subst hI
  -- the script's numbers
  refine seq_by (fun δ => ∃ (row : List Int) (m : Int) (y4 y5 y6 : Option R), Row row ∧ row.length ≤ 3800 ∧ 0 ≤ m ∧ m < 2147483647 ∧ δ = [some (.scr ns), some (.d (.int count)), some (.own a (row.map .int)), some (.d (.int m)), y4, y5, y6]) (fun δ hI => ?_) (fun N hN => ?_)
  rotate_left
  · simp only [dFor, iScr]
    refine ⟨ns, rfl, fun i δ => ∃ (row : List Int) (m : Int) (y4 y5 y6 : Option R), Row row ∧ row.length ≤ 60 * i ∧ 0 ≤ m ∧ m < 2147483647 ∧ δ = [some (.scr ns), some (.d (.int count)), some (.own a (row.map .int)), some (.d (.int m)), y4, y5, y6], ⟨[], 7, none, none, none, fun _ h => (nomatch h), by decide, by decide, by decide, rfl⟩, fun i z δ hz hI => ?_, fun δ hI => ?_⟩
    · obtain ⟨row, m, y4, y5, y6, hr1, hl, m0, m1, rfl⟩ := hI
      have hi : i < ns.length := by
        have := (List.getElem?_eq_some_iff.mp hz).1
        rw [List.length_map] at this
        exact this
      obtain ⟨u, _, rfl⟩ := int_at hz
      clear hz
      have hsz : ∀ k : Nat, k ≤ 3800 → k < sizeLine := fun k hk => Nat.lt_of_le_of_lt hk (by decide)
      obtain ⟨v, v0, hv⟩ : ∃ v : Int, 0 ≤ v ∧ (if u < 0 then -u else u) = v := ⟨_, by split <;> omega, rfl⟩
      simp [hv]
      refine ⟨.inl ⟨by omega, by omega⟩, ⟨by decide, by decide, by decide⟩, ?_⟩
      have mm := Int.emod_nonneg (m * 69621 + v) (show (2147483647 : Int) ≠ 0 by decide)
      have ml := Int.emod_lt_of_pos (m * 69621 + v) (show (0 : Int) < 2147483647 by decide)
      generalize (m * 69621 + v) % 2147483647 = M at mm ml ⊢
      split
      · simp [dFor]
        refine ⟨fun j δ => ∃ (row : List Int) (v : Int) (y5 : Option R), Row row ∧ row.length ≤ 60 * i + j ∧ 0 ≤ v ∧ δ = [some (.scr ns), some (.d (.int count)), some (.own a (row.map .int)), some (.d (.int M)), some (.d (.int u)), y5, some (.d (.int v))], ⟨row, v, y5, hr1, hl, v0, rfl⟩, fun j z δ hz hI => ?_, fun δ hI => ?_⟩
        · obtain ⟨row, v, y5, hr1, hl, v0, rfl⟩ := hI
          obtain ⟨hj, rfl⟩ := rng_get hz
          have hj : j < 60 := hj
          simp
          split
          · refine ⟨hsz _ (by omega), cdwk, row ++ [v % 1000], hr1.snoc (by omega) (by omega), ?_, by omega, by simp⟩
            rw [List.length_append, List.length_singleton]
            omega
          · exact ⟨row, hr1, by omega, v0, rfl⟩
        · obtain ⟨row, v, y5, hr1, hl, v0, rfl⟩ := hI
          rw [rng_len] at hl
          exact ⟨row, hr1, by omega, M, mm, ml, _, _, _, rfl⟩
      · rename_i hlt
        refine ⟨hsz _ (by omega), row ++ [v], hr1.snoc v0 (by omega), ?_, M, mm, ml, by simp, rfl⟩
        rw [List.length_append, List.length_singleton]
        omega
    · obtain ⟨row, m, y4, y5, y6, hr1, hl, m0, m1, rfl⟩ := hI
      rw [List.length_map] at hl
      exact hN _ ⟨row, m, y4, y5, y6, hr1, by omega, m0, m1, rfl⟩
  obtain ⟨row, m, y4, y5, y6, hr1, hl, m0, m1, rfl⟩ := hI
  refine seq_by (fun δ => ∃ (row : List Int) (y3 y4 y5 y6 : Option R), Row row ∧ count ≤ row.length ∧ row.length ≤ 9000 ∧ δ = [some (.scr ns), some (.d (.int count)), some (.own a (row.map .int)), y3, y4, y5, y6]) (fun δ hI => ?_) (fun N hN => ?_)
  · obtain ⟨row, y3, y4, y5, y6, hr1, hl, hl2, rfl⟩ := hI
    simp
    exact h row hl hl2 hr1
  simp only [dFor, iR1, dVar]
  refine ⟨.int count, rfl, count, rfl, by omega, by omega, fun j δ => ∃ (row : List Int) (m : Int) (y4 y5 y6 : Option R), Row row ∧ j ≤ row.length ∧ row.length ≤ 3800 + j ∧ 0 ≤ m ∧ m < 2147483647 ∧ δ = [some (.scr ns), some (.d (.int count)), some (.own a (row.map .int)), some (.d (.int m)), y4, y5, y6], ⟨row, m, y4, y5, y6, hr1, Nat.zero_le _, hl, m0, m1, rfl⟩, fun j z δ hz hI => ?_, fun δ hI => ?_⟩
  · obtain ⟨row, m, y4, y5, y6, hr1, hj, hl, m0, m1, rfl⟩ := hI
    obtain ⟨hj', rfl⟩ := rng_get hz
    have mm := Int.emod_nonneg (m * 48271 + 11) (show (2147483647 : Int) ≠ 0 by decide)
    have ml := Int.emod_lt_of_pos (m * 48271 + 11) (show (0 : Int) < 2147483647 by decide)
    simp
    refine ⟨.inl ⟨by omega, by omega⟩, cdw7, Nat.lt_of_lt_of_le (show row.length < 9000 by omega) (by decide), row ++ [(m * 48271 + 11) % 2147483647 / 7], hr1.snoc (by omega) (by omega), ?_, ?_, _, mm, ml, by simp, rfl⟩
    · rw [List.length_append, List.length_singleton]; omega
    · rw [List.length_append, List.length_singleton]; omega
  · obtain ⟨row, m, y4, y5, y6, hr1, hj, hl, m0, m1, rfl⟩ := hI
    rw [rng_len] at hj hl
    exact hN _ ⟨row, _, y4, y5, y6, hr1, by omega, by omega, rfl⟩

/-! ### the law's own comparison, of equal data -/
def vp__law_same (n : Nat) : VSp := fun rs Φ => ∃ x : PyData, rs = [.d x, .d x] ∧ (∃ m, m < n ∧ Okd m x) ∧ Φ (.d (.bool true))
theorem len__law_same {n : Nat} : ∀ rs Φ, vp__law_same n rs Φ → rs.length = 2 := fun rs Φ ⟨_, e, _⟩ => by rw [e]; rfl
theorem same_at {n : Nat} (T : Txt K mg) : FnOk P w K mg base CX0 (n + 1) T.f__law_same T.fd__law_same ["actual", "expected"] (toSp K 2 (vp__law_same n)) := by
  induction n with
  | zero => exact ⟨fun vs H Q E h => h.1, fun A outer s H args us vs Q E _ _ _ _ h => by
      obtain ⟨_, _, _, _, _, _, _, ⟨x, _, ⟨m, h, _⟩, _⟩, _⟩ := h
      exact absurd h (Nat.not_lt_zero _)⟩
  | succ n ih =>
    refine fn_ok T.F__law_same sc__law_same fun cdv A outer s H E hr => ⟨_, (pss_cons (ps_if (PW.pt (pw_or (pt_val (pe_callB (kx_isi (K := K) rfl) (by rfl) T.isinstance (by decide +kernel) (pa_cons (pv 1) (pa_cons (pe_bltn (v := .ty "tuple") (by rfl) T.tuple (by decide +kernel) rfl) pa_nil)))) (pw_or1 (pt_val (pe_callB (kx_isi (K := K) rfl) (by rfl) T.isinstance (by decide +kernel) (pa_cons (pv 1) (pa_cons (pe_bltn (v := .ty "list") (by rfl) T.list (by decide +kernel) rfl) pa_nil))))))) (pss_cons (ps_if (pt_cmpR op_ne (pe_callB (kx_isi (K := K) rfl) (by rfl) T.isinstance (by decide +kernel) (pa_cons (pv 0) (pa_cons (pe_bltn (v := .ty "tuple") (by rfl) T.tuple (by decide +kernel) rfl) pa_nil))) (pe_callB (kx_isi (K := K) rfl) (by rfl) T.isinstance (by decide +kernel) (pa_cons (pv 1) (pa_cons (pe_bltn (v := .ty "tuple") (by rfl) T.tuple (by decide +kernel) rfl) pa_nil))) (nomark _)) (pss_one (ps_ret pe_bl)) pss_nil)
 (pss_cons (ps_if (PW.pt (pw_or (pt_cmpR op_ne (pe_callB (kx_isi (K := K) rfl) (by rfl) T.isinstance (by decide +kernel) (pa_cons (pv 0) (pa_cons (pe_bltn (v := .ty "list") (by rfl) T.list (by decide +kernel) rfl) pa_nil))) (pe_callB (kx_isi (K := K) rfl) (by rfl) T.isinstance (by decide +kernel) (pa_cons (pv 1) (pa_cons (pe_bltn (v := .ty "list") (by rfl) T.list (by decide +kernel) rfl) pa_nil))) (nomark _)) (pw_or1 (pt_cmpR op_ne (pe_callB (kx_len (K := K) rfl) (by rfl) T.len PySem.boot_len (pa_cons (pv 0) pa_nil)) (pe_callB (kx_len (K := K) rfl) (by rfl) T.len PySem.boot_len (pa_cons (pv 1) pa_nil)) (nomark _))))) (pss_one (ps_ret pe_bl)) pss_nil)
 (pss_cons (ps_for PassesOwn.never rfl (pi_range1 rfl T.range (pa_cons (pe_callB (kx_len (K := K) rfl) (by rfl) T.len PySem.boot_len (pa_cons (pv 1) pa_nil)) pa_nil)) (pg_name (i := 2) sc__law_same.nd rfl (Or.inl rfl)) (pss_one (ps_if (pt_not (pt_val (pe_call ih hr (by rfl) T.g__law_same T.F__law_same.kp T.b__law_same .nil pass0 (pa_cons (pe_ix (kx_seq (K := K) rfl) (pv 0) (pv 2) (fun _ _ => rfl)) (pa_cons (pe_ix (kx_seq (K := K) rfl) (pv 1) (pv 2) (fun _ _ => rfl)) pa_nil))))) (pss_one (ps_ret pe_bl)) pss_nil)))
 (pss_one (ps_ret pe_bl))))) pss_nil)
 (pss_cons (ps_if (PW.pt (pw_or (pt_cmpR op_isN (pv 1) pe_non (nomark _)) (pw_or1 (pt_cmpR op_isN (pv 0) pe_non (nomark _))))) (pss_one (ps_ret (pe_and (pe_cmpR op_isN (pv 1) pe_non (nomark _)) (pe_one (pe_cmpR op_isN (pv 0) pe_non (nomark _)))))) pss_nil)
 (pss_cons (ps_if (pt_cmpR op_ne (pe_callB (kx_isi (K := K) rfl) (by rfl) T.isinstance (by decide +kernel) (pa_cons (pv 0) (pa_cons (pe_bltn (v := .ty "bool") (by rfl) T.bool (by decide +kernel) rfl) pa_nil))) (pe_callB (kx_isi (K := K) rfl) (by rfl) T.isinstance (by decide +kernel) (pa_cons (pv 1) (pa_cons (pe_bltn (v := .ty "bool") (by rfl) T.bool (by decide +kernel) rfl) pa_nil))) (nomark _)) (pss_one (ps_ret pe_bl)) pss_nil)
 (pss_cons (ps_if (PW.pt (pw_or (pt_cmpR op_ne (pe_callB (kx_isi (K := K) rfl) (by rfl) T.isinstance (by decide +kernel) (pa_cons (pv 0) (pa_cons (pe_bltn (v := .ty "int") (by rfl) T.int (by decide +kernel) rfl) pa_nil))) (pe_callB (kx_isi (K := K) rfl) (by rfl) T.isinstance (by decide +kernel) (pa_cons (pv 1) (pa_cons (pe_bltn (v := .ty "int") (by rfl) T.int (by decide +kernel) rfl) pa_nil))) (nomark _)) (pw_or1 (pt_cmpR op_ne (pe_callB (kx_isi (K := K) rfl) (by rfl) T.isinstance (by decide +kernel) (pa_cons (pv 0) (pa_cons (pe_bltn (v := .ty "str") (by rfl) T.str (by decide +kernel) rfl) pa_nil))) (pe_callB (kx_isi (K := K) rfl) (by rfl) T.isinstance (by decide +kernel) (pa_cons (pv 1) (pa_cons (pe_bltn (v := .ty "str") (by rfl) T.str (by decide +kernel) rfl) pa_nil))) (nomark _))))) (pss_one (ps_ret pe_bl)) pss_nil)
 (pss_one (ps_ret (pe_cmpR op_eq (pv 0) (pv 1) (nomark _)))))))), _, fun ex He Hf => (sms_seq (sms_if (smt_or (smt_b (f1 := false) (sm_isi (f1 := false) "tuple" (sm_var 1))) (smt_b (f1 := false) (sm_isi (f1 := false) "list" (sm_var 1))))
 (sms_seq (sms_if (smt_t (f1 := false) (sm_op (f1 := false) (f2 := false) opd_ne (sm_isi (f1 := false) "tuple" (sm_var 0)) (sm_isi (f1 := false) "tuple" (sm_var 1))))
 (sms_ret (sm_bl _))
 sms_next)
 (sms_seq (sms_if (smt_or (smt_t (f1 := false) (sm_op (f1 := false) (f2 := false) opd_ne (sm_isi (f1 := false) "list" (sm_var 0)) (sm_isi (f1 := false) "list" (sm_var 1)))) (smt_t (f1 := false) (sm_op (f1 := false) (f2 := false) opd_ne (sm_cb (f1 := false) cbd_len (sma_cons (sm_var 0) sma_nil)) (sm_cb (f1 := false) cbd_len (sma_cons (sm_var 1) sma_nil)))))
 (sms_ret (sm_bl _))
 sms_next)
 (sms_seq (sms_for (smi_rng1 (f1 := false) (sm_cb (f1 := false) cbd_len (sma_cons (sm_var 1) sma_nil))) (smg_name 2)
 (sms_if (smt_not (smt_b (f1 := false) (sm_call len__law_same (smq_cons (sm_ix (f2 := false) (sm_var 0) (sm_var 2)) (smq_cons (sm_ix (f2 := false) (sm_var 1) (sm_var 2)) smq_nil)))))
 (sms_ret (sm_bl _))
 sms_next))
 (sms_ret (sm_bl _)))))
 sms_next)
 (sms_seq (sms_if (smt_or (smt_t (f1 := false) (sm_op (f1 := false) (f2 := false) opd_isN (sm_var 1) sm_non)) (smt_t (f1 := false) (sm_op (f1 := false) (f2 := false) opd_isN (sm_var 0) sm_non)))
 (sms_ret (sm_and (f1 := false) (sm_op (f1 := false) (f2 := false) opd_isN (sm_var 1) sm_non) (sm_op (f1 := false) (f2 := false) opd_isN (sm_var 0) sm_non)))
 sms_next)
 (sms_seq (sms_if (smt_t (f1 := false) (sm_op (f1 := false) (f2 := false) opd_ne (sm_isi (f1 := false) "bool" (sm_var 0)) (sm_isi (f1 := false) "bool" (sm_var 1))))
 (sms_ret (sm_bl _))
 sms_next)
 (sms_seq (sms_if (smt_or (smt_t (f1 := false) (sm_op (f1 := false) (f2 := false) opd_ne (sm_isi (f1 := false) "int" (sm_var 0)) (sm_isi (f1 := false) "int" (sm_var 1)))) (smt_t (f1 := false) (sm_op (f1 := false) (f2 := false) opd_ne (sm_isi (f1 := false) "str" (sm_var 0)) (sm_isi (f1 := false) "str" (sm_var 1)))))
 (sms_ret (sm_bl _))
 sms_next)
 (sms_ret (sm_op (f1 := false) (f2 := false) opd_eq (sm_var 0) (sm_var 1))))))), ?_⟩
    rintro rs Φ ⟨x, rfl, ⟨m, hm, hx⟩, h⟩
    cases hx with
    | none => simpa [tyD] using h
    | bool b => simpa [tyD] using h
    | int i => simpa [tyD] using h
    | str t => simpa [tyD] using h
    | @list m xs hx hl =>
      simp [tyD]
      simp only [dFor, iR1]
      simp
      refine ⟨by omega, fun _ δ => ∃ y, δ = [some (.d (.list xs)), some (.d (.list xs)), y], ⟨_, rfl⟩, fun k z δ hk hI => ?_, fun δ hI => ?_⟩
      · obtain ⟨y, rfl⟩ := hI
        obtain ⟨hk', rfl⟩ := rng_get hk
        have hk2 : k < xs.length := hk'
        have ha : atI xs (k : Int) = some xs[k] := atI_nat (List.getElem?_eq_getElem hk2)
        simp
        refine ⟨_, ha, _, ha, xs[k], rfl, ⟨m, by omega, hx _ (List.getElem_mem _)⟩, ?_⟩
        simp
      · obtain ⟨y, rfl⟩ := hI
        simpa using h
    | @tuple m xs hx hl =>
      simp [tyD]
      simp only [dFor, iR1]
      simp
      refine ⟨by omega, fun _ δ => ∃ y, δ = [some (.d (.tuple xs)), some (.d (.tuple xs)), y], ⟨_, rfl⟩, fun k z δ hk hI => ?_, fun δ hI => ?_⟩
      · obtain ⟨y, rfl⟩ := hI
        obtain ⟨hk', rfl⟩ := rng_get hk
        have hk2 : k < xs.length := hk'
        have ha : atI xs (k : Int) = some xs[k] := atI_nat (List.getElem?_eq_getElem hk2)
        simp
        refine ⟨_, ha, _, ha, xs[k], rfl, ⟨m, by omega, hx _ (List.getElem_mem _)⟩, ?_⟩
        simp
      · obtain ⟨y, rfl⟩ := hI
        simpa using h
theorem G__law_same (T : Txt K mg) : FnOk P w K mg base CX0 12 T.f__law_same T.fd__law_same ["actual", "expected"] (toSp K 2 (vp__law_same 11)) := same_at T


/-! ### records as data -/
inductive Opd where
  | int (k : Str) (v : Int) | nul | nam (n : Int) | glo (s : Str)
def Opd.D : Opd → PyData
  | .int k v => .tuple [.str "int", .str k, .int v]
  | .nul => .tuple [.str "null"]
  | .nam n => .tuple [.str "name", .int n]
  | .glo s => .tuple [.str "global", .str s]
def ik : List Str := ["i1", "i8", "i16", "i32", "i64"]
def pk : List Str := ["i1", "i8", "i16", "i32", "i64", "ptr"]
def vk : List Str := ["i1", "i8", "i16", "i32", "i64", "ptr", "void"]
def gls : List Str := ["g", "h2", "zero_", "a"]
def wds : List Int := [1, 8, 16, 32, 64]
def wdOf (k : Str) : Nat := if k = "i1" then 1 else if k = "i8" then 8 else if k = "i16" then 16 else if k = "i32" then 32 else 64
def Opd.ok (span : Int) : Opd → Prop
  | .int k v => k ∈ ik ∧ 0 ≤ v ∧ v < 2 ^ wdOf k
  | .nul => True
  | .nam n => 0 ≤ n ∧ n < span
  | .glo s => s ∈ gls
inductive Dat where
  | non | num (ns : List Int) | wrd (s : Str)
def Dat.D : Dat → List PyData
  | .non => []
  | .num ns => ns.map .int
  | .wrd s => [.str s]
structure Ins where
  nm : Int
  op : Str
  kd : Str
  os : List Opd
  dt : Dat
  pl : Int
def Ins.D (i : Ins) : PyData := .tuple [.int i.nm, .str i.op, .str i.kd, .tuple (i.os.map Opd.D), .tuple i.dt.D, .int i.pl]
structure Edg where
  lb : Int
  as : List Opd
def Edg.D (e : Edg) : PyData := .tuple [.int e.lb, .tuple (e.as.map Opd.D)]
inductive End where
  | br (e : Edg) | con (o : Opd) (e f : Edg) | sw (o : Opd) (cs : List (Int × Edg)) (d : Edg) | retN | ret (o : Opd) | stop (n : Int)
def caseD (c : Int × Edg) : PyData := .tuple [.int c.1, c.2.D]
def End.D : End → PyData
  | .br e => .tuple [.str "br", e.D]
  | .con o e f => .tuple [.str "condbr", o.D, e.D, f.D]
  | .sw o cs d => .tuple [.str "switch", o.D, .tuple (cs.map caseD), d.D]
  | .retN => .tuple [.str "ret", .none]
  | .ret o => .tuple [.str "ret", o.D]
  | .stop n => .tuple [.str "stop", .int n]
structure Blk where
  lb : Int
  ps : List (Int × Str)
  bd : List Ins
  en : End
def parD (p : Int × Str) : PyData := .tuple [.int p.1, .str p.2]
def Blk.D (b : Blk) : PyData := .tuple [.int b.lb, .tuple (b.ps.map parD), .tuple (b.bd.map Ins.D), b.en.D]
structure Fn where
  nm : Str
  kd : Str
  il : Bool
  bs : List Blk
def Fn.D (f : Fn) : PyData := .tuple [.str f.nm, .str f.kd, .bool f.il, .tuple (f.bs.map Blk.D)]

/-! ### the law's free records -/
theorem atI_in {α : Type} {xs : List α} {i : Int} (h0 : 0 ≤ i) (h1 : i < xs.length) : ∃ z ∈ xs, atI xs i = some z := by
  obtain ⟨j, rfl⟩ : ∃ j : Nat, i = (j : Int) := ⟨i.toNat, by omega⟩
  have hj : j < xs.length := by omega
  exact ⟨xs[j], List.getElem_mem _, atI_nat (List.getElem?_eq_getElem hj)⟩
theorem pow2_pos (n : Nat) : (0 : Int) < 2 ^ n := PySem.W.kbt_pos n
theorem sl5 : (5 : Nat) ≤ sizeLine := by decide
theorem sl5' {n : Nat} (h : n ≤ 100000) : n ≤ sizeLine := Nat.le_trans h (by decide)
theorem cpw {n : Nat} (h : n ≤ 64) : CPow 1 (n : Int) := ⟨by omega, by omega, by decide⟩
theorem kw_at {i : Int} (h0 : 0 ≤ i) (h1 : i < 5) : ∃ (k : Str) (n : Nat), atI [PyData.str "i1", .str "i8", .str "i16", .str "i32", .str "i64"] i = some (.str k) ∧ atI [PyData.int 1, .int 8, .int 16, .int 32, .int 64] i = some (.int n) ∧ k ∈ ik ∧ wdOf k = n ∧ 1 ≤ n ∧ n ≤ 64 := by
  have : i = 0 ∨ i = 1 ∨ i = 2 ∨ i = 3 ∨ i = 4 := by omega
  rcases this with rfl | rfl | rfl | rfl | rfl
  · exact ⟨"i1", 1, by simp, by simp, by simp [ik], by simp [wdOf], by decide, by decide⟩
  · exact ⟨"i8", 8, by simp, by simp, by simp [ik], by simp [wdOf], by decide, by decide⟩
  · exact ⟨"i16", 16, by simp, by simp, by simp [ik], by simp [wdOf], by decide, by decide⟩
  · exact ⟨"i32", 32, by simp, by simp, by simp [ik], by simp [wdOf], by decide, by decide⟩
  · exact ⟨"i64", 64, by simp, by simp, by simp [ik], by simp [wdOf], by decide, by decide⟩
def vp__law_free_operand : VSp := fun rs Φ => ∃ a b span : Int, rs = [.d (.int a), .d (.int b), .d (.int span)] ∧ 0 ≤ a ∧ 0 ≤ b ∧ 0 < span ∧ ∀ o : Opd, o.ok span → Φ (.d o.D)
theorem len__law_free_operand : ∀ rs Φ, vp__law_free_operand rs Φ → rs.length = 3 := fun rs Φ ⟨_, _, _, e, _⟩ => by rw [e]; rfl
theorem G__law_free_operand (T : Txt K mg) : FnOk P w K mg base CX0 1 T.f__law_free_operand T.fd__law_free_operand ["first", "second", "span"] (toSp K 3 vp__law_free_operand) := by
  refine fn_ok T.F__law_free_operand sc__law_free_operand fun cdv A outer s H E hr => ⟨_, (pss_cons (ps_set (i := 3) sc__law_free_operand.nd rfl (Or.inl rfl) (pe_lst (pa_cons pe_str (pa_cons pe_str (pa_cons pe_str (pa_cons pe_str (pa_cons pe_str pa_nil)))))))
 (pss_cons (ps_set (i := 4) sc__law_free_operand.nd rfl (Or.inl rfl) (pe_lst (pa_cons pe_int (pa_cons pe_int (pa_cons pe_int (pa_cons pe_int (pa_cons pe_int pa_nil)))))))
 (pss_cons (ps_set (i := 5) sc__law_free_operand.nd rfl (Or.inl rfl) (pe_op op_mod (pv 0) pe_int))
 (pss_cons (ps_if (pt_cmpR op_lt (pv 5) pe_int (nomark _)) (pss_one (ps_ret (pe_tup (pa_cons pe_str (pa_cons (pe_op op_mod (pv 1) (pv 2)) pa_nil))))) pss_nil)
 (pss_cons (ps_if (pt_cmpR op_eq (pv 5) pe_int (nomark _)) (pss_one (ps_ret (pe_tup (pa_cons pe_str pa_nil)))) pss_nil)
 (pss_cons (ps_if (pt_cmpR op_eq (pv 5) pe_int (nomark _)) (pss_one (ps_ret (pe_tup (pa_cons pe_str (pa_cons (pe_ix (kx_seq (K := K) rfl) (pe_lst (pa_cons pe_str (pa_cons pe_str (pa_cons pe_str (pa_cons pe_str pa_nil))))) (pe_op op_mod (pv 1) pe_int) (fun _ _ => rfl)) pa_nil))))) pss_nil)
 (pss_cons (ps_set (i := 6) sc__law_free_operand.nd rfl (Or.inl rfl) (pe_op op_mod (pe_op op_fdivW (pv 0) pe_int) pe_int))
 (pss_cons (ps_set (i := 7) sc__law_free_operand.nd rfl (Or.inl rfl) (pv 1))
 (pss_cons (ps_if (pt_cmpR op_eq (pv 5) pe_int (nomark _)) (pss_one (ps_set (i := 7) sc__law_free_operand.nd rfl (Or.inl rfl) (pe_op op_sub (pe_op op_sub (pe_op op_pow pe_int pe_int) pe_int) (pv 1)))) pss_nil)
 (pss_one (ps_ret (pe_tup (pa_cons pe_str (pa_cons (pe_ix (kx_seq (K := K) rfl) (pv 3) (pv 6) (fun _ _ => rfl)) (pa_cons (pe_op op_mod (pv 7) (pe_op op_shl pe_int (pe_ix (kx_seq (K := K) rfl) (pv 4) (pv 6) (fun _ _ => rfl)))) pa_nil))))))))))))))), _, fun ex He Hf => (sms_seq (sms_asg (SmO.sm (smo_lst (sma_cons (sm_str _) (sma_cons (sm_str _) (sma_cons (sm_str _) (sma_cons (sm_str _) (sma_cons (sm_str _) sma_nil))))))) (smg_name 3))
 (sms_seq (sms_asg (SmO.sm (smo_lst (sma_cons (sm_int _) (sma_cons (sm_int _) (sma_cons (sm_int _) (sma_cons (sm_int _) (sma_cons (sm_int _) sma_nil))))))) (smg_name 4))
 (sms_seq (sms_asg (sm_op (f1 := false) (f2 := false) (opd_I (g' := fun i j => .int (i % j)) fun _ _ => rfl) (sm_var 0) (sm_int _)) (smg_name 5))
 (sms_seq (sms_if (smt_t (f1 := false) (sm_op (f1 := false) (f2 := false) (opd_I0 (g' := fun i j => .bool (decide (i < j))) fun _ _ => rfl) (sm_var 5) (sm_int _)))
 (sms_ret (sm_tup (sma_cons (sm_str _) (sma_cons (sm_op (f1 := false) (f2 := false) (opd_I (g' := fun i j => .int (i % j)) fun _ _ => rfl) (sm_var 1) (sm_var 2)) sma_nil))))
 sms_next)
 (sms_seq (sms_if (smt_t (f1 := false) (sm_op (f1 := false) (f2 := false) opd_eq (sm_var 5) (sm_int _)))
 (sms_ret (sm_tup (sma_cons (sm_str _) sma_nil)))
 sms_next)
 (sms_seq (sms_if (smt_t (f1 := false) (sm_op (f1 := false) (f2 := false) opd_eq (sm_var 5) (sm_int _)))
 (sms_ret (sm_tup (sma_cons (sm_str _) (sma_cons (sm_ix (f2 := false) (SmO.sm (smo_lst (sma_cons (sm_str _) (sma_cons (sm_str _) (sma_cons (sm_str _) (sma_cons (sm_str _) sma_nil)))))) (sm_op (f1 := false) (f2 := false) (opd_I (g' := fun i j => .int (i % j)) fun _ _ => rfl) (sm_var 1) (sm_int _))) sma_nil))))
 sms_next)
 (sms_seq (sms_asg (sm_op (f1 := false) (f2 := false) (opd_I (g' := fun i j => .int (i % j)) fun _ _ => rfl) (sm_op (f1 := false) (f2 := false) (opd_I (g' := fun i j => .int (i / j)) fun _ _ => rfl) (sm_var 0) (sm_int _)) (sm_int _)) (smg_name 6))
 (sms_seq (sms_asg (sm_var 1) (smg_name 7))
 (sms_seq (sms_if (smt_t (f1 := false) (sm_op (f1 := false) (f2 := false) opd_eq (sm_var 5) (sm_int _)))
 (sms_asg (sm_op (f1 := false) (f2 := false) (opd_I0 (g' := fun i j => .int (i - j)) fun _ _ => rfl) (sm_op (f1 := false) (f2 := false) (opd_I0 (g' := fun i j => .int (i - j)) fun _ _ => rfl) (sm_op (f1 := false) (f2 := false) (opd_I (g' := fun i j => .int (i ^ j.toNat)) fun _ _ => rfl) (sm_int _) (sm_int _)) (sm_int _)) (sm_var 1)) (smg_name 7))
 sms_next)
 (sms_ret (sm_tup (sma_cons (sm_str _) (sma_cons (sm_ix (f2 := false) (sm_var 3) (sm_var 6)) (sma_cons (sm_op (f1 := false) (f2 := false) (opd_I (g' := fun i j => .int (i % j)) fun _ _ => rfl) (sm_var 7) (sm_op (f1 := false) (f2 := false) (opd_I (g' := fun i j => .int (i * 2 ^ j.toNat)) fun _ _ => rfl) (sm_int _) (sm_ix (f2 := false) (sm_var 4) (sm_var 6)))) sma_nil)))))))))))))), ?_⟩
  rintro rs Φ ⟨a, b, span, rfl, ha, hb, hs, h⟩
  have ov : ∀ (k : Str) (n : Nat) (v : Int), k ∈ ik → wdOf k = n → Φ (.d (.tuple [.str "int", .str k, .int (v % 2 ^ n)])) := fun k n v hk hn =>
    h (.int k (v % 2 ^ n)) ⟨hk, Int.emod_nonneg _ (Int.ne_of_gt (pow2_pos n)), by rw [hn]; exact Int.emod_lt_of_pos _ (pow2_pos n)⟩
  simp
  refine ⟨sl5, ?_⟩
  split
  · exact ⟨hs, sl5' (by decide), h (.nam (b % span)) ⟨Int.emod_nonneg _ (by omega), Int.emod_lt_of_pos _ hs⟩⟩
  split
  · exact ⟨sl5' (by decide), h .nul trivial⟩
  split
  · refine ⟨sl5' (by decide), ?_⟩
    obtain ⟨z, hz, e⟩ := atI_in (xs := gls.map PyData.str) (i := b % 4) (by omega) (by show b % 4 < 4; omega)
    obtain ⟨g, hg, rfl⟩ := List.mem_map.mp hz
    exact ⟨_, e, sl5' (by decide), h (.glo g) hg⟩
  obtain ⟨k, n, e1, e2, hk, hn, n1, n2⟩ := kw_at (i := a / 8 % 5) (by omega) (by omega)
  refine ⟨⟨by decide, by decide⟩, ?_⟩
  split
  · exact ⟨⟨by decide, by decide, by decide⟩, _, e1, _, e2, n, rfl, cpw n2, pow2_pos n, sl5' (by decide), ov k n _ hk hn⟩
  · exact ⟨_, e1, _, e2, n, rfl, cpw n2, pow2_pos n, sl5' (by decide), ov k n _ hk hn⟩

def kdOk (op kd : Str) : Prop := if op = "alloca" ∨ op = "gep" then kd = "ptr" else if op = "kill" then kd = "void" else if op = "call" then kd ∈ vk else if op = "icmp" ∨ op = "select" ∨ op = "load" ∨ op = "store" then kd ∈ pk else kd ∈ ik
def vp__law_free_kind : VSp := fun rs Φ => ∃ (op : Str) (n : Int), rs = [.d (.str op), .d (.int n)] ∧ 0 ≤ n ∧ ∀ k : Str, kdOk op k → Φ (.d (.str k))
theorem len__law_free_kind : ∀ rs Φ, vp__law_free_kind rs Φ → rs.length = 2 := fun rs Φ ⟨_, _, e, _⟩ => by rw [e]; rfl
theorem pick {xs : List Str} {i : Int} (h0 : 0 ≤ i) (h1 : i < xs.length) : ∃ z, atI (xs.map PyData.str) i = some (.str z) ∧ z ∈ xs := by
  obtain ⟨z, hz, e⟩ := atI_in (xs := xs.map PyData.str) h0 (by rw [List.length_map]; exact h1)
  obtain ⟨g, hg, rfl⟩ := List.mem_map.mp hz
  exact ⟨g, e, hg⟩
theorem pick6 {i : Int} (h0 : 0 ≤ i) (h1 : i < 6) : ∃ z, atI (vk.map PyData.str) i = some (.str z) ∧ z ∈ pk := by
  have : i = 0 ∨ i = 1 ∨ i = 2 ∨ i = 3 ∨ i = 4 ∨ i = 5 := by omega
  rcases this with rfl | rfl | rfl | rfl | rfl | rfl
  all_goals exact ⟨_, rfl, by decide +kernel⟩
theorem pick5 {i : Int} (h0 : 0 ≤ i) (h1 : i < 5) : ∃ z, atI (vk.map PyData.str) i = some (.str z) ∧ z ∈ ik := by
  have : i = 0 ∨ i = 1 ∨ i = 2 ∨ i = 3 ∨ i = 4 := by omega
  rcases this with rfl | rfl | rfl | rfl | rfl
  all_goals exact ⟨_, rfl, by decide +kernel⟩
theorem G__law_free_kind (T : Txt K mg) : FnOk P w K mg base CX0 1 T.f__law_free_kind T.fd__law_free_kind ["op", "number"] (toSp K 2 vp__law_free_kind) := by
  refine fn_ok T.F__law_free_kind sc__law_free_kind fun cdv A outer s H E hr => ⟨_, (pss_cons (ps_set (i := 2) sc__law_free_kind.nd rfl (Or.inl rfl) (pe_lst (pa_cons pe_str (pa_cons pe_str (pa_cons pe_str (pa_cons pe_str (pa_cons pe_str (pa_cons pe_str (pa_cons pe_str pa_nil)))))))))
 (pss_cons (ps_if (PW.pt (pw_or (pt_cmpR op_eq (pv 0) pe_str (nomark _)) (pw_or1 (pt_cmpR op_eq (pv 0) pe_str (nomark _))))) (pss_one (ps_ret pe_str)) pss_nil)
 (pss_cons (ps_if (pt_cmpR op_eq (pv 0) pe_str (nomark _)) (pss_one (ps_ret pe_str)) pss_nil)
 (pss_cons (ps_if (pt_cmpR op_eq (pv 0) pe_str (nomark _)) (pss_one (ps_ret (pe_ix (kx_seq (K := K) rfl) (pv 2) (pe_op op_mod (pv 1) pe_int) (fun _ _ => rfl)))) pss_nil)
 (pss_cons (ps_if (PW.pt (pw_or (pt_cmpR op_eq (pv 0) pe_str (nomark _)) (pw_or (pt_cmpR op_eq (pv 0) pe_str (nomark _)) (pw_or (pt_cmpR op_eq (pv 0) pe_str (nomark _)) (pw_or1 (pt_cmpR op_eq (pv 0) pe_str (nomark _))))))) (pss_one (ps_ret (pe_ix (kx_seq (K := K) rfl) (pv 2) (pe_op op_mod (pv 1) pe_int) (fun _ _ => rfl)))) pss_nil)
 (pss_one (ps_ret (pe_ix (kx_seq (K := K) rfl) (pv 2) (pe_op op_mod (pv 1) pe_int) (fun _ _ => rfl))))))))), _, fun ex He Hf => (sms_seq (sms_asg (SmO.sm (smo_lst (sma_cons (sm_str _) (sma_cons (sm_str _) (sma_cons (sm_str _) (sma_cons (sm_str _) (sma_cons (sm_str _) (sma_cons (sm_str _) (sma_cons (sm_str _) sma_nil))))))))) (smg_name 2))
 (sms_seq (sms_if (smt_or (smt_t (f1 := false) (sm_op (f1 := false) (f2 := false) opd_eq (sm_var 0) (sm_str _))) (smt_t (f1 := false) (sm_op (f1 := false) (f2 := false) opd_eq (sm_var 0) (sm_str _))))
 (sms_ret (sm_str _))
 sms_next)
 (sms_seq (sms_if (smt_t (f1 := false) (sm_op (f1 := false) (f2 := false) opd_eq (sm_var 0) (sm_str _)))
 (sms_ret (sm_str _))
 sms_next)
 (sms_seq (sms_if (smt_t (f1 := false) (sm_op (f1 := false) (f2 := false) opd_eq (sm_var 0) (sm_str _)))
 (sms_ret (sm_ix (f2 := false) (sm_var 2) (sm_op (f1 := false) (f2 := false) (opd_I (g' := fun i j => .int (i % j)) fun _ _ => rfl) (sm_var 1) (sm_int _))))
 sms_next)
 (sms_seq (sms_if (smt_or (smt_t (f1 := false) (sm_op (f1 := false) (f2 := false) opd_eq (sm_var 0) (sm_str _))) (smt_or (smt_t (f1 := false) (sm_op (f1 := false) (f2 := false) opd_eq (sm_var 0) (sm_str _))) (smt_or (smt_t (f1 := false) (sm_op (f1 := false) (f2 := false) opd_eq (sm_var 0) (sm_str _))) (smt_t (f1 := false) (sm_op (f1 := false) (f2 := false) opd_eq (sm_var 0) (sm_str _))))))
 (sms_ret (sm_ix (f2 := false) (sm_var 2) (sm_op (f1 := false) (f2 := false) (opd_I (g' := fun i j => .int (i % j)) fun _ _ => rfl) (sm_var 1) (sm_int _))))
 sms_next)
 (sms_ret (sm_ix (f2 := false) (sm_var 2) (sm_op (f1 := false) (f2 := false) (opd_I (g' := fun i j => .int (i % j)) fun _ _ => rfl) (sm_var 1) (sm_int _))))))))), ?_⟩
  rintro rs Φ ⟨op, n, rfl, hn, h⟩
  have v7 : n % 7 < 7 := by omega
  have z7 : 0 ≤ n % 7 := by omega
  have v6 : n % 6 < 6 := by omega
  have z6 : 0 ≤ n % 6 := by omega
  have v5 : n % 5 < 5 := by omega
  have z5 : 0 ≤ n % 5 := by omega
  obtain ⟨k7, e7, m7⟩ := pick (xs := vk) z7 v7
  obtain ⟨k6, e6, m6⟩ := pick6 z6 v6
  obtain ⟨k5, e5, m5⟩ := pick5 z5 v5
  simp
  refine ⟨sl5' (by decide), ?_⟩
  split
  · rename_i c; subst c; exact h _ (by simp [kdOk])
  split
  · rename_i c; subst c; exact h _ (by simp [kdOk])
  split
  · rename_i c; subst c; exact h _ (by simp [kdOk])
  split
  · rename_i c; subst c; exact ⟨_, e7, h _ (by simp [kdOk, m7])⟩
  split
  · rename_i c; subst c; exact ⟨_, e6, h _ (by simp [kdOk, m6])⟩
  split
  · rename_i c; subst c; exact ⟨_, e6, h _ (by simp [kdOk, m6])⟩
  split
  · rename_i c; subst c; exact ⟨_, e6, h _ (by simp [kdOk, m6])⟩
  split
  · rename_i c; subst c; exact ⟨_, e6, h _ (by simp [kdOk, m6])⟩
  exact ⟨_, e5, h _ (by simp [kdOk, *])⟩
def cntOk (op : Str) (n : Nat) : Prop := if op = "alloca" then n = 0 else if op = "gep" then 1 ≤ n ∧ n ≤ 5 else if op = "call" then n ≤ 4 else if op = "select" then n = 3 else if op = "trunc" ∨ op = "zext" ∨ op = "sext" ∨ op = "load" ∨ op = "kill" then n = 1 else n = 2
def vp__law_free_count : VSp := fun rs Φ => ∃ (op : Str) (n : Int), rs = [.d (.str op), .d (.int n)] ∧ 0 ≤ n ∧ ∀ k : Nat, cntOk op k → Φ (.d (.int k))
theorem len__law_free_count : ∀ rs Φ, vp__law_free_count rs Φ → rs.length = 2 := fun rs Φ ⟨_, _, e, _⟩ => by rw [e]; rfl
theorem G__law_free_count (T : Txt K mg) : FnOk P w K mg base CX0 1 T.f__law_free_count T.fd__law_free_count ["op", "number"] (toSp K 2 vp__law_free_count) := by
  refine fn_ok T.F__law_free_count sc__law_free_count fun cdv A outer s H E hr => ⟨_, (pss_cons (ps_if (pt_cmpR op_eq (pv 0) pe_str (nomark _)) (pss_one (ps_ret pe_int)) pss_nil)
 (pss_cons (ps_if (pt_cmpR op_eq (pv 0) pe_str (nomark _)) (pss_one (ps_ret (pe_op op_add pe_int (pe_op op_mod (pv 1) pe_int)))) pss_nil)
 (pss_cons (ps_if (pt_cmpR op_eq (pv 0) pe_str (nomark _)) (pss_one (ps_ret (pe_op op_mod (pv 1) pe_int))) pss_nil)
 (pss_cons (ps_if (pt_cmpR op_eq (pv 0) pe_str (nomark _)) (pss_one (ps_ret pe_int)) pss_nil)
 (pss_cons (ps_if (PW.pt (pw_or (pt_cmpR op_eq (pv 0) pe_str (nomark _)) (pw_or (pt_cmpR op_eq (pv 0) pe_str (nomark _)) (pw_or (pt_cmpR op_eq (pv 0) pe_str (nomark _)) (pw_or (pt_cmpR op_eq (pv 0) pe_str (nomark _)) (pw_or1 (pt_cmpR op_eq (pv 0) pe_str (nomark _)))))))) (pss_one (ps_ret pe_int)) pss_nil)
 (pss_one (ps_ret pe_int))))))), _, fun ex He Hf => (sms_seq (sms_if (smt_t (f1 := false) (sm_op (f1 := false) (f2 := false) opd_eq (sm_var 0) (sm_str _)))
 (sms_ret (sm_int _))
 sms_next)
 (sms_seq (sms_if (smt_t (f1 := false) (sm_op (f1 := false) (f2 := false) opd_eq (sm_var 0) (sm_str _)))
 (sms_ret (sm_op (f1 := false) (f2 := false) (opd_I0 (g' := fun i j => .int (i + j)) fun _ _ => rfl) (sm_int _) (sm_op (f1 := false) (f2 := false) (opd_I (g' := fun i j => .int (i % j)) fun _ _ => rfl) (sm_var 1) (sm_int _))))
 sms_next)
 (sms_seq (sms_if (smt_t (f1 := false) (sm_op (f1 := false) (f2 := false) opd_eq (sm_var 0) (sm_str _)))
 (sms_ret (sm_op (f1 := false) (f2 := false) (opd_I (g' := fun i j => .int (i % j)) fun _ _ => rfl) (sm_var 1) (sm_int _)))
 sms_next)
 (sms_seq (sms_if (smt_t (f1 := false) (sm_op (f1 := false) (f2 := false) opd_eq (sm_var 0) (sm_str _)))
 (sms_ret (sm_int _))
 sms_next)
 (sms_seq (sms_if (smt_or (smt_t (f1 := false) (sm_op (f1 := false) (f2 := false) opd_eq (sm_var 0) (sm_str _))) (smt_or (smt_t (f1 := false) (sm_op (f1 := false) (f2 := false) opd_eq (sm_var 0) (sm_str _))) (smt_or (smt_t (f1 := false) (sm_op (f1 := false) (f2 := false) opd_eq (sm_var 0) (sm_str _))) (smt_or (smt_t (f1 := false) (sm_op (f1 := false) (f2 := false) opd_eq (sm_var 0) (sm_str _))) (smt_t (f1 := false) (sm_op (f1 := false) (f2 := false) opd_eq (sm_var 0) (sm_str _)))))))
 (sms_ret (sm_int _))
 sms_next)
 (sms_ret (sm_int _))))))), ?_⟩
  rintro rs Φ ⟨op, n, rfl, hn, h⟩
  have hc : ∀ (k : Nat) (i : Int), i = k → cntOk op k → Φ (.d (.int i)) := fun k i e c => by rw [e]; exact h k c
  simp
  split
  · rename_i c; subst c; exact hc 0 _ rfl (by simp [cntOk])
  split
  · rename_i c; subst c; exact hc (1 + n % 5).toNat _ (by omega) (by simp [cntOk]; omega)
  split
  · rename_i c; subst c; exact hc (n % 5).toNat _ (by omega) (by simp [cntOk]; omega)
  split
  · rename_i c; subst c; exact hc 3 _ rfl (by simp [cntOk])
  split
  · rename_i c; subst c; exact hc 1 _ rfl (by simp [cntOk])
  split
  · rename_i c; subst c; exact hc 1 _ rfl (by simp [cntOk])
  split
  · rename_i c; subst c; exact hc 1 _ rfl (by simp [cntOk])
  split
  · rename_i c; subst c; exact hc 1 _ rfl (by simp [cntOk])
  split
  · rename_i c; subst c; exact hc 1 _ rfl (by simp [cntOk])
  exact hc 2 _ rfl (by simp [cntOk, *])
theorem row_at {row : List Int} (h : Row row) {i : Int} (h0 : 0 ≤ i) (h1 : i < row.length) : ∃ x : Int, atI (row.map PyData.int) i = some (.int x) ∧ 0 ≤ x ∧ x < 1000000000000000000 := by
  obtain ⟨z, hz, e⟩ := atI_in (xs := row.map PyData.int) h0 (by rw [List.length_map]; exact h1)
  obtain ⟨x, hx, rfl⟩ := List.mem_map.mp hz
  exact ⟨x, e, h x hx⟩

def prs : List Str := ["eq", "ne", "ult", "ule", "ugt", "uge", "slt", "sle", "sgt", "sge"]
def cls : List Str := ["get", "put", "exit", "malloc", "free", "main", "f", "f2"]
def datOk (op : Str) (n : Nat) (d : Dat) : Prop := if op = "alloca" then ∃ k : Int, d = .num [k] ∧ 1 ≤ k ∧ k ≤ 4096 else if op = "icmp" then ∃ p, d = .wrd p ∧ p ∈ prs else if op = "call" then ∃ p, d = .wrd p ∧ p ∈ cls
  else if op = "gep" then ∃ ns : List Int, d = .num ns ∧ ns.length = n ∧ ∀ x ∈ ns, -2147483648 ≤ x ∧ x ≤ 2147483647 else d = .non
def vp__law_free_data : VSp := fun rs Φ => ∃ (op : Str) (row : List Int) (a : Int) (n : Nat), rs = [.d (.str op), .d (.list (row.map .int)), .d (.int a), .d (.int n)] ∧ Row row ∧ 0 ≤ a ∧ a + n < row.length ∧ n ≤ 5 ∧ ∀ d : Dat, datOk op n d → Φ (.d (.tuple d.D))
theorem len__law_free_data : ∀ rs Φ, vp__law_free_data rs Φ → rs.length = 4 := fun rs Φ ⟨_, _, _, _, e, _⟩ => by rw [e]; rfl
theorem G__law_free_data (T : Txt K mg) : FnOk P w K mg base CX0 1 T.f__law_free_data T.fd__law_free_data ["op", "row", "at", "count"] (toSp K 4 vp__law_free_data) := by
  refine fn_ok T.F__law_free_data sc__law_free_data fun cdv A outer s H E hr => ⟨_, (pss_cons (ps_if (pt_cmpR op_eq (pv 0) pe_str (nomark _)) (pss_one (ps_ret (pe_tup (pa_cons (pe_op op_add pe_int (pe_op op_mod (pe_ix (kx_seq (K := K) rfl) (pv 1) (pv 2) (fun _ _ => rfl)) pe_int)) pa_nil)))) pss_nil)
 (pss_cons (ps_if (pt_cmpR op_eq (pv 0) pe_str (nomark _)) (pss_one (ps_ret (pe_tup (pa_cons (pe_ix (kx_seq (K := K) rfl) (pe_lst (pa_cons pe_str (pa_cons pe_str (pa_cons pe_str (pa_cons pe_str (pa_cons pe_str (pa_cons pe_str (pa_cons pe_str (pa_cons pe_str (pa_cons pe_str (pa_cons pe_str pa_nil))))))))))) (pe_op op_mod (pe_ix (kx_seq (K := K) rfl) (pv 1) (pv 2) (fun _ _ => rfl)) pe_int) (fun _ _ => rfl)) pa_nil)))) pss_nil)
 (pss_cons (ps_if (pt_cmpR op_eq (pv 0) pe_str (nomark _)) (pss_one (ps_ret (pe_tup (pa_cons (pe_ix (kx_seq (K := K) rfl) (pe_lst (pa_cons pe_str (pa_cons pe_str (pa_cons pe_str (pa_cons pe_str (pa_cons pe_str (pa_cons pe_str (pa_cons pe_str (pa_cons pe_str pa_nil))))))))) (pe_op op_mod (pe_ix (kx_seq (K := K) rfl) (pv 1) (pv 2) (fun _ _ => rfl)) pe_int) (fun _ _ => rfl)) pa_nil)))) pss_nil)
 (pss_cons (ps_if (pt_cmpR op_ne (pv 0) pe_str (nomark _)) (pss_one (ps_ret (pe_tup pa_nil))) pss_nil)
 (pss_cons (ps_set (i := 4) sc__law_free_data.nd rfl (Or.inl rfl) (pe_lst pa_nil))
 (pss_cons (ps_for PassesOwn.never rfl (pi_range1 rfl T.range (pa_cons (pv 3) pa_nil)) (pg_name (i := 5) sc__law_free_data.nd rfl (Or.inl rfl)) (pss_cons (ps_set (i := 6) sc__law_free_data.nd rfl (Or.inl rfl) (pe_op op_sub (pe_op op_mod (pe_ix (kx_seq (K := K) rfl) (pv 1) (pe_op op_add (pv 2) (pv 5)) (fun _ _ => rfl)) pe_int) pe_int))
 (pss_cons (ps_if (pt_cmpR op_eq (pe_op op_mod (pe_ix (kx_seq (K := K) rfl) (pv 1) (pe_op op_add (pv 2) (pv 5)) (fun _ _ => rfl)) pe_int) pe_int (nomark _)) (pss_one (ps_set (i := 6) sc__law_free_data.nd rfl (Or.inl rfl) (pe_op op_sub (pe_op op_pow pe_int pe_int) pe_int))) pss_nil)
 (pss_cons (ps_if (pt_cmpR op_eq (pe_op op_mod (pe_ix (kx_seq (K := K) rfl) (pv 1) (pe_op op_add (pv 2) (pv 5)) (fun _ _ => rfl)) pe_int) pe_int (nomark _)) (pss_one (ps_set (i := 6) sc__law_free_data.nd rfl (Or.inl rfl) (pe_un un_neg (pe_op op_pow pe_int pe_int)))) pss_nil)
 (pss_one (ps_expr (pe_bm PySem.F.plainAttrs_list PySem.F.slot_list_append PySem.F.type_list_append mt_append (pv 4) (pa_cons (pv 6) pa_nil))))))))
 (pss_one (ps_ret (pe_callTy (kx_tuple (K := K) rfl) (by rfl) T.tuple (by decide +kernel) (pa_cons (pv 4) pa_nil)))))))))), _, fun ex He Hf => (sms_seq (sms_if (smt_t (f1 := false) (sm_op (f1 := false) (f2 := false) opd_eq (sm_var 0) (sm_str _)))
 (sms_ret (sm_tup (sma_cons (sm_op (f1 := false) (f2 := false) (opd_I0 (g' := fun i j => .int (i + j)) fun _ _ => rfl) (sm_int _) (sm_op (f1 := false) (f2 := false) (opd_I (g' := fun i j => .int (i % j)) fun _ _ => rfl) (sm_ix (f2 := false) (sm_var 1) (sm_var 2)) (sm_int _))) sma_nil)))
 sms_next)
 (sms_seq (sms_if (smt_t (f1 := false) (sm_op (f1 := false) (f2 := false) opd_eq (sm_var 0) (sm_str _)))
 (sms_ret (sm_tup (sma_cons (sm_ix (f2 := false) (SmO.sm (smo_lst (sma_cons (sm_str _) (sma_cons (sm_str _) (sma_cons (sm_str _) (sma_cons (sm_str _) (sma_cons (sm_str _) (sma_cons (sm_str _) (sma_cons (sm_str _) (sma_cons (sm_str _) (sma_cons (sm_str _) (sma_cons (sm_str _) sma_nil)))))))))))) (sm_op (f1 := false) (f2 := false) (opd_I (g' := fun i j => .int (i % j)) fun _ _ => rfl) (sm_ix (f2 := false) (sm_var 1) (sm_var 2)) (sm_int _))) sma_nil)))
 sms_next)
 (sms_seq (sms_if (smt_t (f1 := false) (sm_op (f1 := false) (f2 := false) opd_eq (sm_var 0) (sm_str _)))
 (sms_ret (sm_tup (sma_cons (sm_ix (f2 := false) (SmO.sm (smo_lst (sma_cons (sm_str _) (sma_cons (sm_str _) (sma_cons (sm_str _) (sma_cons (sm_str _) (sma_cons (sm_str _) (sma_cons (sm_str _) (sma_cons (sm_str _) (sma_cons (sm_str _) sma_nil)))))))))) (sm_op (f1 := false) (f2 := false) (opd_I (g' := fun i j => .int (i % j)) fun _ _ => rfl) (sm_ix (f2 := false) (sm_var 1) (sm_var 2)) (sm_int _))) sma_nil)))
 sms_next)
 (sms_seq (sms_if (smt_t (f1 := false) (sm_op (f1 := false) (f2 := false) opd_ne (sm_var 0) (sm_str _)))
 (sms_ret (sm_tup sma_nil))
 sms_next)
 (sms_seq (sms_setO 4 (smo_lst sma_nil))
 (sms_seq (sms_for (smi_rng1 (f1 := false) (sm_var 3)) (smg_name 5)
 (sms_seq (sms_asg (sm_op (f1 := false) (f2 := false) (opd_I0 (g' := fun i j => .int (i - j)) fun _ _ => rfl) (sm_op (f1 := false) (f2 := false) (opd_I (g' := fun i j => .int (i % j)) fun _ _ => rfl) (sm_ix (f2 := false) (sm_var 1) (sm_op (f1 := false) (f2 := false) (opd_I0 (g' := fun i j => .int (i + j)) fun _ _ => rfl) (sm_var 2) (sm_var 5))) (sm_int _)) (sm_int _)) (smg_name 6))
 (sms_seq (sms_if (smt_t (f1 := false) (sm_op (f1 := false) (f2 := false) opd_eq (sm_op (f1 := false) (f2 := false) (opd_I (g' := fun i j => .int (i % j)) fun _ _ => rfl) (sm_ix (f2 := false) (sm_var 1) (sm_op (f1 := false) (f2 := false) (opd_I0 (g' := fun i j => .int (i + j)) fun _ _ => rfl) (sm_var 2) (sm_var 5))) (sm_int _)) (sm_int _)))
 (sms_asg (sm_op (f1 := false) (f2 := false) (opd_I0 (g' := fun i j => .int (i - j)) fun _ _ => rfl) (sm_op (f1 := false) (f2 := false) (opd_I (g' := fun i j => .int (i ^ j.toNat)) fun _ _ => rfl) (sm_int _) (sm_int _)) (sm_int _)) (smg_name 6))
 sms_next)
 (sms_seq (sms_if (smt_t (f1 := false) (sm_op (f1 := false) (f2 := false) opd_eq (sm_op (f1 := false) (f2 := false) (opd_I (g' := fun i j => .int (i % j)) fun _ _ => rfl) (sm_ix (f2 := false) (sm_var 1) (sm_op (f1 := false) (f2 := false) (opd_I0 (g' := fun i j => .int (i + j)) fun _ _ => rfl) (sm_var 2) (sm_var 5))) (sm_int _)) (sm_int _)))
 (sms_asg (sm_un (f1 := false) (g' := fun i => .int (-i)) (fun _ => rfl) (sm_op (f1 := false) (f2 := false) (opd_I (g' := fun i j => .int (i ^ j.toNat)) fun _ _ => rfl) (sm_int _) (sm_int _))) (smg_name 6))
 sms_next)
 (sms_app 4 (sm_var 6))))))
 (sms_frz 4 (sms_ret (sm_tuple (sm_var 4)))))))))), ?_⟩
  rintro rs Φ ⟨op, row, a, n, rfl, hr1, ha, hl, hn, h⟩
  obtain ⟨v, ev, v0, v1⟩ := row_at hr1 ha (by omega)
  simp
  split
  · rename_i c; subst c
    exact ⟨_, ev, v, rfl, sl5' (by decide), h (.num [1 + v % 4096]) (by simp [datOk]; omega)⟩
  split
  · rename_i c; subst c
    obtain ⟨z, ez, mz⟩ := pick (xs := prs) (i := v % 10) (by omega) (by show v % 10 < 10; omega)
    exact ⟨sl5' (by decide), _, ev, v, rfl, _, ez, sl5' (by decide), h (.wrd z) (by simp [datOk, mz])⟩
  split
  · rename_i c; subst c
    obtain ⟨z, ez, mz⟩ := pick (xs := cls) (i := v % 8) (by omega) (by show v % 8 < 8; omega)
    exact ⟨sl5' (by decide), _, ev, v, rfl, _, ez, sl5' (by decide), h (.wrd z) (by simp [datOk, mz])⟩
  by_cases c : op = Str.ofString "gep"
  · subst c
    refine .inl ⟨rfl, fun o => ?_⟩
    refine dFor_n (n := n) (by omega) (fun Ψ h => by simpa using h) (fun k δ => ∃ (ns : List Int) (y5 y6 : Option R), ns.length = k ∧ (∀ x ∈ ns, -2147483648 ≤ x ∧ x ≤ 2147483647) ∧ δ = [some (.d (.str "gep")), some (.d (.list (row.map .int))), some (.d (.int a)), some (.d (.int n)), some (.own o (ns.map .int)), y5, y6]) ⟨[], none, none, rfl, fun _ h => (nomatch h), rfl⟩ (fun k δ hk2 hI => ?_) (fun δ hI => ?_)
    · obtain ⟨ns, y5, y6, hl2, hns, rfl⟩ := hI
      obtain ⟨x, ex, x0, x1⟩ := row_at hr1 (i := a + k) (by omega) (by omega)
      have add : ∀ y : Int, -2147483648 ≤ y → y ≤ 2147483647 → ∃ ns' : List Int, ns'.length = k + 1 ∧ (∀ x ∈ ns', -2147483648 ≤ x ∧ x ≤ 2147483647) ∧ ns.map PyData.int ++ [.int y] = ns'.map PyData.int := fun y y0 y1 =>
        ⟨ns ++ [y], by rw [List.length_append, hl2]; rfl, fun x hx => by
          rcases List.mem_append.mp hx with hx | hx
          · exact hns x hx
          · rw [List.mem_singleton.mp hx]; exact ⟨y0, y1⟩, by simp⟩
      have c31 : CPow 2 31 := ⟨by decide, by decide, by decide⟩
      have hz : ns.length < sizeLine := Nat.lt_of_lt_of_le (show ns.length < 5 by omega) (by decide)
      simp [ex]
      split
      · refine ⟨c31, ?_⟩
        split
        · exact ⟨c31, hz, add _ (by decide) (by decide)⟩
        · exact ⟨hz, add _ (by decide) (by decide)⟩
      · split
        · exact ⟨c31, hz, add _ (by decide) (by decide)⟩
        · exact ⟨hz, add _ (by omega) (by omega)⟩
    · obtain ⟨ns, y5, y6, hl2, hns, rfl⟩ := hI
      simp
      exact h (.num ns) (by simp [datOk, hl2]; exact hns)
  · exact .inr ⟨c, h .non (by simp [datOk, *])⟩

def ops24 : List Str := ["add", "sub", "mul", "and", "or", "xor", "shl", "lshr", "ashr", "udiv", "sdiv", "urem", "srem", "icmp", "select", "trunc", "zext", "sext", "alloca", "gep", "load", "store", "kill", "call"]
structure Ins.ok (span : Int) (i : Ins) : Prop where
  op : i.op ∈ ops24
  kd : kdOk i.op i.kd
  cnt : cntOk i.op i.os.length
  os : ∀ o ∈ i.os, o.ok span
  dt : datOk i.op i.os.length i.dt
  n0 : -1 ≤ i.nm
  n1 : i.nm < span
  p0 : -1 ≤ i.pl
  p1 : i.pl < 1000000000
def vp__law_free_instruction : VSp := fun rs Φ => ∃ (row : List Int) (a span : Int), rs = [.d (.list (row.map .int)), .d (.int a), .d (.int span)] ∧ Row row ∧ 0 ≤ a ∧ a + 20 ≤ row.length ∧ 0 < span ∧ ∀ i : Ins, i.ok span → Φ (.d i.D)
theorem len__law_free_instruction : ∀ rs Φ, vp__law_free_instruction rs Φ → rs.length = 3 := fun rs Φ ⟨_, _, _, e, _⟩ => by rw [e]; rfl
theorem ok_snoc {α : Type} {Q : α → Prop} {xs : List α} {p : α} (h : ∀ x ∈ xs, Q x) (hp : Q p) : ∀ x ∈ xs ++ [p], Q x := fun q hq => by
  rcases List.mem_append.mp hq with hq | hq
  · exact h q hq
  · rw [List.mem_singleton.mp hq]; exact hp
theorem cnt_le {op : Str} {n : Nat} (h : cntOk op n) : n ≤ 5 := by
  unfold cntOk at h
  repeat' split at h
  all_goals omega
theorem G__law_free_instruction (T : Txt K mg) : FnOk P w K mg base CX0 2 T.f__law_free_instruction T.fd__law_free_instruction ["row", "at", "span"] (toSp K 3 vp__law_free_instruction) := by
  refine fn_ok T.F__law_free_instruction sc__law_free_instruction fun cdv A outer s H E hr => ⟨_, (pss_cons (ps_set (i := 3) sc__law_free_instruction.nd rfl (Or.inl rfl) (pe_lst (pa_cons pe_str (pa_cons pe_str (pa_cons pe_str (pa_cons pe_str (pa_cons pe_str (pa_cons pe_str (pa_cons pe_str (pa_cons pe_str (pa_cons pe_str (pa_cons pe_str (pa_cons pe_str (pa_cons pe_str (pa_cons pe_str (pa_cons pe_str pa_nil))))))))))))))))
 (pss_cons (ps_set (i := 3) sc__law_free_instruction.nd rfl (Or.inl rfl) (pe_op op_cat (pv 3) (pe_lst (pa_cons pe_str (pa_cons pe_str (pa_cons pe_str (pa_cons pe_str (pa_cons pe_str (pa_cons pe_str (pa_cons pe_str (pa_cons pe_str (pa_cons pe_str (pa_cons pe_str pa_nil)))))))))))))
 (pss_cons (ps_set (i := 4) sc__law_free_instruction.nd rfl (Or.inl rfl) (pe_ix (kx_seq (K := K) rfl) (pv 3) (pe_op op_mod (pe_ix (kx_seq (K := K) rfl) (pv 0) (pv 1) (fun _ _ => rfl)) pe_int) (fun _ _ => rfl)))
 (pss_cons (ps_set (i := 5) sc__law_free_instruction.nd rfl (Or.inl rfl) (pe_call (G__law_free_count T) hr (by rfl) T.g__law_free_count T.F__law_free_count.kp T.b__law_free_count .nil pass0 (pa_cons (pv 4) (pa_cons (pe_ix (kx_seq (K := K) rfl) (pv 0) (pe_op op_add (pv 1) pe_int) (fun _ _ => rfl)) pa_nil))))
 (pss_cons (ps_set (i := 6) sc__law_free_instruction.nd rfl (Or.inl rfl) (pe_lst pa_nil))
 (pss_cons (ps_for PassesOwn.never rfl (pi_range1 rfl T.range (pa_cons (pv 5) pa_nil)) (pg_name (i := 7) sc__law_free_instruction.nd rfl (Or.inl rfl)) (pss_one (ps_expr (pe_bm PySem.F.plainAttrs_list PySem.F.slot_list_append PySem.F.type_list_append mt_append (pv 6) (pa_cons (pe_call (G__law_free_operand T) hr (by rfl) T.g__law_free_operand T.F__law_free_operand.kp T.b__law_free_operand .nil pass0 (pa_cons (pe_ix (kx_seq (K := K) rfl) (pv 0) (pe_op op_add (pe_op op_add (pv 1) pe_int) (pe_op op_mul pe_int (pv 7))) (fun _ _ => rfl)) (pa_cons (pe_ix (kx_seq (K := K) rfl) (pv 0) (pe_op op_add (pe_op op_add (pv 1) pe_int) (pe_op op_mul pe_int (pv 7))) (fun _ _ => rfl)) (pa_cons (pv 2) pa_nil)))) pa_nil)))))
 (pss_cons (ps_set (i := 8) sc__law_free_instruction.nd rfl (Or.inl rfl) (pe_call (G__law_free_data T) hr (by rfl) T.g__law_free_data T.F__law_free_data.kp T.b__law_free_data .nil pass0 (pa_cons (pv 4) (pa_cons (pv 0) (pa_cons (pe_op op_add (pv 1) pe_int) (pa_cons (pv 5) pa_nil))))))
 (pss_cons (ps_set (i := 9) sc__law_free_instruction.nd rfl (Or.inl rfl) (pe_op op_sub (pe_op op_mod (pe_ix (kx_seq (K := K) rfl) (pv 0) (pe_op op_add (pv 1) pe_int) (fun _ _ => rfl)) (pe_op op_add (pv 2) pe_int)) pe_int))
 (pss_cons (ps_set (i := 10) sc__law_free_instruction.nd rfl (Or.inl rfl) (pe_op op_sub (pe_op op_mod (pe_ix (kx_seq (K := K) rfl) (pv 0) (pe_op op_add (pv 1) pe_int) (fun _ _ => rfl)) pe_int) pe_int))
 (pss_cons (ps_if (pt_cmpR op_eq (pe_op op_mod (pe_ix (kx_seq (K := K) rfl) (pv 0) (pe_op op_add (pv 1) pe_int) (fun _ _ => rfl)) pe_int) pe_int (nomark _)) (pss_one (ps_set (i := 10) sc__law_free_instruction.nd rfl (Or.inl rfl) (pe_op op_sub (pe_op op_sub (pe_op op_pow pe_int pe_int) pe_int) (pe_op op_mod (pe_ix (kx_seq (K := K) rfl) (pv 0) (pe_op op_add (pv 1) pe_int) (fun _ _ => rfl)) pe_int)))) pss_nil)
 (pss_one (ps_ret (pe_tup (pa_cons (pv 9) (pa_cons (pv 4) (pa_cons (pe_call (G__law_free_kind T) hr (by rfl) T.g__law_free_kind T.F__law_free_kind.kp T.b__law_free_kind .nil pass0 (pa_cons (pv 4) (pa_cons (pe_ix (kx_seq (K := K) rfl) (pv 0) (pe_op op_add (pv 1) pe_int) (fun _ _ => rfl)) pa_nil))) (pa_cons (pe_callTy (kx_tuple (K := K) rfl) (by rfl) T.tuple (by decide +kernel) (pa_cons (pv 6) pa_nil)) (pa_cons (pv 8) (pa_cons (pv 10) pa_nil))))))))))))))))))), _, fun ex He Hf => (sms_seq (sms_asg (SmO.sm (smo_lst (sma_cons (sm_str _) (sma_cons (sm_str _) (sma_cons (sm_str _) (sma_cons (sm_str _) (sma_cons (sm_str _) (sma_cons (sm_str _) (sma_cons (sm_str _) (sma_cons (sm_str _) (sma_cons (sm_str _) (sma_cons (sm_str _) (sma_cons (sm_str _) (sma_cons (sm_str _) (sma_cons (sm_str _) (sma_cons (sm_str _) sma_nil)))))))))))))))) (smg_name 3))
 (sms_seq (sms_asg (SmO.sm (smo_cat (sm_var 3) (SmO.sm (smo_lst (sma_cons (sm_str _) (sma_cons (sm_str _) (sma_cons (sm_str _) (sma_cons (sm_str _) (sma_cons (sm_str _) (sma_cons (sm_str _) (sma_cons (sm_str _) (sma_cons (sm_str _) (sma_cons (sm_str _) (sma_cons (sm_str _) sma_nil)))))))))))))) (smg_name 3))
 (sms_seq (sms_asg (sm_ix (f2 := false) (sm_var 3) (sm_op (f1 := false) (f2 := false) (opd_I (g' := fun i j => .int (i % j)) fun _ _ => rfl) (sm_ix (f2 := false) (sm_var 0) (sm_var 1)) (sm_int _))) (smg_name 4))
 (sms_seq (sms_asg (sm_call len__law_free_count (smq_cons (sm_var 4) (smq_cons (sm_ix (f2 := false) (sm_var 0) (sm_op (f1 := false) (f2 := false) (opd_I0 (g' := fun i j => .int (i + j)) fun _ _ => rfl) (sm_var 1) (sm_int _))) smq_nil))) (smg_name 5))
 (sms_seq (sms_setO 6 (smo_lst sma_nil))
 (sms_seq (sms_for (smi_rng1 (f1 := false) (sm_var 5)) (smg_name 7)
 (sms_app 6 (sm_call len__law_free_operand (smq_cons (sm_ix (f2 := false) (sm_var 0) (sm_op (f1 := false) (f2 := false) (opd_I0 (g' := fun i j => .int (i + j)) fun _ _ => rfl) (sm_op (f1 := false) (f2 := false) (opd_I0 (g' := fun i j => .int (i + j)) fun _ _ => rfl) (sm_var 1) (sm_int _)) (sm_op (f1 := false) (f2 := false) (opd_I (g' := fun i j => .int (i * j)) fun _ _ => rfl) (sm_int _) (sm_var 7)))) (smq_cons (sm_ix (f2 := false) (sm_var 0) (sm_op (f1 := false) (f2 := false) (opd_I0 (g' := fun i j => .int (i + j)) fun _ _ => rfl) (sm_op (f1 := false) (f2 := false) (opd_I0 (g' := fun i j => .int (i + j)) fun _ _ => rfl) (sm_var 1) (sm_int _)) (sm_op (f1 := false) (f2 := false) (opd_I (g' := fun i j => .int (i * j)) fun _ _ => rfl) (sm_int _) (sm_var 7)))) (smq_cons (sm_var 2) smq_nil))))))
 (sms_seq (sms_asg (sm_call len__law_free_data (smq_cons (sm_var 4) (smq_cons (sm_var 0) (smq_cons (sm_op (f1 := false) (f2 := false) (opd_I0 (g' := fun i j => .int (i + j)) fun _ _ => rfl) (sm_var 1) (sm_int _)) (smq_cons (sm_var 5) smq_nil))))) (smg_name 8))
 (sms_seq (sms_asg (sm_op (f1 := false) (f2 := false) (opd_I0 (g' := fun i j => .int (i - j)) fun _ _ => rfl) (sm_op (f1 := false) (f2 := false) (opd_I (g' := fun i j => .int (i % j)) fun _ _ => rfl) (sm_ix (f2 := false) (sm_var 0) (sm_op (f1 := false) (f2 := false) (opd_I0 (g' := fun i j => .int (i + j)) fun _ _ => rfl) (sm_var 1) (sm_int _))) (sm_op (f1 := false) (f2 := false) (opd_I0 (g' := fun i j => .int (i + j)) fun _ _ => rfl) (sm_var 2) (sm_int _))) (sm_int _)) (smg_name 9))
 (sms_seq (sms_asg (sm_op (f1 := false) (f2 := false) (opd_I0 (g' := fun i j => .int (i - j)) fun _ _ => rfl) (sm_op (f1 := false) (f2 := false) (opd_I (g' := fun i j => .int (i % j)) fun _ _ => rfl) (sm_ix (f2 := false) (sm_var 0) (sm_op (f1 := false) (f2 := false) (opd_I0 (g' := fun i j => .int (i + j)) fun _ _ => rfl) (sm_var 1) (sm_int _))) (sm_int _)) (sm_int _)) (smg_name 10))
 (sms_seq (sms_if (smt_t (f1 := false) (sm_op (f1 := false) (f2 := false) opd_eq (sm_op (f1 := false) (f2 := false) (opd_I (g' := fun i j => .int (i % j)) fun _ _ => rfl) (sm_ix (f2 := false) (sm_var 0) (sm_op (f1 := false) (f2 := false) (opd_I0 (g' := fun i j => .int (i + j)) fun _ _ => rfl) (sm_var 1) (sm_int _))) (sm_int _)) (sm_int _)))
 (sms_asg (sm_op (f1 := false) (f2 := false) (opd_I0 (g' := fun i j => .int (i - j)) fun _ _ => rfl) (sm_op (f1 := false) (f2 := false) (opd_I0 (g' := fun i j => .int (i - j)) fun _ _ => rfl) (sm_op (f1 := false) (f2 := false) (opd_I (g' := fun i j => .int (i ^ j.toNat)) fun _ _ => rfl) (sm_int _) (sm_int _)) (sm_int _)) (sm_op (f1 := false) (f2 := false) (opd_I (g' := fun i j => .int (i % j)) fun _ _ => rfl) (sm_ix (f2 := false) (sm_var 0) (sm_op (f1 := false) (f2 := false) (opd_I0 (g' := fun i j => .int (i + j)) fun _ _ => rfl) (sm_var 1) (sm_int _))) (sm_int _))) (smg_name 10))
 sms_next)
 (sms_frz 6 (sms_ret (sm_tup (sma_cons (sm_var 9) (sma_cons (sm_var 4) (sma_cons (sm_call len__law_free_kind (smq_cons (sm_var 4) (smq_cons (sm_ix (f2 := false) (sm_var 0) (sm_op (f1 := false) (f2 := false) (opd_I0 (g' := fun i j => .int (i + j)) fun _ _ => rfl) (sm_var 1) (sm_int _))) smq_nil))) (sma_cons (sm_tuple (sm_var 6)) (sma_cons (sm_var 8) (sma_cons (sm_var 10) sma_nil))))))))))))))))))), ?_⟩
  rintro rs Φ ⟨row, a, span, rfl, hr1, ha, hl, hs, h⟩
  obtain ⟨v0, e0, z0, u0⟩ := row_at hr1 (i := a) (by omega) (by omega)
  obtain ⟨v1, e1, z1, u1⟩ := row_at hr1 (i := a + 1) (by omega) (by omega)
  obtain ⟨v17, e17, z17, u17⟩ := row_at hr1 (i := a + 17) (by omega) (by omega)
  obtain ⟨v18, e18, z18, u18⟩ := row_at hr1 (i := a + 18) (by omega) (by omega)
  obtain ⟨v19, e19, z19, u19⟩ := row_at hr1 (i := a + 19) (by omega) (by omega)
  obtain ⟨op, eo, mo⟩ := pick (xs := ops24) (i := v0 % 24) (by omega) (by show v0 % 24 < 24; omega)
  simp [e0, e1, e17, e18, e19]
  refine ⟨sl5' (by decide), sl5' (by decide), sl5' (by decide), _, eo, op, v1, rfl, z1, fun cnt hcnt o => ?_⟩
  have hc5 := cnt_le hcnt
  obtain ⟨I, hI⟩ : ∃ I : Nat → Dl → Prop, ∀ k δ, I k δ ↔ ∃ (os : List Opd) (y3 y7 : Option R), os.length = k ∧ (∀ o ∈ os, o.ok span) ∧ δ = [some (.d (.list (row.map .int))), some (.d (.int a)), some (.d (.int span)), y3, some (.d (.str op)), some (.d (.int cnt)), some (.own o (os.map Opd.D)), y7, none, none, none] := ⟨_, fun _ _ => Iff.rfl⟩
  refine dFor_n (n := cnt) (by omega) (fun Ψ h => by simpa using h) I ((hI _ _).mpr ⟨[], _, none, rfl, fun _ h => (nomatch h), rfl⟩) (fun k δ hk hJ => ?_) (fun δ hJ => ?_)
  · obtain ⟨os, y3, y7, hl2, hos, rfl⟩ := (hI _ _).mp hJ
    obtain ⟨x, ex, x0, x1⟩ := row_at hr1 (i := a + 2 + 2 * k) (by omega) (by omega)
    obtain ⟨y, ey, y0, y1⟩ := row_at hr1 (i := a + 3 + 2 * k) (by omega) (by omega)
    simp [ex, ey]
    refine ⟨.inl ⟨by omega, by omega⟩, x, y, span, rfl, x0, y0, hs, fun p hp => ⟨Nat.lt_of_lt_of_le (show os.length < 5 by omega) (by decide), (hI _ _).mpr ⟨os ++ [p], y3, some (.d (.int k)), by rw [List.length_append, hl2]; rfl, ok_snoc hos hp, by simp⟩⟩⟩
  · obtain ⟨os, y3, y7, hl2, hos, rfl⟩ := (hI _ _).mp hJ
    simp [e17, e18, e19]
    have sp : 0 < span + 1 := by omega
    have q0 := Int.emod_nonneg v17 (show span + 1 ≠ 0 by omega)
    have q1 := Int.emod_lt_of_pos v17 sp
    have fin : ∀ (d : Dat) (kd : Str) (pl : Int), datOk op cnt d → kdOk op kd → -1 ≤ pl → pl < 1000000000 → Φ (.d (.tuple [.int (v17 % (span + 1) - 1), .str op, .str kd, .tuple (os.map Opd.D), .tuple d.D, .int pl])) := fun d kd pl hd hk p0 p1 =>
      h ⟨v17 % (span + 1) - 1, op, kd, os, d, pl⟩ ⟨mo, hk, by rw [hl2]; exact hcnt, hos, by rw [hl2]; exact hd, by show -1 ≤ v17 % (span + 1) - 1; omega, by show v17 % (span + 1) - 1 < span; omega, p0, p1⟩
    refine ⟨op, row, a + 12, cnt, rfl, hr1, by omega, by omega, hc5, fun d hd => ⟨sp, ?_⟩⟩
    split
    · exact ⟨⟨by decide, by decide, by decide⟩, op, v19, rfl, z19, fun kd hkd => ⟨sl5' (by decide), fin d kd _ hd hkd (by omega) (by omega)⟩⟩
    · exact ⟨op, v19, rfl, z19, fun kd hkd => ⟨sl5' (by decide), fin d kd _ hd hkd (by omega) (by omega)⟩⟩

def Edg.ok (span labels : Int) (e : Edg) : Prop := (0 ≤ e.lb ∧ e.lb < labels) ∧ (∀ o ∈ e.as, o.ok span) ∧ e.as.length ≤ 3
def vp__law_free_edge : VSp := fun rs Φ => ∃ (row : List Int) (a span labels : Int), rs = [.d (.list (row.map .int)), .d (.int a), .d (.int span), .d (.int labels)] ∧ Row row ∧ 0 ≤ a ∧ a + 8 ≤ row.length ∧ 0 < span ∧ 0 < labels ∧ ∀ e : Edg, e.ok span labels → Φ (.d e.D)
theorem len__law_free_edge : ∀ rs Φ, vp__law_free_edge rs Φ → rs.length = 4 := fun rs Φ ⟨_, _, _, _, e, _⟩ => by rw [e]; rfl
theorem G__law_free_edge (T : Txt K mg) : FnOk P w K mg base CX0 2 T.f__law_free_edge T.fd__law_free_edge ["row", "at", "span", "labels"] (toSp K 4 vp__law_free_edge) := by
  refine fn_ok T.F__law_free_edge sc__law_free_edge fun cdv A outer s H E hr => ⟨_, (pss_cons (ps_set (i := 4) sc__law_free_edge.nd rfl (Or.inl rfl) (pe_lst pa_nil))
 (pss_cons (ps_for PassesOwn.never rfl (pi_range1 rfl T.range (pa_cons (pe_op op_mod (pe_ix (kx_seq (K := K) rfl) (pv 0) (pv 1) (fun _ _ => rfl)) pe_int) pa_nil)) (pg_name (i := 5) sc__law_free_edge.nd rfl (Or.inl rfl)) (pss_one (ps_expr (pe_bm PySem.F.plainAttrs_list PySem.F.slot_list_append PySem.F.type_list_append mt_append (pv 4) (pa_cons (pe_call (G__law_free_operand T) hr (by rfl) T.g__law_free_operand T.F__law_free_operand.kp T.b__law_free_operand .nil pass0 (pa_cons (pe_ix (kx_seq (K := K) rfl) (pv 0) (pe_op op_add (pe_op op_add (pv 1) pe_int) (pe_op op_mul pe_int (pv 5))) (fun _ _ => rfl)) (pa_cons (pe_ix (kx_seq (K := K) rfl) (pv 0) (pe_op op_add (pe_op op_add (pv 1) pe_int) (pe_op op_mul pe_int (pv 5))) (fun _ _ => rfl)) (pa_cons (pv 2) pa_nil)))) pa_nil)))))
 (pss_one (ps_ret (pe_tup (pa_cons (pe_op op_mod (pe_ix (kx_seq (K := K) rfl) (pv 0) (pe_op op_add (pv 1) pe_int) (fun _ _ => rfl)) (pv 3)) (pa_cons (pe_callTy (kx_tuple (K := K) rfl) (by rfl) T.tuple (by decide +kernel) (pa_cons (pv 4) pa_nil)) pa_nil))))))), _, fun ex He Hf => (sms_seq (sms_setO 4 (smo_lst sma_nil))
 (sms_seq (sms_for (smi_rng1 (f1 := false) (sm_op (f1 := false) (f2 := false) (opd_I (g' := fun i j => .int (i % j)) fun _ _ => rfl) (sm_ix (f2 := false) (sm_var 0) (sm_var 1)) (sm_int _))) (smg_name 5)
 (sms_app 4 (sm_call len__law_free_operand (smq_cons (sm_ix (f2 := false) (sm_var 0) (sm_op (f1 := false) (f2 := false) (opd_I0 (g' := fun i j => .int (i + j)) fun _ _ => rfl) (sm_op (f1 := false) (f2 := false) (opd_I0 (g' := fun i j => .int (i + j)) fun _ _ => rfl) (sm_var 1) (sm_int _)) (sm_op (f1 := false) (f2 := false) (opd_I (g' := fun i j => .int (i * j)) fun _ _ => rfl) (sm_int _) (sm_var 5)))) (smq_cons (sm_ix (f2 := false) (sm_var 0) (sm_op (f1 := false) (f2 := false) (opd_I0 (g' := fun i j => .int (i + j)) fun _ _ => rfl) (sm_op (f1 := false) (f2 := false) (opd_I0 (g' := fun i j => .int (i + j)) fun _ _ => rfl) (sm_var 1) (sm_int _)) (sm_op (f1 := false) (f2 := false) (opd_I (g' := fun i j => .int (i * j)) fun _ _ => rfl) (sm_int _) (sm_var 5)))) (smq_cons (sm_var 2) smq_nil))))))
 (sms_frz 4 (sms_ret (sm_tup (sma_cons (sm_op (f1 := false) (f2 := false) (opd_I (g' := fun i j => .int (i % j)) fun _ _ => rfl) (sm_ix (f2 := false) (sm_var 0) (sm_op (f1 := false) (f2 := false) (opd_I0 (g' := fun i j => .int (i + j)) fun _ _ => rfl) (sm_var 1) (sm_int _))) (sm_var 3)) (sma_cons (sm_tuple (sm_var 4)) sma_nil))))))), ?_⟩
  rintro rs Φ ⟨row, a, span, labels, rfl, hr1, ha, hl, hs, hlb, h⟩
  obtain ⟨v0, e0, z0, u0⟩ := row_at hr1 (i := a) (by omega) (by omega)
  obtain ⟨v7, e7, z7, u7⟩ := row_at hr1 (i := a + 7) (by omega) (by omega)
  simp
  intro o
  obtain ⟨n, hn⟩ : ∃ n : Nat, v0 % 4 = n := ⟨(v0 % 4).toNat, by omega⟩
  have hn3 : n ≤ 3 := by omega
  obtain ⟨I, hI⟩ : ∃ I : Nat → Dl → Prop, ∀ k δ, I k δ ↔ ∃ (os : List Opd) (y5 : Option R), os.length = k ∧ (∀ o ∈ os, o.ok span) ∧ δ = [some (.d (.list (row.map .int))), some (.d (.int a)), some (.d (.int span)), some (.d (.int labels)), some (.own o (os.map Opd.D)), y5] := ⟨_, fun _ _ => Iff.rfl⟩
  refine dFor_n (n := n) (by omega) (fun Ψ h => by simpa [e0, hn] using h) I ((hI _ _).mpr ⟨[], none, rfl, fun _ h => (nomatch h), rfl⟩) (fun k δ hk hJ => ?_) (fun δ hJ => ?_)
  · obtain ⟨os, y5, hl2, hos, rfl⟩ := (hI _ _).mp hJ
    obtain ⟨x, ex, x0, x1⟩ := row_at hr1 (i := a + 1 + 2 * k) (by omega) (by omega)
    obtain ⟨y, ey, y0, y1⟩ := row_at hr1 (i := a + 2 + 2 * k) (by omega) (by omega)
    simp [ex, ey]
    refine ⟨.inl ⟨by omega, by omega⟩, x, y, span, rfl, x0, y0, hs, fun p hp => ⟨Nat.lt_of_lt_of_le (show os.length < 5 by omega) (by decide), (hI _ _).mpr ⟨os ++ [p], some (.d (.int k)), by rw [List.length_append, hl2]; rfl, ok_snoc hos hp, by simp⟩⟩⟩
  · obtain ⟨os, y5, hl2, hos, rfl⟩ := (hI _ _).mp hJ
    simp [e7]
    exact ⟨hlb, sl5' (by decide), h ⟨v7 % labels, os⟩ ⟨⟨Int.emod_nonneg _ (by omega), Int.emod_lt_of_pos _ hlb⟩, hos, by show os.length ≤ 3; omega⟩⟩
def End.ok (span labels : Int) : End → Prop
  | .br e => e.ok span labels
  | .con o e f => o.ok span ∧ e.ok span labels ∧ f.ok span labels
  | .sw o cs d => o.ok span ∧ (∀ c ∈ cs, (0 ≤ c.1 ∧ c.1 < 300) ∧ c.2.ok span labels) ∧ cs.length ≤ 4 ∧ d.ok span labels
  | .retN => True
  | .ret o => o.ok span
  | .stop n => 0 ≤ n ∧ n < 1000000000
def vp__law_free_end : VSp := fun rs Φ => ∃ (row : List Int) (a span labels : Int), rs = [.d (.list (row.map .int)), .d (.int a), .d (.int span), .d (.int labels)] ∧ Row row ∧ 0 ≤ a ∧ a + 50 ≤ row.length ∧ 0 < span ∧ 0 < labels ∧ ∀ e : End, e.ok span labels → Φ (.d e.D)
theorem len__law_free_end : ∀ rs Φ, vp__law_free_end rs Φ → rs.length = 4 := fun rs Φ ⟨_, _, _, _, e, _⟩ => by rw [e]; rfl

theorem G__law_free_end (T : Txt K mg) : FnOk P w K mg base CX0 3 T.f__law_free_end T.fd__law_free_end ["row", "at", "span", "labels"] (toSp K 4 vp__law_free_end) := by
  refine fn_ok T.F__law_free_end sc__law_free_end fun cdv A outer s H E hr => ⟨_, (pss_cons (ps_set (i := 4) sc__law_free_end.nd rfl (Or.inl rfl) (pe_ix (kx_seq (K := K) rfl) (pe_lst (pa_cons pe_str (pa_cons pe_str (pa_cons pe_str (pa_cons pe_str (pa_cons pe_str pa_nil)))))) (pe_op op_mod (pe_ix (kx_seq (K := K) rfl) (pv 0) (pv 1) (fun _ _ => rfl)) pe_int) (fun _ _ => rfl)))
 (pss_cons (ps_set (i := 5) sc__law_free_end.nd rfl (Or.inl rfl) (pe_call (G__law_free_operand T) (hr.mono (by decide)) (by rfl) T.g__law_free_operand T.F__law_free_operand.kp T.b__law_free_operand .nil pass0 (pa_cons (pe_ix (kx_seq (K := K) rfl) (pv 0) (pe_op op_add (pv 1) pe_int) (fun _ _ => rfl)) (pa_cons (pe_ix (kx_seq (K := K) rfl) (pv 0) (pe_op op_add (pv 1) pe_int) (fun _ _ => rfl)) (pa_cons (pv 2) pa_nil)))))
 (pss_cons (ps_setLc (i := 6) (own := [("k", 8)]) (g := gName 8) (tt := tYes) rfl sc__law_free_end.nd rfl rfl (sw_true rfl rfl rfl (by decide +kernel)) (pi_range1 rfl T.range (pa_cons pe_int pa_nil)) (blkOk_by (N := ["row", "at", "span", "labels", "word", "operand", "found", "cases", "k"]) (sc := defScope s_law_free_end) (by decide +kernel)) (fun _ _ _ _ _ => pg_name (i := 8) sc__law_free_end.nd rfl (Or.inl rfl)) (fun _ _ _ _ _ => pts_nil) (fun _ _ _ _ _ => (pe_call (G__law_free_edge T) hr (by rfl) T.g__law_free_edge T.F__law_free_edge.kp T.b__law_free_edge .nil pass0 (pa_cons (pv 0) (pa_cons (pe_op op_add (pe_op op_add (pv 1) pe_int) (pe_op op_mul pe_int (pv 8))) (pa_cons (pv 2) (pa_cons (pv 3) pa_nil)))))))
 (pss_cons (ps_if (pt_cmpR op_eq (pv 4) pe_str (nomark _)) (pss_one (ps_ret (pe_tup (pa_cons pe_str (pa_cons (pe_ix (kx_seq (K := K) rfl) (pv 6) pe_int (fun _ _ => rfl)) pa_nil))))) pss_nil)
 (pss_cons (ps_if (pt_cmpR op_eq (pv 4) pe_str (nomark _)) (pss_one (ps_ret (pe_tup (pa_cons pe_str (pa_cons (pv 5) (pa_cons (pe_ix (kx_seq (K := K) rfl) (pv 6) pe_int (fun _ _ => rfl)) (pa_cons (pe_ix (kx_seq (K := K) rfl) (pv 6) pe_int (fun _ _ => rfl)) pa_nil))))))) pss_nil)
 (pss_cons (ps_if (pt_cmpR op_eq (pv 4) pe_str (nomark _)) (pss_cons (ps_set (i := 7) sc__law_free_end.nd rfl (Or.inl rfl) (pe_lst pa_nil))
 (pss_cons (ps_for PassesOwn.never rfl (pi_range1 rfl T.range (pa_cons (pe_op op_mod (pe_ix (kx_seq (K := K) rfl) (pv 0) (pe_op op_add (pv 1) pe_int) (fun _ _ => rfl)) pe_int) pa_nil)) (pg_name (i := 8) sc__law_free_end.nd rfl (Or.inl rfl)) (pss_one (ps_expr (pe_bm PySem.F.plainAttrs_list PySem.F.slot_list_append PySem.F.type_list_append mt_append (pv 7) (pa_cons (pe_tup (pa_cons (pe_op op_mod (pe_ix (kx_seq (K := K) rfl) (pv 0) (pe_op op_add (pe_op op_add (pv 1) pe_int) (pv 8)) (fun _ _ => rfl)) pe_int) (pa_cons (pe_ix (kx_seq (K := K) rfl) (pv 6) (pv 8) (fun _ _ => rfl)) pa_nil))) pa_nil)))))
 (pss_one (ps_ret (pe_tup (pa_cons pe_str (pa_cons (pv 5) (pa_cons (pe_callTy (kx_tuple (K := K) rfl) (by rfl) T.tuple (by decide +kernel) (pa_cons (pv 7) pa_nil)) (pa_cons (pe_ix (kx_seq (K := K) rfl) (pv 6) pe_int (fun _ _ => rfl)) pa_nil))))))))) pss_nil)
 (pss_cons (ps_if (pt_cmpR op_eq (pv 4) pe_str (nomark _)) (pss_cons (ps_if (pt_cmpR op_eq (pe_op op_mod (pe_ix (kx_seq (K := K) rfl) (pv 0) (pe_op op_add (pv 1) pe_int) (fun _ _ => rfl)) pe_int) pe_int (nomark _)) (pss_one (ps_ret (pe_tup (pa_cons pe_str (pa_cons pe_non pa_nil))))) pss_nil)
 (pss_one (ps_ret (pe_tup (pa_cons pe_str (pa_cons (pv 5) pa_nil)))))) pss_nil)
 (pss_one (ps_ret (pe_tup (pa_cons pe_str (pa_cons (pe_op op_mod (pe_ix (kx_seq (K := K) rfl) (pv 0) (pe_op op_add (pv 1) pe_int) (fun _ _ => rfl)) (pe_op op_pow pe_int pe_int)) pa_nil)))))))))))), _, fun ex He Hf => (sms_seq (sms_asg (sm_ix (f2 := false) (SmO.sm (smo_lst (sma_cons (sm_str _) (sma_cons (sm_str _) (sma_cons (sm_str _) (sma_cons (sm_str _) (sma_cons (sm_str _) sma_nil))))))) (sm_op (f1 := false) (f2 := false) (opd_I (g' := fun i j => .int (i % j)) fun _ _ => rfl) (sm_ix (f2 := false) (sm_var 0) (sm_var 1)) (sm_int _))) (smg_name 4))
 (sms_seq (sms_asg (sm_call len__law_free_operand (smq_cons (sm_ix (f2 := false) (sm_var 0) (sm_op (f1 := false) (f2 := false) (opd_I0 (g' := fun i j => .int (i + j)) fun _ _ => rfl) (sm_var 1) (sm_int _))) (smq_cons (sm_ix (f2 := false) (sm_var 0) (sm_op (f1 := false) (f2 := false) (opd_I0 (g' := fun i j => .int (i + j)) fun _ _ => rfl) (sm_var 1) (sm_int _))) (smq_cons (sm_var 2) smq_nil)))) (smg_name 5))
 (sms_seq (sms_asg (SmO.sm (smo_lc (i := 8) (smi_rng1 (f1 := false) (sm_int _)) smt_yes (sm_call len__law_free_edge (smq_cons (sm_var 0) (smq_cons (sm_op (f1 := false) (f2 := false) (opd_I0 (g' := fun i j => .int (i + j)) fun _ _ => rfl) (sm_op (f1 := false) (f2 := false) (opd_I0 (g' := fun i j => .int (i + j)) fun _ _ => rfl) (sm_var 1) (sm_int _)) (sm_op (f1 := false) (f2 := false) (opd_I (g' := fun i j => .int (i * j)) fun _ _ => rfl) (sm_int _) (sm_var 8))) (smq_cons (sm_var 2) (smq_cons (sm_var 3) smq_nil))))))) (smg_name 6))
 (sms_seq (sms_if (smt_t (f1 := false) (sm_op (f1 := false) (f2 := false) opd_eq (sm_var 4) (sm_str _)))
 (sms_ret (sm_tup (sma_cons (sm_str _) (sma_cons (sm_ix (f2 := false) (sm_var 6) (sm_int _)) sma_nil))))
 sms_next)
 (sms_seq (sms_if (smt_t (f1 := false) (sm_op (f1 := false) (f2 := false) opd_eq (sm_var 4) (sm_str _)))
 (sms_ret (sm_tup (sma_cons (sm_str _) (sma_cons (sm_var 5) (sma_cons (sm_ix (f2 := false) (sm_var 6) (sm_int _)) (sma_cons (sm_ix (f2 := false) (sm_var 6) (sm_int _)) sma_nil))))))
 sms_next)
 (sms_seq (sms_if (smt_t (f1 := false) (sm_op (f1 := false) (f2 := false) opd_eq (sm_var 4) (sm_str _)))
 (sms_seq (sms_setO 7 (smo_lst sma_nil))
 (sms_seq (sms_for (smi_rng1 (f1 := false) (sm_op (f1 := false) (f2 := false) (opd_I (g' := fun i j => .int (i % j)) fun _ _ => rfl) (sm_ix (f2 := false) (sm_var 0) (sm_op (f1 := false) (f2 := false) (opd_I0 (g' := fun i j => .int (i + j)) fun _ _ => rfl) (sm_var 1) (sm_int _))) (sm_int _))) (smg_name 8)
 (sms_app 7 (sm_tup (sma_cons (sm_op (f1 := false) (f2 := false) (opd_I (g' := fun i j => .int (i % j)) fun _ _ => rfl) (sm_ix (f2 := false) (sm_var 0) (sm_op (f1 := false) (f2 := false) (opd_I0 (g' := fun i j => .int (i + j)) fun _ _ => rfl) (sm_op (f1 := false) (f2 := false) (opd_I0 (g' := fun i j => .int (i + j)) fun _ _ => rfl) (sm_var 1) (sm_int _)) (sm_var 8))) (sm_int _)) (sma_cons (sm_ix (f2 := false) (sm_var 6) (sm_var 8)) sma_nil)))))
 (sms_frz 7 (sms_ret (sm_tup (sma_cons (sm_str _) (sma_cons (sm_var 5) (sma_cons (sm_tuple (sm_var 7)) (sma_cons (sm_ix (f2 := false) (sm_var 6) (sm_int _)) sma_nil)))))))))
 sms_next)
 (sms_seq (sms_if (smt_t (f1 := false) (sm_op (f1 := false) (f2 := false) opd_eq (sm_var 4) (sm_str _)))
 (sms_seq (sms_if (smt_t (f1 := false) (sm_op (f1 := false) (f2 := false) opd_eq (sm_op (f1 := false) (f2 := false) (opd_I (g' := fun i j => .int (i % j)) fun _ _ => rfl) (sm_ix (f2 := false) (sm_var 0) (sm_op (f1 := false) (f2 := false) (opd_I0 (g' := fun i j => .int (i + j)) fun _ _ => rfl) (sm_var 1) (sm_int _))) (sm_int _)) (sm_int _)))
 (sms_ret (sm_tup (sma_cons (sm_str _) (sma_cons sm_non sma_nil))))
 sms_next)
 (sms_ret (sm_tup (sma_cons (sm_str _) (sma_cons (sm_var 5) sma_nil)))))
 sms_next)
 (sms_ret (sm_tup (sma_cons (sm_str _) (sma_cons (sm_op (f1 := false) (f2 := false) (opd_I (g' := fun i j => .int (i % j)) fun _ _ => rfl) (sm_ix (f2 := false) (sm_var 0) (sm_op (f1 := false) (f2 := false) (opd_I0 (g' := fun i j => .int (i + j)) fun _ _ => rfl) (sm_var 1) (sm_int _))) (sm_op (f1 := false) (f2 := false) (opd_I (g' := fun i j => .int (i ^ j.toNat)) fun _ _ => rfl) (sm_int _) (sm_int _))) sma_nil))))))))))), ?_⟩
  rintro rs Φ ⟨row, a, span, labels, rfl, hr1, ha, hl, hs, hlb, h⟩
  obtain ⟨v0, e0, z0, u0⟩ := row_at hr1 (i := a) (by omega) (by omega)
  obtain ⟨v1, e1, z1, u1⟩ := row_at hr1 (i := a + 1) (by omega) (by omega)
  obtain ⟨v2, e2, z2, u2⟩ := row_at hr1 (i := a + 2) (by omega) (by omega)
  obtain ⟨v3, e3, z3, u3⟩ := row_at hr1 (i := a + 3) (by omega) (by omega)
  obtain ⟨wd, ew, mw⟩ := pick (xs := ["br", "condbr", "switch", "ret", "stop"]) (i := v0 % 5) (by omega) (by show v0 % 5 < 5; omega)
  simp [e0, e1, e2]
  refine ⟨sl5' (by decide), _, ew, v1, v2, span, rfl, z1, z2, hs, fun p hp => ?_⟩
  refine oLc_n (n := 5) (by decide) (fun Ψ h => h) (fun acc => ∃ es : List Edg, acc = es.map Edg.D ∧ ∀ e ∈ es, e.ok span labels) ⟨[], rfl, fun _ h => (nomatch h)⟩ (fun k acc Ψ hk hacc hP hΨ => ?_) (fun acc hacc hP => ?_)
  · simp
    refine ⟨.inl ⟨by omega, by omega⟩, row, a + 4 + 8 * k, span, labels, rfl, hr1, by omega, by omega, hs, hlb, fun e he => hΨ _ ?_⟩
    obtain ⟨es, rfl, hes⟩ := hP
    exact ⟨es ++ [e], by simp, ok_snoc hes he⟩
  · obtain ⟨es, rfl, hes⟩ := hP
    obtain ⟨x0, x1, x2, x3, x4, rfl⟩ : ∃ x0 x1 x2 x3 x4, es = [x0, x1, x2, x3, x4] := by
      rw [List.length_map] at hacc
      match es, hacc with
      | [a, b, c, d, e], _ => exact ⟨a, b, c, d, e, rfl⟩
    simp at hes
    obtain ⟨k0, k1, k2, k3, k4⟩ := hes
    simp at mw
    rcases mw with rfl | rfl | rfl | rfl | rfl
    · simp
      exact ⟨sl5' (by decide), h (.br x0) k0⟩
    · simp
      exact ⟨sl5' (by decide), h (.con p x0 x1) ⟨hp, k0, k1⟩⟩
    · simp
      intro o
      obtain ⟨n, hn⟩ : ∃ n : Nat, v3 % 5 = n := ⟨(v3 % 5).toNat, by omega⟩
      obtain ⟨I, hI⟩ : ∃ I : Nat → Dl → Prop, ∀ k δ, I k δ ↔ ∃ (cs : List (Int × Edg)) (y8 : Option R), cs.length = k ∧ (∀ c ∈ cs, (0 ≤ c.1 ∧ c.1 < 300) ∧ c.2.ok span labels) ∧ δ = [some (.d (.list (row.map .int))), some (.d (.int a)), some (.d (.int span)), some (.d (.int labels)), some (.d (.str "switch")), some (.d p.D), some (.d (.list [x0.D, x1.D, x2.D, x3.D, x4.D])), some (.own o (cs.map caseD)), y8] := ⟨_, fun _ _ => Iff.rfl⟩
      refine dFor_n (n := n) (by omega) (fun Ψ h => by simpa [e3, hn] using h) I ((hI _ _).mpr ⟨[], none, rfl, fun _ h => (nomatch h), rfl⟩) (fun k δ hk hJ => ?_) (fun δ hJ => ?_)
      · obtain ⟨cs, y8, hl2, hcs, rfl⟩ := (hI _ _).mp hJ
        obtain ⟨x, ex, u0, u1⟩ := row_at hr1 (i := a + 44 + k) (by omega) (by omega)
        obtain ⟨xk, mk, ek⟩ : ∃ xk : Edg, xk.ok span labels ∧ atI [x0.D, x1.D, x2.D, x3.D, x4.D] (k : Int) = some xk.D := by
          have : k = 0 ∨ k = 1 ∨ k = 2 ∨ k = 3 := by omega
          rcases this with rfl | rfl | rfl | rfl
          · exact ⟨x0, k0, by simp⟩
          · exact ⟨x1, k1, by simp⟩
          · exact ⟨x2, k2, by simp⟩
          · exact ⟨x3, k3, by simp⟩
        simp [ex, ek]
        exact ⟨sl5' (by decide), Nat.lt_of_lt_of_le (show cs.length < 5 by omega) (by decide), (hI _ _).mpr ⟨cs ++ [(x % 300, xk)], some (.d (.int k)), by rw [List.length_append, hl2]; rfl, ok_snoc hcs ⟨⟨by show 0 ≤ x % 300; omega, by show x % 300 < 300; omega⟩, mk⟩, by simp [caseD]⟩⟩
      · obtain ⟨cs, y8, hl2, hcs, rfl⟩ := (hI _ _).mp hJ
        simp
        exact ⟨sl5' (by decide), h (.sw p cs x4) ⟨hp, hcs, by omega, k4⟩⟩
    · simp [e3]
      split
      · exact ⟨sl5' (by decide), h .retN trivial⟩
      · exact ⟨sl5' (by decide), h (.ret p) hp⟩
    · simp [e3]
      exact ⟨⟨by decide, by decide, by decide⟩, sl5' (by decide), h (.stop (v3 % 1000000000)) ⟨by omega, by omega⟩⟩

structure Blk.ok (span labels : Int) (b : Blk) : Prop where
  l0 : 0 ≤ b.lb
  l1 : b.lb < labels
  ps : ∀ p ∈ b.ps, (0 ≤ p.1 ∧ p.1 < span) ∧ p.2 ∈ pk
  pn : b.ps.length ≤ 3
  bd : ∀ i ∈ b.bd, i.ok span
  bn : b.bd.length ≤ 4
  en : b.en.ok span labels
def vp__law_free_block : VSp := fun rs Φ => ∃ (row : List Int) (a span labels : Int), rs = [.d (.list (row.map .int)), .d (.int a), .d (.int span), .d (.int labels)] ∧ Row row ∧ 0 ≤ a ∧ a + 140 ≤ row.length ∧ 0 < span ∧ 0 < labels ∧ ∀ b : Blk, b.ok span labels → Φ (.d b.D)
theorem len__law_free_block : ∀ rs Φ, vp__law_free_block rs Φ → rs.length = 4 := fun rs Φ ⟨_, _, _, _, e, _⟩ => by rw [e]; rfl
theorem G__law_free_block (T : Txt K mg) : FnOk P w K mg base CX0 4 T.f__law_free_block T.fd__law_free_block ["row", "at", "span", "labels"] (toSp K 4 vp__law_free_block) := by
  refine fn_ok T.F__law_free_block sc__law_free_block fun cdv A outer s H E hr => ⟨_, (pss_cons (ps_set (i := 4) sc__law_free_block.nd rfl (Or.inl rfl) (pe_lst (pa_cons pe_str (pa_cons pe_str (pa_cons pe_str (pa_cons pe_str (pa_cons pe_str (pa_cons pe_str pa_nil))))))))
 (pss_cons (ps_set (i := 5) sc__law_free_block.nd rfl (Or.inl rfl) (pe_lst pa_nil))
 (pss_cons (ps_for PassesOwn.never rfl (pi_range1 rfl T.range (pa_cons (pe_op op_mod (pe_ix (kx_seq (K := K) rfl) (pv 0) (pv 1) (fun _ _ => rfl)) pe_int) pa_nil)) (pg_name (i := 6) sc__law_free_block.nd rfl (Or.inl rfl)) (pss_one (ps_expr (pe_bm PySem.F.plainAttrs_list PySem.F.slot_list_append PySem.F.type_list_append mt_append (pv 5) (pa_cons (pe_tup (pa_cons (pe_op op_mod (pe_ix (kx_seq (K := K) rfl) (pv 0) (pe_op op_add (pe_op op_add (pv 1) pe_int) (pe_op op_mul pe_int (pv 6))) (fun _ _ => rfl)) (pv 2)) (pa_cons (pe_ix (kx_seq (K := K) rfl) (pv 4) (pe_op op_mod (pe_ix (kx_seq (K := K) rfl) (pv 0) (pe_op op_add (pe_op op_add (pv 1) pe_int) (pe_op op_mul pe_int (pv 6))) (fun _ _ => rfl)) pe_int) (fun _ _ => rfl)) pa_nil))) pa_nil)))))
 (pss_cons (ps_set (i := 7) sc__law_free_block.nd rfl (Or.inl rfl) (pe_lst pa_nil))
 (pss_cons (ps_for PassesOwn.never rfl (pi_range1 rfl T.range (pa_cons (pe_op op_mod (pe_ix (kx_seq (K := K) rfl) (pv 0) (pe_op op_add (pv 1) pe_int) (fun _ _ => rfl)) pe_int) pa_nil)) (pg_name (i := 6) sc__law_free_block.nd rfl (Or.inl rfl)) (pss_one (ps_if (PW.pt (pw_or (pt_cmpR op_eq (pv 6) pe_int (nomark _)) (pw_or1 (pt_cmpR op_eq (pv 3) pe_int (nomark _))))) (pss_one (ps_expr (pe_bm PySem.F.plainAttrs_list PySem.F.slot_list_append PySem.F.type_list_append mt_append (pv 7) (pa_cons (pe_call (G__law_free_instruction T) (hr.mono (by decide)) (by rfl) T.g__law_free_instruction T.F__law_free_instruction.kp T.b__law_free_instruction .nil pass0 (pa_cons (pv 0) (pa_cons (pe_op op_add (pe_op op_add (pv 1) pe_int) (pe_op op_mul pe_int (pv 6))) (pa_cons (pv 2) pa_nil)))) pa_nil)))) pss_nil)))
 (pss_one (ps_ret (pe_tup (pa_cons (pe_op op_mod (pe_ix (kx_seq (K := K) rfl) (pv 0) (pe_op op_add (pv 1) pe_int) (fun _ _ => rfl)) (pv 3)) (pa_cons (pe_callTy (kx_tuple (K := K) rfl) (by rfl) T.tuple (by decide +kernel) (pa_cons (pv 5) pa_nil)) (pa_cons (pe_callTy (kx_tuple (K := K) rfl) (by rfl) T.tuple (by decide +kernel) (pa_cons (pv 7) pa_nil)) (pa_cons (pe_call (G__law_free_end T) hr (by rfl) T.g__law_free_end T.F__law_free_end.kp T.b__law_free_end .nil pass0 (pa_cons (pv 0) (pa_cons (pe_op op_add (pv 1) pe_int) (pa_cons (pv 2) (pa_cons (pv 3) pa_nil))))) pa_nil)))))))))))), _, fun ex He Hf => (sms_seq (sms_asg (SmO.sm (smo_lst (sma_cons (sm_str _) (sma_cons (sm_str _) (sma_cons (sm_str _) (sma_cons (sm_str _) (sma_cons (sm_str _) (sma_cons (sm_str _) sma_nil)))))))) (smg_name 4))
 (sms_seq (sms_setO 5 (smo_lst sma_nil))
 (sms_seq (sms_for (smi_rng1 (f1 := false) (sm_op (f1 := false) (f2 := false) (opd_I (g' := fun i j => .int (i % j)) fun _ _ => rfl) (sm_ix (f2 := false) (sm_var 0) (sm_var 1)) (sm_int _))) (smg_name 6)
 (sms_app 5 (sm_tup (sma_cons (sm_op (f1 := false) (f2 := false) (opd_I (g' := fun i j => .int (i % j)) fun _ _ => rfl) (sm_ix (f2 := false) (sm_var 0) (sm_op (f1 := false) (f2 := false) (opd_I0 (g' := fun i j => .int (i + j)) fun _ _ => rfl) (sm_op (f1 := false) (f2 := false) (opd_I0 (g' := fun i j => .int (i + j)) fun _ _ => rfl) (sm_var 1) (sm_int _)) (sm_op (f1 := false) (f2 := false) (opd_I (g' := fun i j => .int (i * j)) fun _ _ => rfl) (sm_int _) (sm_var 6)))) (sm_var 2)) (sma_cons (sm_ix (f2 := false) (sm_var 4) (sm_op (f1 := false) (f2 := false) (opd_I (g' := fun i j => .int (i % j)) fun _ _ => rfl) (sm_ix (f2 := false) (sm_var 0) (sm_op (f1 := false) (f2 := false) (opd_I0 (g' := fun i j => .int (i + j)) fun _ _ => rfl) (sm_op (f1 := false) (f2 := false) (opd_I0 (g' := fun i j => .int (i + j)) fun _ _ => rfl) (sm_var 1) (sm_int _)) (sm_op (f1 := false) (f2 := false) (opd_I (g' := fun i j => .int (i * j)) fun _ _ => rfl) (sm_int _) (sm_var 6)))) (sm_int _))) sma_nil)))))
 (sms_seq (sms_setO 7 (smo_lst sma_nil))
 (sms_seq (sms_for (smi_rng1 (f1 := false) (sm_op (f1 := false) (f2 := false) (opd_I (g' := fun i j => .int (i % j)) fun _ _ => rfl) (sm_ix (f2 := false) (sm_var 0) (sm_op (f1 := false) (f2 := false) (opd_I0 (g' := fun i j => .int (i + j)) fun _ _ => rfl) (sm_var 1) (sm_int _))) (sm_int _))) (smg_name 6)
 (sms_if (smt_or (smt_t (f1 := false) (sm_op (f1 := false) (f2 := false) opd_eq (sm_var 6) (sm_int _))) (smt_t (f1 := false) (sm_op (f1 := false) (f2 := false) opd_eq (sm_var 3) (sm_int _))))
 (sms_app 7 (sm_call len__law_free_instruction (smq_cons (sm_var 0) (smq_cons (sm_op (f1 := false) (f2 := false) (opd_I0 (g' := fun i j => .int (i + j)) fun _ _ => rfl) (sm_op (f1 := false) (f2 := false) (opd_I0 (g' := fun i j => .int (i + j)) fun _ _ => rfl) (sm_var 1) (sm_int _)) (sm_op (f1 := false) (f2 := false) (opd_I (g' := fun i j => .int (i * j)) fun _ _ => rfl) (sm_int _) (sm_var 6))) (smq_cons (sm_var 2) smq_nil)))))
 sms_next))
 (sms_frz 7 (sms_frz 5 (sms_ret (sm_tup (sma_cons (sm_op (f1 := false) (f2 := false) (opd_I (g' := fun i j => .int (i % j)) fun _ _ => rfl) (sm_ix (f2 := false) (sm_var 0) (sm_op (f1 := false) (f2 := false) (opd_I0 (g' := fun i j => .int (i + j)) fun _ _ => rfl) (sm_var 1) (sm_int _))) (sm_var 3)) (sma_cons (sm_tuple (sm_var 5)) (sma_cons (sm_tuple (sm_var 7)) (sma_cons (sm_call len__law_free_end (smq_cons (sm_var 0) (smq_cons (sm_op (f1 := false) (f2 := false) (opd_I0 (g' := fun i j => .int (i + j)) fun _ _ => rfl) (sm_var 1) (sm_int _)) (smq_cons (sm_var 2) (smq_cons (sm_var 3) smq_nil))))) sma_nil))))))))))))), ?_⟩
  rintro rs Φ ⟨row, a, span, labels, rfl, hr1, ha, hl, hs, hlb, h⟩
  obtain ⟨v0, e0, z0, u0⟩ := row_at hr1 (i := a) (by omega) (by omega)
  obtain ⟨v7, e7, z7, u7⟩ := row_at hr1 (i := a + 7) (by omega) (by omega)
  obtain ⟨v8, e8, z8, u8⟩ := row_at hr1 (i := a + 8) (by omega) (by omega)
  simp
  refine ⟨sl5' (by decide), fun o => ?_⟩
  obtain ⟨n, hn⟩ : ∃ n : Nat, v0 % 4 = n := ⟨(v0 % 4).toNat, by omega⟩
  obtain ⟨m, hm⟩ : ∃ n : Nat, v7 % 5 = n := ⟨(v7 % 5).toNat, by omega⟩
  obtain ⟨I, hI⟩ : ∃ I : Nat → Dl → Prop, ∀ k δ, I k δ ↔ ∃ (ps : List (Int × Str)) (y6 : Option R), ps.length = k ∧ (∀ p ∈ ps, (0 ≤ p.1 ∧ p.1 < span) ∧ p.2 ∈ pk) ∧ δ = [some (.d (.list (row.map .int))), some (.d (.int a)), some (.d (.int span)), some (.d (.int labels)), some (.d (.list (pk.map .str))), some (.own o (ps.map parD)), y6, none] := ⟨_, fun _ _ => Iff.rfl⟩
  refine dFor_n (n := n) (by omega) (fun Ψ h => by simpa [e0, hn] using h) I ((hI _ _).mpr ⟨[], none, rfl, fun _ h => (nomatch h), rfl⟩) (fun k δ hk hJ => ?_) (fun δ hJ => ?_)
  · obtain ⟨ps, y6, hl2, hps, rfl⟩ := (hI _ _).mp hJ
    obtain ⟨x, ex, x0, x1⟩ := row_at hr1 (i := a + 1 + 2 * k) (by omega) (by omega)
    obtain ⟨y, ey, y0, y1⟩ := row_at hr1 (i := a + 2 + 2 * k) (by omega) (by omega)
    obtain ⟨z, ez, mz⟩ := pick (xs := pk) (i := y % 6) (by omega) (by show y % 6 < 6; omega)
    have mk : List.map PyData.str pk = [.str "i1", .str "i8", .str "i16", .str "i32", .str "i64", .str "ptr"] := rfl
    rw [mk] at ez
    have hp6 : ps.length ≤ 1000000 := by omega
    simp [ex, ey, mk, ez, le_size, lt_size, cmul_l, cpow_l, cdiv_l, hs, hp6]
    exact (hI _ _).mpr ⟨ps ++ [(x % span, z)], some (.d (.int k)), by rw [List.length_append, hl2]; rfl, ok_snoc hps ⟨⟨Int.emod_nonneg _ (by omega), Int.emod_lt_of_pos _ hs⟩, mz⟩, by simp [parD, mk]⟩
  · obtain ⟨ps, y6, hl2, hps, rfl⟩ := (hI _ _).mp hJ
    simp
    intro o2
    obtain ⟨I2, hI2⟩ : ∃ I : Nat → Dl → Prop, ∀ k δ, I k δ ↔ ∃ (bd : List Ins) (y6 : Option R), bd.length ≤ k ∧ (∀ i ∈ bd, i.ok span) ∧ δ = [some (.d (.list (row.map .int))), some (.d (.int a)), some (.d (.int span)), some (.d (.int labels)), some (.d (.list (pk.map .str))), some (.own o (ps.map parD)), y6, some (.own o2 (bd.map Ins.D))] := ⟨_, fun _ _ => Iff.rfl⟩
    refine dFor_n (n := m) (by omega) (fun Ψ h => by simpa [e7, hm] using h) I2 ((hI2 _ _).mpr ⟨[], y6, Nat.le_refl _, fun _ h => (nomatch h), rfl⟩) (fun k δ hk hJ => ?_) (fun δ hJ => ?_)
    · obtain ⟨bd, y6, hl3, hbd, rfl⟩ := (hI2 _ _).mp hJ
      have no : ∀ y, I2 (k + 1) [some (.d (.list (row.map .int))), some (.d (.int a)), some (.d (.int span)), some (.d (.int labels)), some (.d (.list (pk.map .str))), some (.own o (ps.map parD)), y, some (.own o2 (bd.map Ins.D))] := fun y => (hI2 _ _).mpr ⟨bd, y, by omega, hbd, rfl⟩
      have yes : CMul 20 (k : Int) ∧ vp__law_free_instruction [.d (.list (row.map .int)), .d (.int (a + 10 + 20 * k)), .d (.int span)] fun r => bd.length < sizeLine ∧ I2 (k + 1) [some (.d (.list (row.map .int))), some (.d (.int a)), some (.d (.int span)), some (.d (.int labels)), some (.d (.list (pk.map .str))), some (.own o (ps.map parD)), some (.d (.int k)), some (.own o2 (bd.map Ins.D ++ [r.data]))] :=
        ⟨.inl ⟨by omega, by omega⟩, row, a + 10 + 20 * k, span, rfl, hr1, by omega, by omega, hs, fun i hi => ⟨Nat.lt_of_lt_of_le (show bd.length < 6 by omega) (by decide), (hI2 _ _).mpr ⟨bd ++ [i], some (.d (.int k)), by rw [List.length_append]; show bd.length + 1 ≤ k + 1; omega, ok_snoc hbd hi, by simp⟩⟩⟩
      simp [le_size, lt_size, cmul_l, cpow_l, cdiv_l]
      split
      · exact yes.2
      split
      · exact yes.2
      · exact no _
    · obtain ⟨bd, y6, hl3, hbd, rfl⟩ := (hI2 _ _).mp hJ
      simp [e8]
      exact ⟨hlb, row, a + 90, span, labels, rfl, hr1, by omega, by omega, hs, hlb, fun e he => ⟨sl5' (by decide), h ⟨v8 % labels, ps, bd, e⟩ ⟨Int.emod_nonneg _ (by omega), Int.emod_lt_of_pos _ hlb, hps, by show ps.length ≤ 3; omega, hbd, by show bd.length ≤ 4; omega, he⟩⟩⟩


structure Fn.ok (f : Fn) : Prop where
  kd : f.kd ∈ vk
  b0 : 1 ≤ f.bs.length
  b1 : f.bs.length ≤ 18
  bs : ∃ span labels : Int, 0 < span ∧ span ≤ 40 ∧ 0 < labels ∧ labels ≤ 20 ∧ ∀ b ∈ f.bs, b.ok span labels
def vp__law_free_function : VSp := fun rs Φ => ∃ (row : List Int) (a : Int) (name : Str), rs = [.d (.list (row.map .int)), .d (.int a), .d (.str name)] ∧ Row row ∧ 0 ≤ a ∧ a + 580 ≤ row.length ∧ ∀ f : Fn, f.nm = name → f.ok → Φ (.d f.D)
theorem len__law_free_function : ∀ rs Φ, vp__law_free_function rs Φ → rs.length = 3 := fun rs Φ ⟨_, _, _, e, _⟩ => by rw [e]; rfl
theorem pickI {xs : List Int} {i : Int} (h0 : 0 ≤ i) (h1 : i < xs.length) : ∃ z, atI (xs.map PyData.int) i = some (.int z) ∧ z ∈ xs := by
  obtain ⟨z, hz, e⟩ := atI_in (xs := xs.map PyData.int) h0 (by rw [List.length_map]; exact h1)
  obtain ⟨g, hg, rfl⟩ := List.mem_map.mp hz
  exact ⟨g, e, hg⟩
theorem G__law_free_function (T : Txt K mg) : FnOk P w K mg base CX0 5 T.f__law_free_function T.fd__law_free_function ["row", "at", "name"] (toSp K 3 vp__law_free_function) := by
  refine fn_ok T.F__law_free_function sc__law_free_function fun cdv A outer s H E hr => ⟨_, (pss_cons (ps_set (i := 3) sc__law_free_function.nd rfl (Or.inl rfl) (pe_ix (kx_seq (K := K) rfl) (pe_lst (pa_cons pe_int (pa_cons pe_int (pa_cons pe_int (pa_cons pe_int pa_nil))))) (pe_op op_mod (pe_ix (kx_seq (K := K) rfl) (pv 0) (pv 1) (fun _ _ => rfl)) pe_int) (fun _ _ => rfl)))
 (pss_cons (ps_set (i := 4) sc__law_free_function.nd rfl (Or.inl rfl) (pe_ix (kx_seq (K := K) rfl) (pe_lst (pa_cons pe_str (pa_cons pe_str (pa_cons pe_str (pa_cons pe_str (pa_cons pe_str (pa_cons pe_str (pa_cons pe_str pa_nil)))))))) (pe_op op_mod (pe_ix (kx_seq (K := K) rfl) (pv 0) (pe_op op_add (pv 1) pe_int) (fun _ _ => rfl)) pe_int) (fun _ _ => rfl)))
 (pss_cons (ps_set (i := 5) sc__law_free_function.nd rfl (Or.inl rfl) (pe_op op_add pe_int (pe_op op_mod (pe_ix (kx_seq (K := K) rfl) (pv 0) (pe_op op_add (pv 1) pe_int) (fun _ _ => rfl)) pe_int)))
 (pss_cons (ps_set (i := 6) sc__law_free_function.nd rfl (Or.inl rfl) pe_int)
 (pss_cons (ps_if (pt_cmpR op_gt (pe_op op_mod (pe_ix (kx_seq (K := K) rfl) (pv 0) (pe_op op_add (pv 1) pe_int) (fun _ _ => rfl)) pe_int) pe_int (nomark _)) (pss_cons (ps_set (i := 5) sc__law_free_function.nd rfl (Or.inl rfl) (pe_op op_add pe_int (pe_op op_mod (pe_ix (kx_seq (K := K) rfl) (pv 0) (pe_op op_add (pv 1) pe_int) (fun _ _ => rfl)) pe_int)))
 (pss_one (ps_set (i := 6) sc__law_free_function.nd rfl (Or.inl rfl) pe_int))) pss_nil)
 (pss_cons (ps_set (i := 7) sc__law_free_function.nd rfl (Or.inl rfl) (pe_lst pa_nil))
 (pss_cons (ps_for PassesOwn.never rfl (pi_range1 rfl T.range (pa_cons (pv 5) pa_nil)) (pg_name (i := 8) sc__law_free_function.nd rfl (Or.inl rfl)) (pss_one (ps_expr (pe_bm PySem.F.plainAttrs_list PySem.F.slot_list_append PySem.F.type_list_append mt_append (pv 7) (pa_cons (pe_call (G__law_free_block T) hr (by rfl) T.g__law_free_block T.F__law_free_block.kp T.b__law_free_block .nil pass0 (pa_cons (pv 0) (pa_cons (pe_op op_add (pe_op op_add (pe_op op_add (pv 1) pe_int) (pe_op op_mul pe_int (pe_op op_mod (pv 8) pe_int))) (pe_op op_fdivW (pv 8) pe_int)) (pa_cons (pv 3) (pa_cons (pv 6) pa_nil))))) pa_nil)))))
 (pss_one (ps_ret (pe_tup (pa_cons (pv 2) (pa_cons (pv 4) (pa_cons (pe_cmpR op_eq (pe_op op_mod (pe_ix (kx_seq (K := K) rfl) (pv 0) (pe_op op_add (pv 1) pe_int) (fun _ _ => rfl)) pe_int) pe_int (nomark _)) (pa_cons (pe_callTy (kx_tuple (K := K) rfl) (by rfl) T.tuple (by decide +kernel) (pa_cons (pv 7) pa_nil)) pa_nil)))))))))))))), _, fun ex He Hf => (sms_seq (sms_asg (sm_ix (f2 := false) (SmO.sm (smo_lst (sma_cons (sm_int _) (sma_cons (sm_int _) (sma_cons (sm_int _) (sma_cons (sm_int _) sma_nil)))))) (sm_op (f1 := false) (f2 := false) (opd_I (g' := fun i j => .int (i % j)) fun _ _ => rfl) (sm_ix (f2 := false) (sm_var 0) (sm_var 1)) (sm_int _))) (smg_name 3))
 (sms_seq (sms_asg (sm_ix (f2 := false) (SmO.sm (smo_lst (sma_cons (sm_str _) (sma_cons (sm_str _) (sma_cons (sm_str _) (sma_cons (sm_str _) (sma_cons (sm_str _) (sma_cons (sm_str _) (sma_cons (sm_str _) sma_nil))))))))) (sm_op (f1 := false) (f2 := false) (opd_I (g' := fun i j => .int (i % j)) fun _ _ => rfl) (sm_ix (f2 := false) (sm_var 0) (sm_op (f1 := false) (f2 := false) (opd_I0 (g' := fun i j => .int (i + j)) fun _ _ => rfl) (sm_var 1) (sm_int _))) (sm_int _))) (smg_name 4))
 (sms_seq (sms_asg (sm_op (f1 := false) (f2 := false) (opd_I0 (g' := fun i j => .int (i + j)) fun _ _ => rfl) (sm_int _) (sm_op (f1 := false) (f2 := false) (opd_I (g' := fun i j => .int (i % j)) fun _ _ => rfl) (sm_ix (f2 := false) (sm_var 0) (sm_op (f1 := false) (f2 := false) (opd_I0 (g' := fun i j => .int (i + j)) fun _ _ => rfl) (sm_var 1) (sm_int _))) (sm_int _))) (smg_name 5))
 (sms_seq (sms_asg (sm_int _) (smg_name 6))
 (sms_seq (sms_if (smt_t (f1 := false) (sm_op (f1 := false) (f2 := false) (opd_I0 (g' := fun i j => .bool (decide (j < i))) fun _ _ => rfl) (sm_op (f1 := false) (f2 := false) (opd_I (g' := fun i j => .int (i % j)) fun _ _ => rfl) (sm_ix (f2 := false) (sm_var 0) (sm_op (f1 := false) (f2 := false) (opd_I0 (g' := fun i j => .int (i + j)) fun _ _ => rfl) (sm_var 1) (sm_int _))) (sm_int _)) (sm_int _)))
 (sms_seq (sms_asg (sm_op (f1 := false) (f2 := false) (opd_I0 (g' := fun i j => .int (i + j)) fun _ _ => rfl) (sm_int _) (sm_op (f1 := false) (f2 := false) (opd_I (g' := fun i j => .int (i % j)) fun _ _ => rfl) (sm_ix (f2 := false) (sm_var 0) (sm_op (f1 := false) (f2 := false) (opd_I0 (g' := fun i j => .int (i + j)) fun _ _ => rfl) (sm_var 1) (sm_int _))) (sm_int _))) (smg_name 5))
 (sms_asg (sm_int _) (smg_name 6)))
 sms_next)
 (sms_seq (sms_setO 7 (smo_lst sma_nil))
 (sms_seq (sms_for (smi_rng1 (f1 := false) (sm_var 5)) (smg_name 8)
 (sms_app 7 (sm_call len__law_free_block (smq_cons (sm_var 0) (smq_cons (sm_op (f1 := false) (f2 := false) (opd_I0 (g' := fun i j => .int (i + j)) fun _ _ => rfl) (sm_op (f1 := false) (f2 := false) (opd_I0 (g' := fun i j => .int (i + j)) fun _ _ => rfl) (sm_op (f1 := false) (f2 := false) (opd_I0 (g' := fun i j => .int (i + j)) fun _ _ => rfl) (sm_var 1) (sm_int _)) (sm_op (f1 := false) (f2 := false) (opd_I (g' := fun i j => .int (i * j)) fun _ _ => rfl) (sm_int _) (sm_op (f1 := false) (f2 := false) (opd_I (g' := fun i j => .int (i % j)) fun _ _ => rfl) (sm_var 8) (sm_int _)))) (sm_op (f1 := false) (f2 := false) (opd_I (g' := fun i j => .int (i / j)) fun _ _ => rfl) (sm_var 8) (sm_int _))) (smq_cons (sm_var 3) (smq_cons (sm_var 6) smq_nil)))))))
 (sms_frz 7 (sms_ret (sm_tup (sma_cons (sm_var 2) (sma_cons (sm_var 4) (sma_cons (sm_op (f1 := false) (f2 := false) opd_eq (sm_op (f1 := false) (f2 := false) (opd_I (g' := fun i j => .int (i % j)) fun _ _ => rfl) (sm_ix (f2 := false) (sm_var 0) (sm_op (f1 := false) (f2 := false) (opd_I0 (g' := fun i j => .int (i + j)) fun _ _ => rfl) (sm_var 1) (sm_int _))) (sm_int _)) (sm_int _)) (sma_cons (sm_tuple (sm_var 7)) sma_nil)))))))))))))), ?_⟩
  rintro rs Φ ⟨row, a, name, rfl, hr1, ha, hl, h⟩
  obtain ⟨v0, e0, z0, u0⟩ := row_at hr1 (i := a) (by omega) (by omega)
  obtain ⟨v1, e1, z1, u1⟩ := row_at hr1 (i := a + 1) (by omega) (by omega)
  obtain ⟨v2, e2, z2, u2⟩ := row_at hr1 (i := a + 2) (by omega) (by omega)
  obtain ⟨v3, e3, z3, u3⟩ := row_at hr1 (i := a + 3) (by omega) (by omega)
  obtain ⟨span, es, ms⟩ := pickI (xs := [3, 6, 12, 40]) (i := v0 % 4) (by omega) (by show v0 % 4 < 4; omega)
  obtain ⟨kd, ek, mk⟩ := pick (xs := vk) (i := v1 % 7) (by omega) (by show v1 % 7 < 7; omega)
  have hs : 0 < span ∧ span ≤ 40 := by
    simp at ms
    omega
  have mv : List.map PyData.str vk = [.str "i1", .str "i8", .str "i16", .str "i32", .str "i64", .str "ptr", .str "void"] := rfl
  have mi : List.map PyData.int [3, 6, 12, 40] = [.int 3, .int 6, .int 12, .int 40] := rfl
  rw [mv] at ek
  rw [mi] at es
  simp [e0, e1, e2, le_size, lt_size, cmul_l, cpow_l, cdiv_l, es, ek]
  split
  · intro o
    obtain ⟨n, hn, n0, n1⟩ : ∃ n : Nat, 6 + v2 % 13 = (n : Int) ∧ 1 ≤ n ∧ n ≤ 18 := ⟨(6 + v2 % 13).toNat, by omega, by omega, by omega⟩
    obtain ⟨I, hI⟩ : ∃ I : Nat → Dl → Prop, ∀ k δ, I k δ ↔ ∃ (bs : List Blk) (y8 : Option R), bs.length = k ∧ (∀ b ∈ bs, b.ok span 20) ∧ δ = [some (.d (.list (row.map .int))), some (.d (.int a)), some (.d (.str name)), some (.d (.int span)), some (.d (.str kd)), some (.d (.int n)), some (.d (.int 20)), some (.own o (bs.map Blk.D)), y8] := ⟨_, fun _ _ => Iff.rfl⟩
    rw [hn]
    refine dFor_n (n := n) (by omega) (fun Ψ h => by simpa using h) I ((hI _ _).mpr ⟨[], none, rfl, fun _ h => (nomatch h), rfl⟩) (fun k δ hk hJ => ?_) (fun δ hJ => ?_)
    · obtain ⟨bs, y8, hl2, hbs, rfl⟩ := (hI _ _).mp hJ
      have hz : bs.length ≤ 1000000 := by omega
      simp [le_size, lt_size, cmul_l, cpow_l, cdiv_l, hz]
      exact ⟨row, a + 4 + 140 * ((k : Int) % 4) + (k : Int) / 4, span, 20, rfl, hr1, by omega, by omega, hs.1, by decide, fun b hb => (hI _ _).mpr ⟨bs ++ [b], some (.d (.int k)), by rw [List.length_append, hl2]; rfl, ok_snoc hbs hb, by simp⟩⟩
    · obtain ⟨bs, y8, hl2, hbs, rfl⟩ := (hI _ _).mp hJ
      simp [e3, le_size, lt_size, cmul_l, cpow_l, cdiv_l]
      exact h ⟨name, kd, decide (v3 % 2 = 1), bs⟩ rfl ⟨mk, by show 1 ≤ bs.length; omega, by show bs.length ≤ 18; omega, span, 20, hs.1, hs.2, by decide, by decide, hbs⟩
  · intro o
    obtain ⟨n, hn, n0, n1⟩ : ∃ n : Nat, 1 + v2 % 4 = (n : Int) ∧ 1 ≤ n ∧ n ≤ 18 := ⟨(1 + v2 % 4).toNat, by omega, by omega, by omega⟩
    obtain ⟨I, hI⟩ : ∃ I : Nat → Dl → Prop, ∀ k δ, I k δ ↔ ∃ (bs : List Blk) (y8 : Option R), bs.length = k ∧ (∀ b ∈ bs, b.ok span 6) ∧ δ = [some (.d (.list (row.map .int))), some (.d (.int a)), some (.d (.str name)), some (.d (.int span)), some (.d (.str kd)), some (.d (.int n)), some (.d (.int 6)), some (.own o (bs.map Blk.D)), y8] := ⟨_, fun _ _ => Iff.rfl⟩
    rw [hn]
    refine dFor_n (n := n) (by omega) (fun Ψ h => by simpa using h) I ((hI _ _).mpr ⟨[], none, rfl, fun _ h => (nomatch h), rfl⟩) (fun k δ hk hJ => ?_) (fun δ hJ => ?_)
    · obtain ⟨bs, y8, hl2, hbs, rfl⟩ := (hI _ _).mp hJ
      have hz : bs.length ≤ 1000000 := by omega
      simp [le_size, lt_size, cmul_l, cpow_l, cdiv_l, hz]
      exact ⟨row, a + 4 + 140 * ((k : Int) % 4) + (k : Int) / 4, span, 6, rfl, hr1, by omega, by omega, hs.1, by decide, fun b hb => (hI _ _).mpr ⟨bs ++ [b], some (.d (.int k)), by rw [List.length_append, hl2]; rfl, ok_snoc hbs hb, by simp⟩⟩
    · obtain ⟨bs, y8, hl2, hbs, rfl⟩ := (hI _ _).mp hJ
      simp [e3, le_size, lt_size, cmul_l, cpow_l, cdiv_l]
      exact h ⟨name, kd, decide (v3 % 2 = 1), bs⟩ rfl ⟨mk, by show 1 ≤ bs.length; omega, by show bs.length ≤ 18; omega, span, 6, hs.1, hs.2, by decide, by decide, hbs⟩


/-! ### the records are data that the law's comparison takes -/
theorem okS {s : Str} {l : List Str} {n : Nat} (h : s ∈ l) (hl : (l.all fun s => PyData.canLay0 (.str s)) = true) : Okd n (.str s) := .str (List.all_eq_true.mp hl s h)
theorem okT {n : Nat} {xs : List PyData} (hl : xs.length ≤ 1000) (h : ∀ y ∈ xs, Okd n y) : Okd (n + 1) (.tuple xs) := .tuple h (by omega)
theorem al0 {p : PyData → Prop} : ∀ y ∈ ([] : List PyData), p y := fun _ h => nomatch h
theorem alc {p : PyData → Prop} {a : PyData} {l : List PyData} (h : p a) (k : ∀ y ∈ l, p y) : ∀ y ∈ a :: l, p y := List.forall_mem_cons.mpr ⟨h, k⟩
theorem alm {α : Type} {p : PyData → Prop} {f : α → PyData} {xs : List α} (h : ∀ x ∈ xs, p (f x)) : ∀ y ∈ xs.map f, p y := fun y hy => by
  obtain ⟨x, hx, rfl⟩ := List.mem_map.mp hy
  exact h x hx
theorem okW {n : Nat} {s : Str} (h : PyData.canLay0 (.str s) = true) : Okd n (.str s) := .str h
theorem Opd.okd {span : Int} {o : Opd} (h : o.ok span) : Okd 1 o.D := by
  cases o with
  | int k v => exact okT (by simp) (alc (okW (by decide +kernel)) (alc (okS h.1 (by decide +kernel)) (alc (.int _) al0)))
  | nul => exact okT (by simp) (alc (okW (by decide +kernel)) al0)
  | nam n => exact okT (by simp) (alc (okW (by decide +kernel)) (alc (.int _) al0))
  | glo s => exact okT (by simp) (alc (okW (by decide +kernel)) (alc (okS (show s ∈ gls from h) (by decide +kernel)) al0))
theorem opds_okd {span : Int} {os : List Opd} (h : ∀ o ∈ os, o.ok span) (hl : os.length ≤ 1000) : Okd 2 (.tuple (os.map Opd.D)) := okT (by rw [List.length_map]; exact hl) (alm fun o ho => Opd.okd (h o ho))
theorem kd_vk {op kd : Str} (h : kdOk op kd) : kd ∈ vk := by
  unfold kdOk at h
  have s1 : ∀ s ∈ pk, s ∈ vk := by decide +kernel
  have s2 : ∀ s ∈ ik, s ∈ vk := by decide +kernel
  split at h
  · rw [h]; decide +kernel
  split at h
  · rw [h]; decide +kernel
  split at h
  · exact h
  split at h
  · exact s1 _ h
  · exact s2 _ h
theorem dat_okd {op : Str} {n : Nat} {d : Dat} (hn : n ≤ 5) (h : datOk op n d) : Okd 1 (.tuple d.D) := by
  unfold datOk at h
  split at h
  · obtain ⟨k, rfl, _⟩ := h
    exact okT (by show 1 ≤ 1000; decide) (alc (.int _) al0)
  split at h
  · obtain ⟨p, rfl, hp⟩ := h
    exact okT (by show 1 ≤ 1000; decide) (alc (okS hp (by decide +kernel)) al0)
  split at h
  · obtain ⟨p, rfl, hp⟩ := h
    exact okT (by show 1 ≤ 1000; decide) (alc (okS hp (by decide +kernel)) al0)
  split at h
  · obtain ⟨ns, rfl, hl, _⟩ := h
    exact okT (by show (ns.map PyData.int).length ≤ 1000; rw [List.length_map]; omega) (alm fun x _ => .int x)
  · subst h
    exact okT (by show 0 ≤ 1000; decide) al0
theorem Ins.okd {span : Int} {i : Ins} (h : i.ok span) : Okd 3 i.D := by
  have hc := cnt_le h.cnt
  exact okT (by simp) (alc (.int _) (alc (okS h.op (by decide +kernel)) (alc (okS (kd_vk h.kd) (by decide +kernel)) (alc (opds_okd h.os (by omega)) (alc ((dat_okd hc h.dt).mono (by decide)) (alc (.int _) al0))))))
theorem Edg.okd {span labels : Int} {e : Edg} (h : e.ok span labels) : Okd 3 e.D := okT (by simp) (alc (.int _) (alc (opds_okd h.2.1 (by have := h.2.2; omega)) al0))
theorem End.okd {span labels : Int} {e : End} (h : e.ok span labels) : Okd 6 e.D := by
  cases e with
  | br e => exact okT (by simp) (alc (okW (by decide +kernel)) (alc ((Edg.okd h).mono (by decide)) al0))
  | con o e f => exact okT (by simp) (alc (okW (by decide +kernel)) (alc ((Opd.okd h.1).mono (by decide)) (alc ((Edg.okd h.2.1).mono (by decide)) (alc ((Edg.okd h.2.2).mono (by decide)) al0))))
  | sw o cs d =>
    obtain ⟨h1, h2, h3, h4⟩ := h
    refine okT (by simp) (alc (okW (by decide +kernel)) (alc ((Opd.okd h1).mono (by decide)) (alc (okT (n := 4) (by rw [List.length_map]; omega) (alm fun c hc => okT (n := 3) (by simp) (alc (.int _) (alc (Edg.okd (h2 c hc).2) al0)))) (alc ((Edg.okd h4).mono (by decide)) al0))))
  | retN => exact okT (by simp) (alc (okW (by decide +kernel)) (alc .none al0))
  | ret o => exact okT (by simp) (alc (okW (by decide +kernel)) (alc ((Opd.okd h).mono (by decide)) al0))
  | stop n => exact okT (by simp) (alc (okW (by decide +kernel)) (alc (.int _) al0))
theorem Blk.okdL {span labels : Int} {b : Blk} (h : b.ok span labels) (L : Int) : Okd 7 (.tuple [.int L, .tuple (b.ps.map parD), .tuple (b.bd.map Ins.D), b.en.D]) :=
  okT (by simp) (alc (.int _) (alc ((okT (n := 1) (by rw [List.length_map]; have := h.pn; omega) (alm fun p hp => okT (n := 0) (by simp) (alc (.int _) (alc (okS (h.ps p hp).2 (by decide +kernel)) al0)))).mono (by decide)) (alc ((okT (n := 3) (by rw [List.length_map]; have := h.bn; omega) (alm fun i hi => Ins.okd (h.bd i hi))).mono (by decide)) (alc (End.okd h.en) al0))))
theorem Blk.okd {span labels : Int} {b : Blk} (h : b.ok span labels) : Okd 7 b.D := Blk.okdL h _

theorem blks_okd {f : Fn} (h : f.ok) : Okd 8 (.tuple (f.bs.map Blk.D)) := by
  obtain ⟨_, _, _, _, _, _, hb⟩ := h.bs
  exact okT (by rw [List.length_map]; have := h.b1; omega) (alm fun b hb' => Blk.okd (hb b hb'))
theorem Fn.okd {f : Fn} (h : f.ok) (hn : PyData.canLay0 (.str f.nm) = true) : Okd 9 f.D :=
  okT (by simp) (alc (okW hn) (alc (okS h.kd (by decide +kernel)) (alc (.bool _) (alc (blks_okd h) al0))))

theorem fz3 {n : Nat} (h : n ≤ 100000) : n ≤ sizeLine := Nat.le_trans h (by decide)
theorem int_at {xs : List Int} {k : Nat} {x : Int} (h : xs[k]? = some x) : atI (xs.map PyData.int) (k : Int) = some (.int x) := atI_nat (by rw [List.getElem?_map, h]; rfl)
theorem dFor_via {di : DI} {dg : DG} {db : DS} {E : DEnds} {δ : Dl} {Pre : List PyData → Prop} (h : ∀ Ψ : List PyData → Prop, (∀ xs, Pre xs → Ψ xs) → di δ Ψ) (k : ∀ xs, Pre xs → dFor (fun _ Φ => Φ xs) dg db E δ) : dFor di dg db E δ := h _ k


/-! ### the edges of an end -/
def End.es : End → List Edg
  | .br e => [e]
  | .con _ e f => [e, f]
  | .sw _ cs d => cs.map (·.2) ++ [d]
  | .retN => []
  | .ret _ => []
  | .stop _ => []
def vp_edges : VSp := fun rs Φ => ∃ e : End, rs = [.d e.D] ∧ e.es.length ≤ 1000 ∧ Φ (.own (e.es.map Edg.D))
theorem len_edges : ∀ rs Φ, vp_edges rs Φ → rs.length = 1 := fun rs Φ ⟨_, e, _⟩ => by rw [e]; rfl
theorem G_edges (T : Txt K mg) : FnOk P w K mg base CX0 1 T.f_edges T.fd_edges ["end"] (toSp K 1 vp_edges) := by
  refine fn_ok T.F_edges sc_edges fun cdv A outer s H E hr => ⟨_, (pss_cons (ps_if (pt_cmpR op_eq (pe_ix (kx_seq (K := K) rfl) (pv 0) pe_int (fun _ _ => rfl)) pe_str (nomark _)) (pss_one (ps_ret (pe_lst (pa_cons (pe_ix (kx_seq (K := K) rfl) (pv 0) pe_int (fun _ _ => rfl)) pa_nil)))) pss_nil)
 (pss_cons (ps_if (pt_cmpR op_eq (pe_ix (kx_seq (K := K) rfl) (pv 0) pe_int (fun _ _ => rfl)) pe_str (nomark _)) (pss_one (ps_ret (pe_lst (pa_cons (pe_ix (kx_seq (K := K) rfl) (pv 0) pe_int (fun _ _ => rfl)) (pa_cons (pe_ix (kx_seq (K := K) rfl) (pv 0) pe_int (fun _ _ => rfl)) pa_nil))))) pss_nil)
 (pss_cons (ps_if (pt_cmpR op_eq (pe_ix (kx_seq (K := K) rfl) (pv 0) pe_int (fun _ _ => rfl)) pe_str (nomark _)) (pss_one (ps_ret (pe_op op_cat (pe_lc (own := [("case", 1)]) (g := gName 1) (tt := tYes) rfl sc_edges.nd ((kpi_tup (K := K) rfl (pe_ix (kx_seq (K := K) rfl) (pv 0) pe_int (fun _ _ => rfl)))) (blkOk_by (N := ["end", "case"]) (sc := defScope sedges) (by decide +kernel)) (fun _ _ _ _ _ => pg_name (i := 1) sc_edges.nd rfl (Or.inl rfl)) (fun _ _ _ _ _ => pts_nil) (fun _ _ _ _ _ => (pe_ix (kx_seq (K := K) rfl) (pv 1) pe_int (fun _ _ => rfl)))) (pe_lst (pa_cons (pe_ix (kx_seq (K := K) rfl) (pv 0) pe_int (fun _ _ => rfl)) pa_nil))))) pss_nil)
 (pss_one (ps_ret (pe_lst pa_nil)))))), _, fun ex He Hf => (sms_seq (sms_if (smt_t (f1 := false) (sm_op (f1 := false) (f2 := false) opd_eq (sm_ix (f2 := false) (sm_var 0) (sm_int _)) (sm_str _)))
 (sms_retNew (smo_lst (sma_cons (sm_ix (f2 := false) (sm_var 0) (sm_int _)) sma_nil)))
 sms_next)
 (sms_seq (sms_if (smt_t (f1 := false) (sm_op (f1 := false) (f2 := false) opd_eq (sm_ix (f2 := false) (sm_var 0) (sm_int _)) (sm_str _)))
 (sms_retNew (smo_lst (sma_cons (sm_ix (f2 := false) (sm_var 0) (sm_int _)) (sma_cons (sm_ix (f2 := false) (sm_var 0) (sm_int _)) sma_nil))))
 sms_next)
 (sms_seq (sms_if (smt_t (f1 := false) (sm_op (f1 := false) (f2 := false) opd_eq (sm_ix (f2 := false) (sm_var 0) (sm_int _)) (sm_str _)))
 (sms_retNew (smo_cat (SmO.sm (smo_lc (i := 1) (smi_tup (sm_ix (f2 := false) (sm_var 0) (sm_int _))) smt_yes (sm_ix (f2 := false) (sm_var 1) (sm_int _)))) (SmO.sm (smo_lst (sma_cons (sm_ix (f2 := false) (sm_var 0) (sm_int _)) sma_nil)))))
 sms_next)
 (sms_retNew (smo_lst sma_nil))))), ?_⟩
  rintro rs Φ ⟨e, rfl, hl, h⟩
  cases e with
  | sw o cs d =>
    simp [End.es] at hl
    simp [End.D, le_size, lt_size, cmul_l, cpow_l, cdiv_l]
    refine oLc_of cs caseD (fun c => c.2.D) (by omega) (fun Ψ hΨ => by simpa using hΨ) (fun k c Ψ hc hΨ => ?_) ?_
    · simpa [caseD] using hΨ
    · simp [End.es] at h
      simp
      exact ⟨fz3 (by omega), h⟩
  | _ => simpa [End.D, End.es, le_size, lt_size, cmul_l, cpow_l, cdiv_l] using h


/-! ### a walk that goes as deep as it can: mathematics -/
structure Wk (α : Type) where
  ent : List α
  left : List α
  log : List (α × α)
  path : List (α × Nat)
def wstep {α : Type} [DecidableEq α] (G : α → List α) (s : Wk α) : Wk α := match s.path with
  | [] => s
  | (x, k) :: rest => match (G x)[k]? with
    | none => { s with left := s.left ++ [x], path := rest }
    | some t => if t ∈ s.ent then { s with path := (x, k + 1) :: rest } else ⟨s.ent ++ [t], s.left, s.log ++ [(t, x)], (t, 0) :: (x, k + 1) :: rest⟩
def wrun {α : Type} [DecidableEq α] (G : α → List α) : Nat → Wk α → Wk α
  | 0, s => s
  | n + 1, s => wrun G n (wstep G s)
def winit {α : Type} (r : α) : Wk α := ⟨[r], [], [], [(r, 0)]⟩
section
variable {α β : Type} [DecidableEq α] [DecidableEq β] {G : α → List α}
theorem wstep_nil {s : Wk α} (h : s.path = []) : wstep G s = s := by unfold wstep; rw [h]
theorem wstep_out {s : Wk α} {x : α} {k : Nat} {rest : List (α × Nat)} (h : s.path = (x, k) :: rest) (e : (G x)[k]? = none) : wstep G s = { s with left := s.left ++ [x], path := rest } := by unfold wstep; rw [h]; simp [e]
theorem wstep_old {s : Wk α} {x t : α} {k : Nat} {rest : List (α × Nat)} (h : s.path = (x, k) :: rest) (e : (G x)[k]? = some t) (m : t ∈ s.ent) : wstep G s = { s with path := (x, k + 1) :: rest } := by unfold wstep; rw [h]; simp [e, m]
theorem wstep_new {s : Wk α} {x t : α} {k : Nat} {rest : List (α × Nat)} (h : s.path = (x, k) :: rest) (e : (G x)[k]? = some t) (m : t ∉ s.ent) : wstep G s = ⟨s.ent ++ [t], s.left, s.log ++ [(t, x)], (t, 0) :: (x, k + 1) :: rest⟩ := by unfold wstep; rw [h]; simp [e, m]
theorem wrun_nil {s : Wk α} (h : s.path = []) : ∀ n, wrun G n s = s
  | 0 => rfl
  | n + 1 => by rw [wrun, wstep_nil h, wrun_nil h n]
theorem wrun_add (s : Wk α) (m : Nat) : ∀ n, wrun G (n + m) s = wrun G m (wrun G n s)
  | 0 => by rw [Nat.zero_add]; rfl
  | n + 1 => by
    rw [Nat.add_right_comm]
    show wrun G (n + m) (wstep G s) = wrun G m (wrun G n (wstep G s))
    exact wrun_add (wstep G s) m n
theorem wrun_succ (s : Wk α) (n : Nat) : wrun G (n + 1) s = wstep G (wrun G n s) := by rw [wrun_add]; rfl
/-- what comes out is one -/
theorem wrun_end {s a b : Wk α} {m n : Nat} (ha : wrun G m s = a) (hb : wrun G n s = b) (pa : a.path = []) (pb : b.path = []) : a = b := by
  rcases Nat.le_total m n with h | h
  · obtain ⟨k, rfl⟩ := Nat.le.dest h
    rw [wrun_add, ha, wrun_nil pa] at hb
    exact hb
  · obtain ⟨k, rfl⟩ := Nat.le.dest h
    rw [wrun_add, hb, wrun_nil pb] at ha
    exact ha.symm
/-! what holds all along -/
inductive Reach (G : α → List α) (r : α) : α → Prop
  | root : Reach G r r
  | next {x y : α} : Reach G r x → y ∈ G x → Reach G r y
structure WOk (G : α → List α) (r : α) (s : Wk α) : Prop where
  nd : s.ent.Nodup
  pm : (s.left ++ s.path.map (·.1)).Perm s.ent
  rt : r ∈ s.ent
  cl : ∀ x ∈ s.left, ∀ y ∈ G x, y ∈ s.ent
  pt : ∀ p ∈ s.path, ∀ y ∈ (G p.1).take p.2, y ∈ s.ent
  rc : ∀ x ∈ s.ent, Reach G r x
theorem wok_init (r : α) : WOk G r (winit r) := ⟨by simp [winit], by simp [winit], by simp [winit], by simp [winit], by simp [winit], by
  intro x hx
  have hx : x ∈ [r] := hx
  rw [List.mem_singleton.mp hx]
  exact .root⟩
theorem wok_step {r : α} {s : Wk α} (h : WOk G r s) : WOk G r (wstep G s) := by
  cases hp : s.path with
  | nil => rw [wstep_nil hp]; exact h
  | cons p rest =>
    obtain ⟨x, k⟩ := p
    have hx : x ∈ s.ent := h.pm.mem_iff.mp (List.mem_append_right _ (by rw [hp]; exact List.mem_cons_self ..))
    have pt := h.pt
    have pm := h.pm
    rw [hp] at pt pm
    cases e : (G x)[k]? with
    | none =>
      rw [wstep_out hp e]
      refine ⟨h.nd, ?_, h.rt, fun y hy z hz => ?_, fun p hpm => pt p (List.mem_cons_of_mem _ hpm), h.rc⟩
      · show ((s.left ++ [x]) ++ rest.map (·.1)).Perm s.ent
        rw [List.append_assoc]
        exact pm
      · rcases List.mem_append.mp hy with hy | hy
        · exact h.cl y hy z hz
        · rw [List.mem_singleton.mp hy] at hz
          refine pt (x, k) (List.mem_cons_self ..) z ?_
          rw [List.take_of_length_le (List.getElem?_eq_none_iff.mp e)]
          exact hz
    | some t =>
      by_cases m : t ∈ s.ent
      · rw [wstep_old hp e m]
        refine ⟨h.nd, ?_, h.rt, h.cl, fun p hpm => ?_, h.rc⟩
        · exact pm
        · rcases List.mem_cons.mp hpm with hpm | hpm
          · subst hpm
            intro y hy
            have hy : y ∈ (G x).take (k + 1) := hy
            rw [List.take_add_one, e] at hy
            rcases List.mem_append.mp hy with hy | hy
            · exact pt (x, k) (List.mem_cons_self ..) y hy
            · have : y = t := by simpa using hy
              rw [this]; exact m
          · exact pt p (List.mem_cons_of_mem _ hpm)
      · rw [wstep_new hp e m]
        refine ⟨?_, ?_, List.mem_append_left _ h.rt, fun y hy z hz => List.mem_append_left _ (h.cl y hy z hz), fun p hpm => ?_, fun y hy => ?_⟩
        · exact List.nodup_append.mpr ⟨h.nd, by simp, fun a ha b hb => by rw [List.mem_singleton.mp hb]; exact fun z => m (by rw [← z]; exact ha)⟩
        · show (s.left ++ t :: x :: rest.map (·.1)).Perm (s.ent ++ [t])
          have p1 : (s.left ++ t :: x :: rest.map (·.1)).Perm (t :: (s.left ++ x :: rest.map (·.1))) := List.perm_middle
          have p2 : (t :: (s.left ++ x :: rest.map (·.1))).Perm (t :: s.ent) := pm.cons t
          exact (p1.trans p2).trans (List.perm_append_comm (l₁ := [t]))
        · rcases List.mem_cons.mp hpm with hpm | hpm
          · subst hpm
            intro y hy
            simp at hy
          · rcases List.mem_cons.mp hpm with hpm | hpm
            · subst hpm
              intro y hy
              have hy : y ∈ (G x).take (k + 1) := hy
              rw [List.take_add_one, e] at hy
              rcases List.mem_append.mp hy with hy | hy
              · exact List.mem_append_left _ (pt (x, k) (List.mem_cons_self ..) y hy)
              · have : y = t := by simpa using hy
                rw [this]; exact List.mem_append_right _ (List.mem_cons_self ..)
            · exact fun y hy => List.mem_append_left _ (pt p (List.mem_cons_of_mem _ hpm) y hy)
        · rcases List.mem_append.mp hy with hy | hy
          · exact h.rc y hy
          · rw [List.mem_singleton.mp hy]
            exact .next (h.rc x hx) (List.mem_of_getElem? e)
theorem wok_run {r : α} : ∀ (n : Nat) {s : Wk α}, WOk G r s → WOk G r (wrun G n s)
  | 0, _, h => h
  | n + 1, _, h => wok_run n (wok_step h)
theorem reach_in {r : α} {S : List α} (h0 : r ∈ S) (hc : ∀ x ∈ S, ∀ y ∈ G x, y ∈ S) : ∀ {x : α}, Reach G r x → x ∈ S := fun h => by
  induction h with
  | root => exact h0
  | next _ e ih => exact hc _ ih _ e
/-- at the end what was entered is what is reached -/
theorem WOk.reached {r : α} {s : Wk α} (h : WOk G r s) (hp : s.path = []) : s.left.Perm s.ent ∧ ∀ x, x ∈ s.ent ↔ Reach G r x := by
  have pm := h.pm
  rw [hp, List.map_nil, List.append_nil] at pm
  exact ⟨pm, fun x => ⟨h.rc x, reach_in h.rt fun x hx y hy => h.cl x (pm.mem_iff.mpr hx) y hy⟩⟩
theorem nodup_le : ∀ {A B : List α}, A.Nodup → (∀ x ∈ A, x ∈ B) → A.length ≤ B.length
  | [], _, _, _ => Nat.zero_le _
  | a :: A, B, nd, h => by
    have nd := List.nodup_cons.mp nd
    have ha := h a (List.mem_cons_self ..)
    have h1 := nodup_le (A := A) (B := B.erase a) nd.2 fun x hx => (List.mem_erase_of_ne fun z => nd.1 (by rw [← z]; exact hx)).mpr (h x (List.mem_cons_of_mem _ hx))
    have h2 := List.length_erase_of_mem ha
    have h3 := List.length_pos_of_mem ha
    rw [List.length_cons]
    omega
/-! how many steps -/
def wgt (G : α → List α) (x : α) : Nat := (G x).length + 1
def wmu (G : α → List α) (N : List α) (s : Wk α) : Nat := ((N.filter fun x => decide (x ∉ s.ent)).map (wgt G)).sum + (s.path.map fun p => (G p.1).length - p.2 + 1).sum
theorem sum_filter_one {N : List α} (nd : N.Nodup) {t : α} (ht : t ∈ N) {E : List α} (m : t ∉ E) (f : α → Nat) : ((N.filter fun x => decide (x ∉ E)).map f).sum = ((N.filter fun x => decide (x ∉ E ++ [t])).map f).sum + f t := by
  induction N with
  | nil => cases ht
  | cons a N ih =>
    have nd2 := List.nodup_cons.mp nd
    by_cases q : a = t
    · subst q
      have e1 : (N.filter fun x => decide (x ∉ E ++ [a])) = N.filter fun x => decide (x ∉ E) := by
        refine List.filter_congr fun x hx => ?_
        have : x ≠ a := fun z => nd2.1 (z ▸ hx)
        simp [this]
      rw [List.filter_cons, List.filter_cons, e1]
      simp [m]
      omega
    · have ht2 : t ∈ N := by
        rcases List.mem_cons.mp ht with z | z
        · exact absurd z.symm q
        · exact z
      have ih := ih nd2.2 ht2
      have hm : decide (a ∉ E ++ [t]) = decide (a ∉ E) := by simp [q]
      rw [List.filter_cons, List.filter_cons, hm]
      split
      · rw [List.map_cons, List.map_cons, List.sum_cons, List.sum_cons]
        omega
      · exact ih
theorem wmu_step {N : List α} (nd : N.Nodup) (hN : ∀ x ∈ N, ∀ y ∈ G x, y ∈ N) {s : Wk α} (hp : ∀ p ∈ s.path, p.1 ∈ N) {p : α × Nat} {rest : List (α × Nat)} (e : s.path = p :: rest) (hk : p.2 ≤ (G p.1).length) : wmu G N (wstep G s) + 1 = wmu G N s := by
  obtain ⟨x, k⟩ := p
  have hx : x ∈ N := hp _ (by rw [e]; exact List.mem_cons_self ..)
  cases q : (G x)[k]? with
  | none =>
    have := List.getElem?_eq_none_iff.mp q
    have hk : k ≤ (G x).length := hk
    rw [wstep_out e q]
    unfold wmu
    simp only [e, List.map_cons, List.sum_cons]
    omega
  | some t =>
    obtain ⟨hlt, _⟩ := List.getElem?_eq_some_iff.mp q
    by_cases m : t ∈ s.ent
    · rw [wstep_old e q m]
      unfold wmu
      simp only [e, List.map_cons, List.sum_cons]
      omega
    · rw [wstep_new e q m]
      unfold wmu
      simp only [e, List.map_cons, List.sum_cons]
      rw [sum_filter_one nd (hN x hx t (List.mem_of_getElem? q)) m]
      unfold wgt
      omega
structure WIn (G : α → List α) (N : List α) (s : Wk α) : Prop where
  ent : ∀ x ∈ s.ent, x ∈ N
  pa : ∀ p ∈ s.path, p.1 ∈ N ∧ p.2 ≤ (G p.1).length
theorem win_init {N : List α} {r : α} (h : r ∈ N) : WIn G N (winit r) := ⟨fun x hx => by rw [List.mem_singleton.mp hx]; exact h, fun p hp => by rw [List.mem_singleton.mp hp]; exact ⟨h, Nat.zero_le _⟩⟩
theorem win_step {N : List α} (hN : ∀ x ∈ N, ∀ y ∈ G x, y ∈ N) {s : Wk α} (h : WIn G N s) : WIn G N (wstep G s) := by
  cases hp : s.path with
  | nil => rw [wstep_nil hp]; exact h
  | cons p rest =>
    obtain ⟨x, k⟩ := p
    have pa := h.pa
    rw [hp] at pa
    have hx := pa (x, k) (List.mem_cons_self ..)
    cases e : (G x)[k]? with
    | none => rw [wstep_out hp e]; exact ⟨h.ent, fun p hpm => pa p (List.mem_cons_of_mem _ hpm)⟩
    | some t =>
      obtain ⟨hlt, _⟩ := List.getElem?_eq_some_iff.mp e
      have up : ∀ p ∈ (x, k + 1) :: rest, p.1 ∈ N ∧ p.2 ≤ (G p.1).length := fun p hpm => by
        rcases List.mem_cons.mp hpm with hpm | hpm
        · subst hpm; exact ⟨hx.1, hlt⟩
        · exact pa p (List.mem_cons_of_mem _ hpm)
      by_cases m : t ∈ s.ent
      · rw [wstep_old hp e m]; exact ⟨h.ent, up⟩
      · rw [wstep_new hp e m]
        have tN := hN x hx.1 t (List.mem_of_getElem? e)
        refine ⟨fun y hy => ?_, fun p hpm => ?_⟩
        · rcases List.mem_append.mp hy with hy | hy
          · exact h.ent y hy
          · rw [List.mem_singleton.mp hy]; exact tN
        · rcases List.mem_cons.mp hpm with hpm | hpm
          · subst hpm; exact ⟨tN, Nat.zero_le _⟩
          · exact up p hpm
theorem win_run {N : List α} (hN : ∀ x ∈ N, ∀ y ∈ G x, y ∈ N) : ∀ (n : Nat) {s : Wk α}, WIn G N s → WIn G N (wrun G n s)
  | 0, _, h => h
  | n + 1, _, h => win_run hN n (win_step hN h)
/-- as many steps as the measure says come to the end -/
theorem wrun_done {N : List α} (nd : N.Nodup) (hN : ∀ x ∈ N, ∀ y ∈ G x, y ∈ N) : ∀ (n : Nat) {s : Wk α}, WIn G N s → wmu G N s ≤ n → (wrun G n s).path = []
  | 0, s, h, hm => by
    cases hp : s.path with
    | nil => exact hp
    | cons p rest =>
      have := h.pa p (by rw [hp]; exact List.mem_cons_self ..)
      have := wmu_step nd hN (fun q hq => (h.pa q hq).1) hp this.2
      omega
  | n + 1, s, h, hm => by
    cases hp : s.path with
    | nil => rw [wrun_nil hp]; exact hp
    | cons p rest =>
      have := h.pa p (by rw [hp]; exact List.mem_cons_self ..)
      have := wmu_step nd hN (fun q hq => (h.pa q hq).1) hp this.2
      exact wrun_done nd hN n (win_step hN h) (by omega)
theorem wmu_init {N : List α} (nd : N.Nodup) {r : α} (h : r ∈ N) : wmu G N (winit r) = (N.map (wgt G)).sum := by
  have e : N.filter (fun x => decide (x ∉ ([] : List α))) = N := List.filter_eq_self.mpr fun x _ => by simp
  have := sum_filter_one nd h (E := []) (by simp) (wgt G)
  rw [e] at this
  unfold wmu winit
  simp only [List.map_cons, List.map_nil, List.sum_cons, List.sum_nil]
  rw [this]
  unfold wgt
  simp
/-! the same walk over other names -/
def wmap (f : α → β) (s : Wk α) : Wk β := ⟨s.ent.map f, s.left.map f, s.log.map fun p => (f p.1, f p.2), s.path.map fun p => (f p.1, p.2)⟩
theorem wmap_step {G' : β → List β} {N : List α} {f : α → β} (fi : ∀ x ∈ N, ∀ y ∈ N, f x = f y → x = y) (hN : ∀ x ∈ N, ∀ y ∈ G x, y ∈ N) (hG : ∀ x ∈ N, G' (f x) = (G x).map f) {s : Wk α} (h : WIn G N s) : wstep G' (wmap f s) = wmap f (wstep G s) := by
  cases hp : s.path with
  | nil => rw [wstep_nil hp, wstep_nil (by show s.path.map _ = []; rw [hp]; rfl)]
  | cons p rest =>
    obtain ⟨x, k⟩ := p
    have hx := (h.pa (x, k) (by rw [hp]; exact List.mem_cons_self ..)).1
    have hp2 : (wmap f s).path = (f x, k) :: rest.map fun p => (f p.1, p.2) := by show s.path.map _ = _; rw [hp]; rfl
    have e2 : (G' (f x))[k]? = ((G x)[k]?).map f := by rw [hG x hx, List.getElem?_map]
    cases e : (G x)[k]? with
    | none =>
      rw [e] at e2
      rw [wstep_out hp e, wstep_out hp2 e2]
      simp [wmap]
    | some t =>
      rw [e] at e2
      have tN := hN x hx t (List.mem_of_getElem? e)
      by_cases m : t ∈ s.ent
      · rw [wstep_old hp e m, wstep_old hp2 e2 (List.mem_map.mpr ⟨t, m, rfl⟩)]
        simp [wmap]
      · rw [wstep_new hp e m, wstep_new hp2 e2 (fun z => ?_)]
        · simp [wmap]
        · obtain ⟨y, hy, ey⟩ := List.mem_map.mp z
          have := fi y (h.ent y hy) t tN ey
          exact m (by rw [← this]; exact hy)
theorem wmap_run {G' : β → List β} {N : List α} {f : α → β} (fi : ∀ x ∈ N, ∀ y ∈ N, f x = f y → x = y) (hN : ∀ x ∈ N, ∀ y ∈ G x, y ∈ N) (hG : ∀ x ∈ N, G' (f x) = (G x).map f) : ∀ (n : Nat) {s : Wk α}, WIn G N s → wrun G' n (wmap f s) = wmap f (wrun G n s)
  | 0, _, _ => rfl
  | n + 1, s, h => by
    rw [wrun, wrun, wmap_step fi hN hG h]
    exact wmap_run fi hN hG n (win_step hN h)
end


/-! ### walk -/
theorem ixn {n j : Nat} (hj : j < n) : ixN n (j : Int) = some j := by unfold ixN; simp [hj]
def wD (G : List (List Nat)) : PyData := .list (G.map fun r => .list (r.map fun t : Nat => .int (t : Int)))
def gN (G : List (List Nat)) (x : Nat) : List Nat := G.getD x []
def niD (xs : List Nat) : List PyData := xs.map fun t : Nat => .int (t : Int)
def tpD (p : Nat × Nat) : PyData := .tuple [.int (p.1 : Int), .int (p.2 : Int)]
def seenD (n : Nat) (E : List Nat) : List PyData := (List.range n).map fun i => .bool (decide (i ∈ E))
def parW (n : Nat) (log : List (Nat × Nat)) : List PyData := log.foldl (fun ps p => ps.set p.1 (.int (p.2 : Int))) (List.replicate n (.int (-1)))
theorem seen_at {n : Nat} {E : List Nat} {i : Nat} (h : i < n) : atI (seenD n E) (i : Int) = some (.bool (decide (i ∈ E))) := atI_nat (by unfold seenD; rw [List.getElem?_map, List.getElem?_range h]; rfl)
theorem seen_set {n : Nat} {E : List Nat} {t : Nat} (h : t < n) : (seenD n E).set t (.bool true) = seenD n (E ++ [t]) := by
  refine List.ext_getElem? fun i => ?_
  unfold seenD
  by_cases q : t = i
  · subst q
    rw [List.getElem?_set_self (by simp; exact h), List.getElem?_map, List.getElem?_range h]
    simp
  · rw [List.getElem?_set_ne q, List.getElem?_map, List.getElem?_map]
    have : ∀ j, (List.range n)[i]? = some j → (PyData.bool (decide (j ∈ E))) = .bool (decide (j ∈ E ++ [t])) := fun j hj => by
      have hji : j = i := by
        obtain ⟨hl, hv⟩ := List.getElem?_eq_some_iff.mp hj
        rw [List.getElem_range] at hv
        exact hv.symm
      have : ¬ j = t := fun z => q (by rw [← z, hji])
      simp [this]
    cases e : (List.range n)[i]? with
    | none => rfl
    | some j => simp only [Option.map_some]; rw [this j e]
theorem seen_init {n : Nat} (h : 0 < n) : (List.replicate n (PyData.bool false)).set 0 (.bool true) = seenD n [0] := by
  have e : List.replicate n (PyData.bool false) = seenD n [] := by
    unfold seenD
    refine List.ext_getElem? fun i => ?_
    rw [List.getElem?_replicate, List.getElem?_map]
    by_cases c : i < n
    · rw [if_pos c, List.getElem?_range c]; rfl
    · rw [if_neg c, List.getElem?_eq_none (by simpa using c)]; rfl
  rw [e, seen_set h]
  rfl
theorem seen_len (n : Nat) (E : List Nat) : (seenD n E).length = n := by simp [seenD]
theorem par_len (n : Nat) : ∀ log : List (Nat × Nat), (parW n log).length = n := by
  intro log
  unfold parW
  have : ∀ (ps : List PyData), (log.foldl (fun ps p => ps.set p.1 (.int (p.2 : Int))) ps).length = ps.length := by
    induction log with
    | nil => intro ps; rfl
    | cons p log ih => intro ps; rw [List.foldl_cons, ih, List.length_set]
  rw [this, List.length_replicate]
theorem par_snoc (n : Nat) (log : List (Nat × Nat)) (t x : Nat) : (parW n log).set t (.int (x : Int)) = parW n (log ++ [(t, x)]) := by unfold parW; rw [List.foldl_append]; rfl
theorem fz4 {n : Nat} (h : n ≤ 100000) : n < sizeLine := Nat.lt_of_le_of_lt h (by decide)
structure GNs (G : List (List Nat)) : Prop where
  pos : 1 ≤ G.length
  few : G.length ≤ 1000
  row : ∀ r ∈ G, r.length ≤ 1000 ∧ ∀ t ∈ r, t < G.length
theorem GNs.tgt {G : List (List Nat)} (h : GNs G) : ∀ x ∈ List.range G.length, ∀ y ∈ gN G x, y ∈ List.range G.length := fun x hx y hy => by
  have hx := List.mem_range.mp hx
  unfold gN at hy
  rw [List.getD_eq_getElem?_getD, List.getElem?_eq_getElem hx] at hy
  exact List.mem_range.mpr ((h.row _ (List.getElem_mem hx)).2 y hy)
theorem GNs.lt {G : List (List Nat)} (h : GNs G) {x : Nat} (hx : x < G.length) : G[x]? = some (gN G x) ∧ (gN G x).length ≤ 1000 := by
  have e : G[x]? = some G[x] := List.getElem?_eq_getElem hx
  have e2 : gN G x = G[x] := by unfold gN; rw [List.getD_eq_getElem?_getD, e]; rfl
  rw [e2]
  exact ⟨e, (h.row _ (List.getElem_mem hx)).1⟩
def vp_walk : VSp := fun rs Φ => ∃ G : List (List Nat), rs = [.d (wD G)] ∧ GNs G ∧ ∀ (n : Nat) (s : Wk Nat), wrun (gN G) n (winit 0) = s → s.path = [] → Φ (.d (.tuple [.list (niD s.ent), .list (niD s.left), .list (parW G.length s.log)]))
theorem len_walk : ∀ rs Φ, vp_walk rs Φ → rs.length = 1 := fun rs Φ ⟨_, e, _⟩ => by rw [e]; rfl
theorem G_walk (T : Txt K mg) : FnOk P w K mg base CX0 1 T.f_walk T.fd_walk ["targets"] (toSp K 1 vp_walk) := by
  refine fn_ok T.F_walk sc_walk fun cdv A outer s H E hr => ⟨_, (pss_cons (ps_set (i := 1) sc_walk.nd rfl (Or.inl rfl) (pe_lst (pa_cons pe_int pa_nil)))
 (pss_cons (ps_set (i := 2) sc_walk.nd rfl (Or.inl rfl) (pe_lst pa_nil))
 (pss_cons (ps_set (i := 3) sc_walk.nd rfl (Or.inl rfl) (pe_op op_rep (pe_lst (pa_cons (pe_un un_neg pe_int) pa_nil)) (pe_callB (kx_len (K := K) rfl) (by rfl) T.len PySem.boot_len (pa_cons (pv 0) pa_nil))))
 (pss_cons (ps_set (i := 4) sc_walk.nd rfl (Or.inl rfl) (pe_op op_rep (pe_lst (pa_cons pe_bl pa_nil)) (pe_callB (kx_len (K := K) rfl) (by rfl) T.len PySem.boot_len (pa_cons (pv 0) pa_nil))))
 (pss_cons (ps_asg pe_bl (pg_sub (pv 4) pe_int set_list))
 (pss_cons (ps_set (i := 5) sc_walk.nd rfl (Or.inl rfl) (pe_lst (pa_cons (pe_tup (pa_cons pe_int (pa_cons pe_int pa_nil))) pa_nil)))
 (pss_cons (ps_while PassesOwn.never (pt_truth (pv 5) (by intro _; rfl)) (pss_cons (ps_asg (pe_bm0 PySem.F.plainAttrs_list PySem.F.slot_list_pop PySem.F.type_list_pop mt_pop (pv 5)) (pg_tup (n := 2) rfl (pgs_cons (pg_name (i := 8) sc_walk.nd rfl (Or.inl rfl)) (pgs_cons (pg_name (i := 9) sc_walk.nd rfl (Or.inl rfl)) pgs_nil))))
 (pss_cons (ps_set (i := 6) sc_walk.nd rfl (Or.inl rfl) (pe_ix (kx_seq (K := K) rfl) (pv 0) (pv 8) (fun _ _ => rfl)))
 (pss_cons (ps_while PassesOwn.never (PW.pt (pw_and (pt_cmpR op_lt (pv 9) (pe_callB (kx_len (K := K) rfl) (by rfl) T.len PySem.boot_len (pa_cons (pv 6) pa_nil)) (nomark _)) (pw_and1 (pt_val (pe_ix (kx_seq (K := K) rfl) (pv 4) (pe_ix (kx_seq (K := K) rfl) (pv 6) (pv 9) (fun _ _ => rfl)) (fun _ _ => rfl)))))) (pss_one (ps_aug (i := 9) sc_walk.nd rfl (Or.inl rfl) pe_int ip_add)))
 (pss_cons (ps_if (pt_cmpR op_eq (pv 9) (pe_callB (kx_len (K := K) rfl) (by rfl) T.len PySem.boot_len (pa_cons (pv 6) pa_nil)) (nomark _)) (pss_cons (ps_expr (pe_bm PySem.F.plainAttrs_list PySem.F.slot_list_append PySem.F.type_list_append mt_append (pv 2) (pa_cons (pv 8) pa_nil)))
 (pss_one ps_continue)) pss_nil)
 (pss_cons (ps_set (i := 7) sc_walk.nd rfl (Or.inl rfl) (pe_ix (kx_seq (K := K) rfl) (pv 6) (pv 9) (fun _ _ => rfl)))
 (pss_cons (ps_asg pe_bl (pg_sub (pv 4) (pv 7) set_list))
 (pss_cons (ps_expr (pe_bm PySem.F.plainAttrs_list PySem.F.slot_list_append PySem.F.type_list_append mt_append (pv 1) (pa_cons (pv 7) pa_nil)))
 (pss_cons (ps_asg (pv 8) (pg_sub (pv 3) (pv 7) set_list))
 (pss_cons (ps_expr (pe_bm PySem.F.plainAttrs_list PySem.F.slot_list_append PySem.F.type_list_append mt_append (pv 5) (pa_cons (pe_tup (pa_cons (pv 8) (pa_cons (pe_op op_add (pv 9) pe_int) pa_nil))) pa_nil)))
 (pss_one (ps_expr (pe_bm PySem.F.plainAttrs_list PySem.F.slot_list_append PySem.F.type_list_append mt_append (pv 5) (pa_cons (pe_tup (pa_cons (pv 7) (pa_cons pe_int pa_nil))) pa_nil))))))))))))))
 (pss_one (ps_ret (pe_tup (pa_cons (pv 1) (pa_cons (pv 2) (pa_cons (pv 3) pa_nil))))))))))))), _, fun ex He Hf => (sms_seq (sms_setO 1 (smo_lst (sma_cons (sm_int _) sma_nil)))
 (sms_seq (sms_setO 2 (smo_lst sma_nil))
 (sms_seq (sms_setO 3 (smo_rep (f2 := false) (SmO.sm (smo_lst (sma_cons (sm_un (f1 := false) (g' := fun i => .int (-i)) (fun _ => rfl) (sm_int _)) sma_nil))) (sm_cb (f1 := false) cbd_len (sma_cons (sm_var 0) sma_nil))))
 (sms_seq (sms_setO 4 (smo_rep (f2 := false) (SmO.sm (smo_lst (sma_cons (sm_bl _) sma_nil))) (sm_cb (f1 := false) cbd_len (sma_cons (sm_var 0) sma_nil))))
 (sms_seq (sms_setI (f2 := false) 4 (sm_bl _) (sm_int _))
 (sms_seq (sms_setO 5 (smo_lst (sma_cons (sm_tup (sma_cons (sm_int _) (sma_cons (sm_int _) sma_nil))) sma_nil)))
 (sms_seq (sms_while (smt_truO 5)
 (sms_seq (sms_pop 5 (smg_tup (smg_cons (smg_name 8) (smg_cons (smg_name 9) smg_nil))))
 (sms_seq (sms_asg (sm_ix (f2 := false) (sm_var 0) (sm_var 8)) (smg_name 6))
 (sms_seq (sms_while (smt_and (smt_t (f1 := false) (sm_op (f1 := false) (f2 := false) (opd_I0 (g' := fun i j => .bool (decide (i < j))) fun _ _ => rfl) (sm_var 9) (sm_cb (f1 := false) cbd_len (sma_cons (sm_var 6) sma_nil)))) (smt_b (f1 := false) (sm_ix (f2 := false) (sm_varO 4) (sm_ix (f2 := false) (sm_var 6) (sm_var 9)))))
 (sms_aug (f1 := false) 9 (sm_int _)))
 (sms_seq (sms_if (smt_t (f1 := false) (sm_op (f1 := false) (f2 := false) opd_eq (sm_var 9) (sm_cb (f1 := false) cbd_len (sma_cons (sm_var 6) sma_nil))))
 (sms_seq (sms_app 2 (sm_var 8))
 sms_cont)
 sms_next)
 (sms_seq (sms_asg (sm_ix (f2 := false) (sm_var 6) (sm_var 9)) (smg_name 7))
 (sms_seq (sms_setI (f2 := false) 4 (sm_bl _) (sm_var 7))
 (sms_seq (sms_app 1 (sm_var 7))
 (sms_seq (sms_setI (f2 := false) 3 (sm_var 8) (sm_var 7))
 (sms_seq (sms_app 5 (sm_tup (sma_cons (sm_var 8) (sma_cons (sm_op (f1 := false) (f2 := false) (opd_I0 (g' := fun i j => .int (i + j)) fun _ _ => rfl) (sm_var 9) (sm_int _)) sma_nil))))
 (sms_app 5 (sm_tup (sma_cons (sm_var 7) (sma_cons (sm_int _) sma_nil))))))))))))))
 (sms_frz 3 (sms_frz 2 (sms_frz 1 (sms_ret (sm_tup (sma_cons (sm_var 1) (sma_cons (sm_var 2) (sma_cons (sm_var 3) sma_nil))))))))))))))), ?_⟩
  rintro rs Φ ⟨G, rfl, hG, h⟩
  have gl := hG.few
  obtain ⟨GD, hGD⟩ : ∃ x : PyData, x = wD G := ⟨_, rfl⟩
  rw [← hGD]
  have gdl : GD = .list (G.map fun r => .list (r.map fun t : Nat => .int (t : Int))) := hGD
  refine seq_op fun N hN => ?_
  simp [le_size, lt_size, cmul_l, cpow_l, cdiv_l]
  intro a1
  refine hN _ ?_
  clear hN N
  refine seq_op fun N hN => ?_
  simp [le_size, lt_size, cmul_l, cpow_l, cdiv_l]
  intro a2
  refine hN _ ?_
  clear hN N
  refine seq_op fun N hN => ?_
  simp [gdl, le_size, lt_size, cmul_l, cpow_l, cdiv_l]
  rw [← gdl]
  have gs : G.length ≤ sizeLine := fz3 (Nat.le_trans gl (by decide))
  refine ⟨by omega, gs, ?_⟩
  intro a3
  refine hN _ ?_
  clear hN N
  refine seq_op fun N hN => ?_
  simp [gdl, le_size, lt_size, cmul_l, cpow_l, cdiv_l]
  rw [← gdl]
  refine ⟨by omega, gs, ?_⟩
  intro a4
  refine hN _ ?_
  clear hN N
  refine seq_op fun N hN => ?_
  have hi0 : ixN G.length (0 : Int) = some 0 := ixn (j := 0) (by have := hG.pos; omega)
  simp [hi0]
  rw [seen_init (by have := hG.pos; omega)]
  refine hN _ ?_
  clear hN N
  refine seq_op fun N hN => ?_
  simp [le_size, lt_size, cmul_l, cpow_l, cdiv_l]
  intro a5
  refine hN _ ?_
  clear hN N
  have hN0 : (0 : Nat) ∈ List.range G.length := List.mem_range.mpr (by have := hG.pos; omega)
  obtain ⟨DLT, hDLT⟩ : ∃ f : Wk Nat → Option R → Option R → Option R → Option R → Dl, ∀ s y6 y7 y8 y9, f s y6 y7 y8 y9 = [some (.d GD), some (.own a1 (niD s.ent)), some (.own a2 (niD s.left)), some (.own a3 (parW G.length s.log)), some (.own a4 (seenD G.length s.ent)), some (.own a5 (s.path.reverse.map tpD)), y6, y7, y8, y9] := ⟨_, fun _ _ _ _ _ => rfl⟩
  obtain ⟨I, hI⟩ : ∃ I : Nat → Dl → Prop, ∀ m δ, I m δ ↔ ∃ (n : Nat) (s : Wk Nat) (y6 y7 y8 y9 : Option R), wrun (gN G) n (winit 0) = s ∧ m = wmu (gN G) (List.range G.length) s ∧ δ = DLT s y6 y7 y8 y9 := ⟨_, fun _ _ => Iff.rfl⟩
  refine seq_op fun N hN => ?_
  refine dWhile_by I ⟨_, (hI _ _).mpr ⟨0, winit 0, none, none, none, none, rfl, rfl, by rw [hDLT]; rfl⟩⟩ fun m δ hJ => ?_
  obtain ⟨n, s, y6, y7, y8, y9, hs, rfl, rfl⟩ := (hI _ _).mp hJ
  have hw : WIn (gN G) (List.range G.length) s := hs ▸ win_run hG.tgt n (win_init hN0)
  have hk := hs ▸ wok_run n (wok_init (G := gN G) 0)
  refine ⟨fun b => b = !s.path.isEmpty, fun Ψ hΨ => ?_, fun hb => ?_, fun hb => ?_⟩
  · rw [hDLT]
    simp
    exact hΨ _ rfl
  · cases hp : s.path with
    | nil => rw [hp] at hb; cases hb
    | cons p rest =>
    obtain ⟨x, k⟩ := p
    have hx := hw.pa (x, k) (by rw [hp]; exact List.mem_cons_self ..)
    have hxl : x < G.length := List.mem_range.mp hx.1
    have hrow := hG.lt hxl
    have hN1 := hG.tgt x hx.1
    have hkl : k ≤ (gN G x).length := hx.2
    generalize hr0 : gN G x = r at hrow hN1 hkl
    refine seq_op fun N hN => ?_
    rw [hDLT, hp]
    simp [tpD]
    refine ⟨_, _, _, ⟨rfl, rfl, rfl⟩, _, rfl, rfl, _, _, rfl, _, _, rfl, rfl, hN _ ?_⟩
    clear hN N
    have er : atI (G.map fun r => PyData.list (r.map fun t : Nat => .int (t : Int))) (x : Int) = some (.list (niD r)) := atI_nat (by rw [List.getElem?_map, hrow.1]; rfl)
    refine seq_op fun N hN => ?_
    simp [gdl, er]
    rw [← gdl]
    refine hN _ ?_
    clear hN N er
    refine seq_op fun N hN => ?_
    have rl : (niD r).length = r.length := by simp [niD]
    have rat : ∀ {j t : Nat}, r[j]? = some t → atI (niD r) (j : Int) = some (.int (t : Int)) := fun {j t} e => atI_nat (by unfold niD; rw [List.getElem?_map, e]; rfl)
    obtain ⟨J, hJ2⟩ : ∃ J : Nat → Dl → Prop, ∀ m δ, J m δ ↔ ∃ (n' k' : Nat), wrun (gN G) n' (winit 0) = { s with path := (x, k') :: rest } ∧ k ≤ k' ∧ k' ≤ r.length ∧ m = r.length - k' ∧ δ = [some (R.d GD), some (R.own a1 (niD s.ent)), some (R.own a2 (niD s.left)), some (R.own a3 (parW G.length s.log)), some (R.own a4 (seenD G.length s.ent)), some (R.own a5 (rest.map tpD).reverse), some (R.d (.list (niD r))), y7, some (R.d (.int (x : Int))), some (R.d (.int (k' : Int)))] := ⟨_, fun _ _ => Iff.rfl⟩
    refine dWhile_by J ⟨_, (hJ2 _ _).mpr ⟨n, k, by rw [hs]; cases s; cases hp; rfl, Nat.le_refl _, hkl, rfl, rfl⟩⟩ fun m2 δ hJ3 => ?_
    obtain ⟨n', k', hs', hk0, hk', rfl, rfl⟩ := (hJ2 _ _).mp hJ3
    refine ⟨fun b => (b = true → ∃ t, r[k']? = some t ∧ t ∈ s.ent) ∧ (b = false → r[k']? = none ∨ ∃ t, r[k']? = some t ∧ t ∉ s.ent), fun Ψ hΨ => ?_, fun hb => ?_, fun hb => ?_⟩
    · simp [rl]
      by_cases c : k' < r.length
      · have e := List.getElem?_eq_getElem c
        generalize r[k'] = t at e
        have tl := hG.tgt x hx.1 t (by rw [hr0]; exact List.mem_of_getElem? e)
        simp [c, rat e, seen_at (List.mem_range.mp tl)]
        by_cases m : t ∈ s.ent
        · exact .inr ⟨m, hΨ _ ⟨fun _ => ⟨t, e, m⟩, fun z => (nomatch z)⟩⟩
        · exact .inl ⟨m, hΨ _ ⟨fun z => (nomatch z), fun _ => .inr ⟨t, e, m⟩⟩⟩
      · simp [c]
        exact hΨ _ ⟨fun z => (nomatch z), fun _ => .inl (List.getElem?_eq_none (by omega))⟩
    · obtain ⟨t, e, m⟩ := hb.1 rfl
      have hlt := (List.getElem?_eq_some_iff.mp e).1
      simp
      refine ⟨_, (by omega : r.length - (k' + 1) < r.length - k'), (hJ2 _ _).mpr ⟨n' + 1, k' + 1, ?_, by omega, hlt, rfl, by simp⟩⟩
      rw [wrun_succ, hs']
      exact wstep_old (G := gN G) (s := { s with path := (x, k') :: rest }) rfl (by rw [hr0]; exact e) m
    · have hb := hb.2 rfl
      have hw' : WIn (gN G) (List.range G.length) { s with path := (x, k') :: rest } := hs' ▸ win_run hG.tgt n' (win_init hN0)
      have hmu : wmu (gN G) (List.range G.length) { s with path := (x, k') :: rest } ≤ wmu (gN G) (List.range G.length) s := by
        unfold wmu
        rw [hp]
        simp only [List.map_cons, List.sum_cons]
        omega
      have hst := wmu_step List.nodup_range hG.tgt (fun q hq => (hw'.pa q hq).1) (s := { s with path := (x, k') :: rest }) rfl (hw'.pa _ (List.mem_cons_self ..)).2
      have hru : wrun (gN G) (n' + 1) (winit 0) = wstep (gN G) { s with path := (x, k') :: rest } := by rw [wrun_succ, hs']
      refine hN _ ?_
      clear hN N
      refine seq_op fun N hN => ?_
      simp [rl]
      rcases hb with e | ⟨t, e, m⟩
      · have hkk : k' = r.length := by have := List.getElem?_eq_none_iff.mp e; omega
        rw [wstep_out (G := gN G) (s := { s with path := (x, k') :: rest }) rfl (by rw [hr0]; exact e)] at hst hru
        simp [hkk]
        have hll : s.left.length ≤ G.length := by
          have h1 := hk.pm.length_eq
          rw [List.length_append] at h1
          have h3 : s.ent.length ≤ (List.range G.length).length := nodup_le hk.nd hw.ent
          rw [List.length_range] at h3
          omega
        refine ⟨fz4 (by simp [niD]; omega), _, ?_, (hI _ _).mpr ⟨n' + 1, _, some (.d (.list (niD r))), y7, some (.d (.int (x : Int))), some (.d (.int (r.length : Int))), hru, rfl, ?_⟩⟩
        · omega
        · rw [hDLT]
          simp [niD]
      · have hkk : ¬ k' = r.length := by have := (List.getElem?_eq_some_iff.mp e).1; omega
        rw [wstep_new (G := gN G) (s := { s with path := (x, k') :: rest }) rfl (by rw [hr0]; exact e) m] at hst hru
        have hki : ¬ (k' : Int) = r.length := by omega
        simp [hki]
        refine hN _ ?_
        clear hN N
        have tl := List.mem_range.mp (hN1 t (List.mem_of_getElem? e))
        have hel : s.ent.length ≤ G.length := by
          have h3 : s.ent.length ≤ (List.range G.length).length := nodup_le hk.nd hw.ent
          rw [List.length_range] at h3
          exact h3
        have hpl : rest.length ≤ G.length := by
          have h1 := hk.pm.length_eq
          rw [List.length_append, hp, List.length_map, List.length_cons] at h1
          omega
        refine seq_op fun N hN => ?_
        simp [rat e]
        refine hN _ ?_
        clear hN N
        refine seq_op fun N hN => ?_
        simp [seen_len, ixn tl]
        rw [seen_set tl]
        refine hN _ ?_
        clear hN N
        refine seq_op fun N hN => ?_
        simp
        refine ⟨fz4 (by simp [niD]; omega), hN _ ?_⟩
        clear hN N
        refine seq_op fun N hN => ?_
        simp [par_len, ixn tl]
        rw [par_snoc]
        refine hN _ ?_
        clear hN N
        refine seq_op fun N hN => ?_
        simp [le_size, lt_size, cmul_l, cpow_l, cdiv_l]
        refine ⟨fz4 (by omega), hN _ ?_⟩
        clear hN N
        simp [le_size, lt_size, cmul_l, cpow_l, cdiv_l]
        refine ⟨fz4 (by omega), _, ?_, (hI _ _).mpr ⟨n' + 1, _, some (.d (.list (niD r))), some (.d (.int (t : Int))), some (.d (.int (x : Int))), some (.d (.int (k' : Int))), hru, rfl, ?_⟩⟩
        · omega
        · rw [hDLT]
          simp [niD, tpD]
  · have hp : s.path = [] := by cases hq : s.path with
    | nil => rfl
    | cons p rest => rw [hq] at hb; cases hb
    refine hN _ ?_
    rw [hDLT]
    simp [le_size, lt_size, cmul_l, cpow_l, cdiv_l]
    exact h n s hs hp


/-! ### dominators by numbers: mathematics -/
inductive Anc (par : Nat → Nat) : Nat → Nat → Prop
  | refl (x : Nat) : Anc par x x
  | up {x v : Nat} : 0 < v → Anc par x (par v) → Anc par x v
theorem Anc.trans {par : Nat → Nat} {x y z : Nat} (h : Anc par x y) (k : Anc par y z) : Anc par x z := by
  induction k with
  | refl => exact h
  | up p _ ih => exact .up p ih
/-- numbers below n by a walk that goes deep: each one's parent, and what leads to it -/
structure DTr (n : Nat) (par : Nat → Nat) (src : Nat → List Nat) : Prop where
  lt : ∀ i, 0 < i → i < n → par i < i
  pre : ∀ i, 0 < i → i < n → Anc par (par i) (i - 1)
  fw : ∀ w, w < n → ∀ v ∈ src w, v < n ∧ (v < w → Anc par v w)
  tr : ∀ i, 0 < i → i < n → par i ∈ src i
section
variable {n : Nat} {par : Nat → Nat} {src : Nat → List Nat}
theorem Anc.le (lt : ∀ i, 0 < i → i < n → par i < i) {x v : Nat} (h : Anc par x v) : v < n → x ≤ v := by
  induction h with
  | refl => exact fun _ => Nat.le_refl _
  | up p _ ih => exact fun hv => by have := lt _ p hv; have := ih (by omega); omega
theorem Anc.up_of {x v : Nat} (h : Anc par x v) (ne : x ≠ v) : 0 < v ∧ Anc par x (par v) := by
  cases h with
  | refl => exact absurd rfl ne
  | up p k => exact ⟨p, k⟩
theorem Anc.chain (lt : ∀ i, 0 < i → i < n → par i < i) {x a v : Nat} (h : Anc par a v) : v < n → Anc par x v → x ≤ a → Anc par x a := by
  induction h with
  | refl => exact fun _ k _ => k
  | @up v p k ih =>
    intro hv hx hle
    have l1 := lt _ p hv
    have l2 := Anc.le lt k (by omega)
    exact ih (by omega) (hx.up_of (by omega)).2 hle
theorem DTr.mid (T : DTr n par src) {u : Nat} : ∀ {x y : Nat}, x < n → Anc par u x → u ≤ y → y ≤ x → Anc par u y
  | 0, y, _, h, h1, h2 => by
    have : y = 0 := by omega
    rw [this]; exact h
  | x + 1, y, hx, h, h1, h2 => by
    by_cases e : y = x + 1
    · rw [e]; exact h
    · have h3 := (h.up_of (by omega)).2
      exact DTr.mid T (x := x) (by omega) (h3.trans (T.pre (x + 1) (by omega) hx)) h1 (by omega)
/-- an edge that stays at m or behind it stays below m -/
theorem DTr.edge (T : DTr n par src) {m u v : Nat} (hu : u < n) (h : Anc par m u) (hv : v < n) (e : u ∈ src v) (hm : m ≤ v) : Anc par m v := by
  rcases Nat.lt_trichotomy u v with c | c | c
  · exact h.trans ((T.fw v hv u e).2 c)
  · rw [← c]; exact h
  · exact T.mid hu h hm (by omega)
/-- a walk from x, of one edge or more; P of all behind x -/
inductive WP (n : Nat) (src : Nat → List Nat) (x : Nat) (P : Nat → Prop) : Nat → Prop
  | one {v : Nat} : v < n → x ∈ src v → P v → WP n src x P v
  | step {u v : Nat} : WP n src x P u → v < n → u ∈ src v → P v → WP n src x P v
theorem WP.lt {x v : Nat} {P : Nat → Prop} (h : WP n src x P v) : v < n := by cases h <;> assumption
theorem WP.p {x v : Nat} {P : Nat → Prop} (h : WP n src x P v) : P v := by cases h <;> assumption
theorem WP.mono {x v : Nat} {P Q : Nat → Prop} (h : WP n src x P v) (hPQ : ∀ y, P y → Q y) : WP n src x Q v := by
  induction h with
  | one h1 h2 h3 => exact .one h1 h2 (hPQ _ h3)
  | step _ h1 h2 h3 ih => exact .step ih h1 h2 (hPQ _ h3)
/-- .. and on along the tree -/
theorem WP.down (T : DTr n par src) {x u v : Nat} {P : Nat → Prop} (h : WP n src x P u) (k : Anc par u v) : v < n → (∀ y, u ≤ y → P y) → WP n src x P v := by
  induction k with
  | refl => exact fun _ _ => h
  | up p k ih =>
    intro hv hP
    have l1 := T.lt _ p hv
    have l2 := Anc.le T.lt k (by omega)
    exact .step (ih (by omega) hP) hv (T.tr _ p hv) (hP _ (by omega))
def SPa (n : Nat) (src : Nat → List Nat) (x y : Nat) : Prop := x ∈ src y ∨ ∃ v, WP n src x (fun z => y < z) v ∧ v ∈ src y
/-- the least one on the way -/
theorem DTr.least (T : DTr n par src) {x v : Nat} {P : Nat → Prop} (h : WP n src x P v) : ∃ m, P m ∧ m < n ∧ Anc par m v ∧ WP n src x (fun z => m ≤ z) v ∧ SPa n src x m := by
  induction h with
  | @one v h1 h2 h3 => exact ⟨v, h3, h1, .refl _, .one h1 h2 (Nat.le_refl _), .inl h2⟩
  | @step u v hw h1 h2 h3 ih =>
    obtain ⟨m, k1, k0, k2, k3, k4⟩ := ih
    by_cases c : m ≤ v
    · exact ⟨m, k1, k0, T.edge hw.lt k2 h1 h2 c, .step k3 h1 h2 c, k4⟩
    · exact ⟨v, h3, h1, .refl _, .step (k3.mono fun y hy => by omega) h1 h2 (Nat.le_refl _), .inr ⟨u, k3.mono fun y hy => by omega, h2⟩⟩
theorem DTr.below (T : DTr n par src) {x v : Nat} {P : Nat → Prop} (h : WP n src x P v) (hP : ∀ y, P y → x < y) : Anc par x v := by
  induction h with
  | one h1 h2 h3 => exact (T.fw _ h1 _ h2).2 (hP _ h3)
  | step hw h1 h2 h3 ih => exact T.edge hw.lt ih h1 h2 (Nat.le_of_lt (hP _ h3))
/-- what the numbers semi are -/
structure Sem (n : Nat) (src : Nat → List Nat) (s w : Nat) : Prop where
  sp : SPa n src s w
  mn : ∀ x, SPa n src x w → s ≤ x
theorem Sem.lt (T : DTr n par src) {s w : Nat} (h : Sem n src s w) (h0 : 0 < w) (hw : w < n) : s < w := by
  have := h.mn _ (.inl (T.tr w h0 hw))
  have := T.lt w h0 hw
  omega
theorem Sem.anc (T : DTr n par src) {s w : Nat} (h : Sem n src s w) (h0 : 0 < w) (hw : w < n) : Anc par s w := by
  have hl := h.lt T h0 hw
  rcases h.sp with e | ⟨v, h1, h2⟩
  · exact (T.fw w hw s e).2 hl
  · exact T.edge h1.lt (T.below h1 fun y hy => by omega) hw h2 (by omega)
/-- the number that the turn for w finds -/
theorem sem_of (T : DTr n par src) {sm : Nat → Nat} {s w : Nat} (h0 : 0 < w) (hw : w < n) (hS : ∀ u, w < u → u < n → Sem n src (sm u) u)
    (lo : ∀ v ∈ src w, (v ≤ w → s ≤ v) ∧ (w < v → ∀ u, Anc par u v → w < u → s ≤ sm u))
    (at_ : s = w ∨ ∃ v ∈ src w, (v ≤ w ∧ s = v) ∨ (w < v ∧ ∃ u, Anc par u v ∧ w < u ∧ s = sm u)) : Sem n src s w := by
  have hp := T.tr w h0 hw
  have hpl := T.lt w h0 hw
  have hsl : s < w := by have := (lo _ hp).1 (by omega); omega
  refine ⟨?_, fun x hx => ?_⟩
  · rcases at_ with e | ⟨v, hv, ⟨_, e⟩ | ⟨hlt, u, hu, huw, e⟩⟩
    · omega
    · exact .inl (e ▸ hv)
    · have hvn := (T.fw w hw v hv).1
      have hun := Anc.le T.lt hu hvn
      have hs := hS u huw (by omega)
      have hwu : WP n src s (fun z => w < z) u := by
        rw [e]
        rcases hs.sp with q | ⟨v', q1, q2⟩
        · exact .one (by omega) q huw
        · exact .step (q1.mono fun y hy => by omega) (by omega) q2 huw
      exact .inr ⟨v, hwu.down T hu hvn fun y hy => by omega, hv⟩
  · rcases hx with hx | ⟨v, h1, h2⟩
    · by_cases c : x ≤ w
      · exact (lo x hx).1 c
      · omega
    · obtain ⟨m, k1, k0, k2, k3, k4⟩ := T.least h1
      have := (lo v h2).2 h1.p m k2 k1
      have := (hS m k1 k0).mn x k4
      omega
/-- reached from 0 without c -/
inductive RA (n : Nat) (src : Nat → List Nat) (c : Nat) : Nat → Prop
  | root : c ≠ 0 → RA n src c 0
  | step {u v : Nat} : RA n src c u → v < n → u ∈ src v → v ≠ c → RA n src c v
theorem ra_zero {v : Nat} (h : RA n src 0 v) : False := by
  induction h with
  | root h => exact h rfl
  | step _ _ _ _ ih => exact ih
theorem RA.down (T : DTr n par src) {c u v : Nat} (h : RA n src c u) (k : Anc par u v) : v < n → c < u → RA n src c v := by
  induction k with
  | refl => exact fun _ _ => h
  | up p k ih =>
    intro hv hc
    have l1 := T.lt _ p hv
    have l2 := Anc.le T.lt k (by omega)
    exact .step (ih (by omega) hc) hv (T.tr _ p hv) (by omega)
theorem ra_low (T : DTr n par src) {c : Nat} : ∀ y, y < c → y < n → RA n src c y := by
  intro y
  induction y using Nat.strongRecOn with
  | _ y ih =>
    intro hc hn
    by_cases e : y = 0
    · rw [e]; exact .root (by omega)
    · have l1 := T.lt y (by omega) hn
      exact .step (ih _ l1 (by omega) (by omega)) hn (T.tr y (by omega) hn) (by omega)
theorem WP.ra {c x v : Nat} {P : Nat → Prop} (h : WP n src x P v) (hx : RA n src c x) (hP : ∀ y, P y → y ≠ c) : RA n src c v := by
  induction h with
  | one h1 h2 h3 => exact .step hx h1 h2 (hP _ h3)
  | step _ h1 h2 h3 ih => exact .step ih h1 h2 (hP _ h3)
/-- none between semi w and w is on every way -/
theorem Sem.free (T : DTr n par src) {s w : Nat} (h : Sem n src s w) (h0 : 0 < w) (hw : w < n) {x : Nat} (h1 : s < x) (h2 : x < w) : RA n src x w := by
  have hl := h.lt T h0 hw
  have hs := ra_low T (c := x) s h1 (by omega)
  rcases h.sp with e | ⟨v, k1, k2⟩
  · exact .step hs hw e (by omega)
  · exact .step (k1.ra hs fun y hy => by omega) hw k2 (by omega)
/-- the core: s below w; x below s; the first one y of the chain from s to w -/
theorem DTr.core (T : DTr n par src) {s w x v : Nat} (hv : v < n) (hC : s ≤ v ∧ Anc par v w) (h : x ∈ src v ∨ ∃ u, WP n src x (fun y => s ≤ y ∧ ¬ (s ≤ y ∧ Anc par y w)) u ∧ u ∈ src v) : SPa n src x v := by
  rcases h with e | ⟨u, h1, h2⟩
  · exact .inl e
  · obtain ⟨m, k1, k0, k2, k3, k4⟩ := T.least h1
    by_cases c : m ≤ v
    · exact absurd ⟨k1.1, (T.edge h1.lt k2 hv h2 c).trans hC.2⟩ k1.2
    · exact .inr ⟨u, k3.mono fun y hy => by omega, h2⟩
/-- what is reached without c: no one of the chain, unless the promise breaks -/
theorem DTr.walk (T : DTr n par src) {c w : Nat} (hc : 0 < c) (bad : ∀ v x, v < n → c < v → Anc par v w → x < c → SPa n src x v → RA n src c v → False) {v : Nat} (h : RA n src c v) :
    ¬ (c ≤ v ∧ Anc par v w) ∧ (v < c ∨ ∃ x, x < c ∧ WP n src x (fun y => c ≤ y ∧ ¬ (c ≤ y ∧ Anc par y w)) v) := by
  induction h with
  | root _ => exact ⟨fun z => by omega, .inl hc⟩
  | @step u v hu hv e hne ih =>
    by_cases l : v < c
    · exact ⟨fun z => by omega, .inl l⟩
    · have hcv : c < v := by omega
      obtain ⟨x, hx, hw⟩ : ∃ x, x < c ∧ (x ∈ src v ∨ ∃ u, WP n src x (fun y => c ≤ y ∧ ¬ (c ≤ y ∧ Anc par y w)) u ∧ u ∈ src v) := by
        rcases ih.2 with q | ⟨x, q1, q2⟩
        · exact ⟨u, q, .inl e⟩
        · exact ⟨x, q1, .inr ⟨u, q2, e⟩⟩
      have nC : ¬ (c ≤ v ∧ Anc par v w) := fun z => bad v x hv hcv z.2 hx (T.core hv z hw) (.step hu hv e hne)
      refine ⟨nC, .inr ⟨x, hx, ?_⟩⟩
      rcases hw with q | ⟨u', q1, q2⟩
      · exact .one hv q ⟨by omega, nC⟩
      · exact .step q1 hv q2 ⟨by omega, nC⟩
/-- the nearest one on every way -/
structure IsId (n : Nat) (src : Nat → List Nat) (d w : Nat) : Prop where
  lt : d < w
  dom : ¬ RA n src d w
  none : ∀ x, d < x → x < w → RA n src x w
theorem id_semi (T : DTr n par src) {sm : Nat → Nat} (hS : ∀ u, 0 < u → u < n → Sem n src (sm u) u) {w : Nat} (h0 : 0 < w) (hw : w < n) (hm : ∀ u, Anc par u w → sm w < u → sm w ≤ sm u) : IsId n src (sm w) w := by
  have hs := hS w h0 hw
  refine ⟨hs.lt T h0 hw, fun hr => ?_, fun x h1 h2 => hs.free T h0 hw h1 h2⟩
  by_cases z : sm w = 0
  · rw [z] at hr; exact ra_zero hr
  · have := T.walk (w := w) (by omega) (fun v x hv hcv ha hx hsp _ => by
      have a1 := (hS v (by omega) hv).mn x hsp
      have a2 := hm v ha hcv
      omega) hr
    exact this.1 ⟨Nat.le_of_lt (hs.lt T h0 hw), .refl _⟩
theorem id_of (T : DTr n par src) {sm : Nat → Nat} (hS : ∀ u, 0 < u → u < n → Sem n src (sm u) u) {w u d : Nat} (h0 : 0 < w) (hw : w < n) (ha : Anc par u w) (hsu : sm w < u) (hm : ∀ y, Anc par y w → sm w < y → sm u ≤ sm y) (hlt : sm u < sm w) (hd : IsId n src d u) : IsId n src d w := by
  have hs := hS w h0 hw
  have huw := Anc.le T.lt ha hw
  have hu := hS u (by omega) (by omega)
  have hdl : d ≤ sm u := by
    by_cases c : d ≤ sm u
    · exact c
    · exact absurd (hu.free T (by omega) (by omega) (x := d) (by omega) hd.lt) hd.dom
  refine ⟨by have := hd.lt; omega, fun hr => ?_, fun x h1 h2 => ?_⟩
  · by_cases z : d = 0
    · rw [z] at hr; exact ra_zero hr
    · have := T.walk (w := w) (by omega) (fun v x hv hcv hav hx hsp hra => by
        have a1 := (hS v (by omega) hv).mn x hsp
        by_cases c : sm w < v
        · have a2 := hm v hav c
          omega
        · exact hd.dom (hra.down T (Anc.chain T.lt ha hw hav (by omega)) (by omega) hcv)) hr
      exact this.1 ⟨by have := hd.lt; omega, .refl _⟩
  · by_cases c : sm w < x
    · exact hs.free T h0 hw c h2
    · exact (hd.none x h1 (by omega)).down T ha hw (by omega)
end


/-! ### the forest: an instance and its three lists -/
def ic (xs : List Int) : Cell := .l (xs.map fun i => .d (.int i))
def frM (F f dx s a b : Addr) (S A B : List Int) : Sto := [(f, .I F dx [("semi", .r s), ("above", .r a), ("best", .r b)]), (s, ic S), (a, ic A), (b, ic B)]
structure FN (f s a b : Addr) : Prop where
  fs : f ≠ s
  fa : f ≠ a
  fb : f ≠ b
  sa : s ≠ a
  sb : s ≠ b
  ab : a ≠ b
theorem frM_nd {F f dx s a b : Addr} {S A B : List Int} : ((frM F f dx s a b S A B).map (·.1)).Nodup ↔ FN f s a b := by
  simp [frM]
  constructor
  · rintro ⟨⟨h1, h2, h3⟩, ⟨h4, h5⟩, h6⟩
    exact ⟨h1, h2, h3, h4, h5, h6⟩
  · rintro ⟨h1, h2, h3, h4, h5, h6⟩
    exact ⟨⟨h1, h2, h3⟩, ⟨h4, h5⟩, h6⟩
section
variable {F f dx s a b : Addr} {S A B X : List Int}
theorem fr_f : (frM F f dx s a b S A B).at f = some (.I F dx [("semi", .r s), ("above", .r a), ("best", .r b)]) := by unfold frM; rw [sat_cons, if_pos rfl]
theorem fr_s (h : FN f s a b) : (frM F f dx s a b S A B).at s = some (ic S) := by unfold frM; rw [sat_cons, if_neg h.fs, sat_cons, if_pos rfl]
theorem fr_a (h : FN f s a b) : (frM F f dx s a b S A B).at a = some (ic A) := by unfold frM; rw [sat_cons, if_neg h.fa, sat_cons, if_neg h.sa, sat_cons, if_pos rfl]
theorem fr_b (h : FN f s a b) : (frM F f dx s a b S A B).at b = some (ic B) := by unfold frM; rw [sat_cons, if_neg h.fb, sat_cons, if_neg h.sb, sat_cons, if_neg h.ab, sat_cons, if_pos rfl]
theorem fr_ps (h : FN f s a b) : (frM F f dx s a b S A B).put s (ic X) = frM F f dx s a b X A B := by
  have := h.fs; have := h.sa.symm; have := h.sb.symm
  unfold frM Sto.put
  simp [*]
theorem fr_pa (h : FN f s a b) : (frM F f dx s a b S A B).put a (ic X) = frM F f dx s a b S X B := by
  have := h.fa; have := h.sa; have := h.ab.symm
  unfold frM Sto.put
  simp [*]
theorem fr_pb (h : FN f s a b) : (frM F f dx s a b S A B).put b (ic X) = frM F f dx s a b S A X := by
  have := h.fb; have := h.sb; have := h.ab
  unfold frM Sto.put
  simp [*]
end
theorem lk_semi (s a b : Addr) : List.lookup ("semi" : Str) [(("semi" : Str), CV.r s), ("above", .r a), ("best", .r b)] = some (.r s) := by simp [List.lookup]
theorem lk_above (s a b : Addr) : List.lookup ("above" : Str) [(("semi" : Str), CV.r s), ("above", .r a), ("best", .r b)] = some (.r a) := by
  have : (("above" : Str) == "semi") = false := by decide +kernel
  simp [List.lookup, this]
theorem lk_best (s a b : Addr) : List.lookup ("best" : Str) [(("semi" : Str), CV.r s), ("above", .r a), ("best", .r b)] = some (.r b) := by
  have : (("best" : Str) == "semi") = false := by decide +kernel
  have : (("best" : Str) == "above") = false := by decide +kernel
  simp [List.lookup, *]
theorem lk_shorten (s a b : Addr) : List.lookup ("shorten" : Str) [(("semi" : Str), CV.r s), ("above", .r a), ("best", .r b)] = none := by
  have : (("shorten" : Str) == "semi") = false := by decide +kernel
  have : (("shorten" : Str) == "above") = false := by decide +kernel
  have : (("shorten" : Str) == "best") = false := by decide +kernel
  simp [List.lookup, *]
theorem lk_lowest (s a b : Addr) : List.lookup ("lowest" : Str) [(("semi" : Str), CV.r s), ("above", .r a), ("best", .r b)] = none := by
  have : (("lowest" : Str) == "semi") = false := by decide +kernel
  have : (("lowest" : Str) == "above") = false := by decide +kernel
  have : (("lowest" : Str) == "best") = false := by decide +kernel
  simp [List.lookup, *]
theorem ic_at {xs : List Int} {v : Nat} {i : Int} (h : xs[v]? = some i) : atI (xs.map fun i => CV.d (.int i)) (v : Int) = some (.d (.int i)) := atI_nat (by rw [List.getElem?_map, h]; rfl)
theorem ic_set (xs : List Int) (v : Nat) (i : Int) : (xs.map fun i => CV.d (.int i)).set v (.d (.int i)) = (xs.set v i).map fun i => CV.d (.int i) := by rw [List.map_set]
def upD (n : Nat) : List Int := (List.range n).map fun k : Nat => (k : Int)
def vp_Forest___init__ (F : Addr) : VSpM := fun u m rs Φ => ∃ (f dx : Addr) (n : Nat), u = .ref f ∧ m = [(f, .I F dx [])] ∧ rs = [.d (.int n)] ∧ n ≤ 1000 ∧ ∀ s a b : Addr, Φ (frM F f dx s a b (upD n) (List.replicate n (-1)) (upD n)) .none
theorem G_Forest___init__ (T : Txt K mg) : FnOk P w K mg base CX0 1 T.f_Forest___init__ T.fd_Forest___init__ ["self", "count"] (toSpM K 2 (vp_Forest___init__ T.C_Forest)) := by
  refine fn_okM T.F_Forest___init__ sc_Forest___init__ fun cdv A outer s H E hr => ⟨_, (pss_cons (ps_fld (pv 0) (pe_listRg rfl (by rfl) T.list (prg_1 (by rfl) T.range (pv 1))) rfl)
 (pss_cons (ps_fld (pv 0) (pe_op op_rep (pe_lst (pa_cons (pe_un un_neg pe_int) pa_nil)) (pv 1)) rfl)
 (pss_one (ps_fld (pv 0) (pe_listRg rfl (by rfl) T.list (prg_1 (by rfl) T.range (pv 1))) rfl)))), _, fun ex He Hf => (sms_seq (sms_fldV 0 T.cl_Forest T.n_Forest_semi (smx_new 0 (smo_listRg (f1 := false) (sm_var 1))) (smv_var 0))
 (sms_seq (sms_fldV 0 T.cl_Forest T.n_Forest_above (smx_new 0 (smo_rep (f2 := false) (SmO.sm (smo_lst (sma_cons (sm_un (f1 := false) (g' := fun i => .int (-i)) (fun _ => rfl) (sm_int _)) sma_nil))) (sm_var 1))) (smv_var 0))
 (sms_fldV 0 T.cl_Forest T.n_Forest_best (smx_new 0 (smo_listRg (f1 := false) (sm_var 1))) (smv_var 0)))), ?_⟩
  rintro u m rs Φ nd ⟨f, dx, n, rfl, rfl, rfl, hn, h⟩
  have ns : n ≤ sizeLine := fz3 (by omega)
  have er : rng 0 n = (upD n).map PyData.int := by unfold rng upD; rw [List.map_map]; refine List.map_congr_left fun k _ => ?_; simp
  have p1 : ∀ s c, s ≠ f → Sto.put [(f, Cell.I T.C_Forest dx []), (s, c)] f (.I T.C_Forest dx (putC "semi" (.r s) [])) = [(f, .I T.C_Forest dx [("semi", .r s)]), (s, c)] := fun s c hs => by simp [Sto.put, putC, hs]
  refine seq_op fun N hN => ?_
  simp [sat_cons]
  refine ⟨n, rfl, by omega, fun s hs => ?_⟩
  rw [p1 s _ hs, er]
  refine hN _ ?_
  clear hN N
  have p2 : ∀ a c c2, a ≠ f → s ≠ f → Sto.put [(f, Cell.I T.C_Forest dx [("semi", .r s)]), (s, c), (a, c2)] f (.I T.C_Forest dx (putC "above" (.r a) [("semi", .r s)])) = [(f, .I T.C_Forest dx [("semi", .r s), ("above", .r a)]), (s, c), (a, c2)] := fun a c c2 ha hs => by
    have : ¬ ("semi" : Str) = "above" := by decide +kernel
    simp [Sto.put, putC, hs, ha, this]
  refine seq_op fun N hN => ?_
  simp [sat_cons, le_size, lt_size, cmul_l, cpow_l, cdiv_l]
  refine ⟨by omega, ns, fun a haf has => ?_⟩
  rw [p2 a _ _ haf hs]
  refine hN _ ?_
  clear hN N
  have p3 : ∀ b c c2 c3, b ≠ f → a ≠ f → s ≠ f → Sto.put [(f, Cell.I T.C_Forest dx [("semi", .r s), ("above", .r a)]), (s, c), (a, c2), (b, c3)] f (.I T.C_Forest dx (putC "best" (.r b) [("semi", .r s), ("above", .r a)])) = [(f, .I T.C_Forest dx [("semi", .r s), ("above", .r a), ("best", .r b)]), (s, c), (a, c2), (b, c3)] := fun b c c2 c3 hb ha hs => by
    have : ¬ ("semi" : Str) = "best" := by decide +kernel
    have : ¬ ("above" : Str) = "best" := by decide +kernel
    simp [Sto.put, putC, *]
  simp [sat_cons]
  refine ⟨n, rfl, by omega, fun b hbf hbs hba => ?_⟩
  rw [p3 b _ _ _ hbf haf hs, er]
  have := h s a b
  unfold frM ic at this
  simp at this ⊢
  exact this


/-! ### the forest's promise -/
/-- the number at v -/
def sAt (S : List Int) (v : Nat) : Int := S.getD v 0
theorem sAt_of {S : List Int} {v : Nat} {i : Int} (h : S[v]? = some i) : sAt S v = i := by unfold sAt; rw [List.getD_eq_getElem?_getD, h]; rfl
theorem sAt_at {S : List Int} {v : Nat} (h : v < S.length) : S[v]? = some (sAt S v) := by
  have := List.getElem?_eq_getElem h
  rw [sAt_of this]
  exact this
/-- a above v, u the least one of those from below a down to v -/
structure Arc (par : Nat → Nat) (S : List Int) (c a u v : Nat) : Prop where
  lt : a < v
  up : Anc par a v
  an : Anc par u v
  au : a < u
  mn : ∀ x, Anc par x v → a < x → c ≤ x ∧ sAt S u ≤ sAt S x
structure FI (n : Nat) (par : Nat → Nat) (c : Nat) (S A B : List Int) : Prop where
  ls : S.length = n
  la : A.length = n
  lb : B.length = n
  un : ∀ v, v < c → v < n → A[v]? = some (-1)
  ub : ∀ v, v < c → v < n → B[v]? = some (v : Int)
  ln : ∀ v, c ≤ v → v < n → ∃ a u : Nat, A[v]? = some (a : Int) ∧ B[v]? = some (u : Int) ∧ Arc par S c a u v
section
variable {n c : Nat} {par : Nat → Nat} {S A B : List Int}
/-- x hangs from q, q from r: x is hung from r -/
theorem FI.over (lt : ∀ i, 0 < i → i < n → par i < i) (h : FI n par c S A B) {x q r : Nat} {ux uq : Nat} (hx : c ≤ x) (hxn : x < n) (ax : A[x]? = some (q : Int)) (bx : B[x]? = some (ux : Int)) (hq : c ≤ q) (aq : A[q]? = some (r : Int)) (bq : B[q]? = some (uq : Int)) :
    FI n par c S (A.set x r) (if sAt S uq < sAt S ux then B.set x uq else B) := by
  obtain ⟨q', u', e1, e2, k⟩ := h.ln x hx hxn
  rw [ax] at e1
  rw [bx] at e2
  obtain rfl : q = q' := by have := Option.some.inj e1; omega
  obtain rfl : ux = u' := by have := Option.some.inj e2; omega
  have hqn : q < n := by have := k.lt; omega
  obtain ⟨r', u'', e3, e4, kq⟩ := h.ln q hq hqn
  rw [aq] at e3
  rw [bq] at e4
  obtain rfl : r = r' := by have := Option.some.inj e3; omega
  obtain rfl : uq = u'' := by have := Option.some.inj e4; omega
  have hl2 : (if sAt S uq < sAt S ux then B.set x uq else B).length = n := by split <;> simp [h.lb]
  have mnx : ∀ (w : Nat), sAt S w ≤ sAt S ux → sAt S w ≤ sAt S uq → ∀ y, Anc par y x → r < y → c ≤ y ∧ sAt S w ≤ sAt S y := fun w h1 h2 y hy hr => by
    by_cases z : q < y
    · have := k.mn y hy z
      exact ⟨this.1, by omega⟩
    · have hyq := Anc.chain lt k.up hxn hy (by omega)
      have := kq.mn y hyq hr
      exact ⟨this.1, by omega⟩
  refine ⟨h.ls, by rw [List.length_set]; exact h.la, hl2, fun v hv hvn => ?_, fun v hv hvn => ?_, fun v hv hvn => ?_⟩
  · rw [List.getElem?_set_ne (by omega)]
    exact h.un v hv hvn
  · split
    · rw [List.getElem?_set_ne (by omega)]
      exact h.ub v hv hvn
    · exact h.ub v hv hvn
  · by_cases e : x = v
    · subst e
      have e1 : (A.set x (r : Int))[x]? = some (r : Int) := List.getElem?_set_self (by rw [h.la]; exact hxn)
      by_cases z : sAt S uq < sAt S ux
      · refine ⟨r, uq, e1, by rw [if_pos z]; exact List.getElem?_set_self (by rw [h.lb]; exact hxn), by have := k.lt; have := kq.lt; omega, kq.up.trans k.up, kq.an.trans k.up, kq.au, mnx uq (by omega) (Int.le_refl _)⟩
      · refine ⟨r, ux, e1, by rw [if_neg z]; exact bx, by have := k.lt; have := kq.lt; omega, kq.up.trans k.up, k.an, by have := k.au; have := kq.lt; omega, mnx ux (Int.le_refl _) (by omega)⟩
    · obtain ⟨a, u, f1, f2, f3⟩ := h.ln v hv hvn
      refine ⟨a, u, by rw [List.getElem?_set_ne e]; exact f1, ?_, f3⟩
      split
      · rw [List.getElem?_set_ne e]; exact f2
      · exact f2
end
/-- the way up: each one's above is the next one, the last one's q -/
inductive Ch (A : List Int) : List Nat → Nat → Prop
  | nil {q : Nat} : Ch A [] q
  | snoc {ps : List Nat} {x q : Nat} : Ch A ps x → A[x]? = some (q : Int) → q < x → Ch A (ps ++ [x]) q
theorem Ch.big {A : List Int} {ps : List Nat} {q : Nat} (h : Ch A ps q) : ∀ x ∈ ps, q < x := by
  induction h with
  | nil => intro x hx; cases hx
  | snoc h e l ih =>
    intro y hy
    rcases List.mem_append.mp hy with hy | hy
    · have := ih y hy; omega
    · rw [List.mem_singleton.mp hy]; exact l
theorem Ch.inv {A : List Int} {ps : List Nat} {x q : Nat} (h : Ch A (ps ++ [x]) q) : Ch A ps x ∧ A[x]? = some (q : Int) ∧ q < x := by
  generalize hl : ps ++ [x] = l at h
  cases h with
  | nil => simp at hl
  | snoc h e l =>
    have := List.append_inj' hl rfl
    obtain ⟨rfl, e2⟩ := this
    have e2 := List.singleton_inj.mp e2
    subst e2
    exact ⟨h, e, l⟩
theorem Ch.set {A : List Int} {ps : List Nat} {q x : Nat} {i : Int} (h : Ch A ps q) (hx : ∀ y ∈ ps, y ≠ x) : Ch (A.set x i) ps q := by
  induction h with
  | nil => exact .nil
  | snoc h e l ih =>
    refine .snoc (ih fun y hy => hx y (List.mem_append_left _ hy)) ?_ l
    rw [List.getElem?_set_ne (fun z => hx _ (List.mem_append_right _ (List.mem_singleton.mpr rfl)) z.symm)]
    exact e
def vp_Forest_shorten (F : Addr) : VSpM := fun u m rs Φ => ∃ (f dx s a b : Addr) (n c : Nat) (par : Nat → Nat) (S A B : List Int) (p : Nat), u = .ref f ∧ m = frM F f dx s a b S A B ∧ rs = [.d (.int p)] ∧ (∀ i, 0 < i → i < n → par i < i) ∧ n ≤ 1000 ∧ FI n par c S A B ∧ c ≤ p ∧ p < n ∧
  ∀ A' B' r, FI n par c S A' B' → A'[p]? = some r → r < c → Φ (frM F f dx s a b S A' B') .none
theorem G_Forest_shorten (T : Txt K mg) : FnOk P w K mg base CX0 1 T.f_Forest_shorten T.fd_Forest_shorten ["self", "place"] (toSpM K 2 (vp_Forest_shorten T.C_Forest)) := by
  refine fn_okM T.F_Forest_shorten sc_Forest_shorten fun cdv A outer s H E hr => ⟨_, (pss_cons (ps_set (i := 2) sc_Forest_shorten.nd rfl (Or.inl rfl) (pe_lst pa_nil))
 (pss_cons (ps_while PassesOwn.never (pt_cmpR op_ge (pe_ix (kx_seq (K := K) rfl) (pe_fld (pv 0) rfl) (pe_ix (kx_seq (K := K) rfl) (pe_fld (pv 0) rfl) (pv 1) (fun _ _ => rfl)) (fun _ _ => rfl)) pe_int (nomark _)) (pss_cons (ps_expr (pe_bm PySem.F.plainAttrs_list PySem.F.slot_list_append PySem.F.type_list_append mt_append (pv 2) (pa_cons (pv 1) pa_nil)))
 (pss_one (ps_set (i := 1) sc_Forest_shorten.nd rfl (Or.inl rfl) (pe_ix (kx_seq (K := K) rfl) (pe_fld (pv 0) rfl) (pv 1) (fun _ _ => rfl))))))
 (pss_one (ps_while PassesOwn.never (pt_truth (pv 2) (by intro _; rfl)) (pss_cons (ps_set (i := 1) sc_Forest_shorten.nd rfl (Or.inl rfl) (pe_bm0 PySem.F.plainAttrs_list PySem.F.slot_list_pop PySem.F.type_list_pop mt_pop (pv 2)))
 (pss_cons (ps_set (i := 3) sc_Forest_shorten.nd rfl (Or.inl rfl) (pe_ix (kx_seq (K := K) rfl) (pe_fld (pv 0) rfl) (pv 1) (fun _ _ => rfl)))
 (pss_cons (ps_if (pt_cmpR op_lt (pe_ix (kx_seq (K := K) rfl) (pe_fld (pv 0) rfl) (pe_ix (kx_seq (K := K) rfl) (pe_fld (pv 0) rfl) (pv 3) (fun _ _ => rfl)) (fun _ _ => rfl)) (pe_ix (kx_seq (K := K) rfl) (pe_fld (pv 0) rfl) (pe_ix (kx_seq (K := K) rfl) (pe_fld (pv 0) rfl) (pv 1) (fun _ _ => rfl)) (fun _ _ => rfl)) (nomark _)) (pss_one (ps_asg (pe_ix (kx_seq (K := K) rfl) (pe_fld (pv 0) rfl) (pv 3) (fun _ _ => rfl)) (pg_sub (pe_fld (pv 0) rfl) (pv 1) set_list))) pss_nil)
 (pss_one (ps_asg (pe_ix (kx_seq (K := K) rfl) (pe_fld (pv 0) rfl) (pv 3) (fun _ _ => rfl)) (pg_sub (pe_fld (pv 0) rfl) (pv 1) set_list)))))))))), _, fun ex He Hf => (sms_seq (sms_setO 2 (smo_lst sma_nil))
 (sms_seq (sms_while (smt_t (f1 := false) (sm_op (f1 := false) (f2 := false) (opd_I0 (g' := fun i j => .bool (decide (j ≤ i))) fun _ _ => rfl) (SmV.sm (smv_ix (f2 := false) 0 (smv_fld 0 T.cl_Forest T.n_Forest_above (smv_var 0)) (SmV.sm (smv_ix (f2 := false) 0 (smv_fld 0 T.cl_Forest T.n_Forest_above (smv_var 0)) (sm_var 1))))) (sm_int _)))
 (sms_seq (sms_app 2 (sm_var 1))
 (sms_asg (SmV.sm (smv_ix (f2 := false) 0 (smv_fld 0 T.cl_Forest T.n_Forest_above (smv_var 0)) (sm_var 1))) (smg_name 1))))
 (sms_while (smt_truO 2)
 (sms_seq (sms_pop 2 (smg_name 1))
 (sms_seq (sms_asg (SmV.sm (smv_ix (f2 := false) 0 (smv_fld 0 T.cl_Forest T.n_Forest_above (smv_var 0)) (sm_var 1))) (smg_name 3))
 (sms_seq (sms_if (smt_t (f1 := false) (sm_op (f1 := false) (f2 := false) (opd_I0 (g' := fun i j => .bool (decide (i < j))) fun _ _ => rfl) (SmV.sm (smv_ix (f2 := false) 0 (smv_fld 0 T.cl_Forest T.n_Forest_semi (smv_var 0)) (SmV.sm (smv_ix (f2 := false) 0 (smv_fld 0 T.cl_Forest T.n_Forest_best (smv_var 0)) (sm_var 3))))) (SmV.sm (smv_ix (f2 := false) 0 (smv_fld 0 T.cl_Forest T.n_Forest_semi (smv_var 0)) (SmV.sm (smv_ix (f2 := false) 0 (smv_fld 0 T.cl_Forest T.n_Forest_best (smv_var 0)) (sm_var 1)))))))
 (sms_setIV (f2 := false) 0 (SmV.x (smv_ix (f2 := false) 0 (smv_fld 0 T.cl_Forest T.n_Forest_best (smv_var 0)) (sm_var 3))) (smv_fld 0 T.cl_Forest T.n_Forest_best (smv_var 0)) (sm_var 1))
 sms_next)
 (sms_setIV (f2 := false) 0 (SmV.x (smv_ix (f2 := false) 0 (smv_fld 0 T.cl_Forest T.n_Forest_above (smv_var 0)) (sm_var 3))) (smv_fld 0 T.cl_Forest T.n_Forest_above (smv_var 0)) (sm_var 1)))))))), ?_⟩
  rintro u m rs Φ nd ⟨f, dx, s, a, b, n, c, par, S, A, B, p, rfl, rfl, rfl, lt, hn, hF, hcp, hpn, h⟩
  have FN := frM_nd.mp nd
  have hf := @fr_f T.C_Forest f dx s a b
  have hs := fun S A B => @fr_s T.C_Forest f dx s a b S A B FN
  have ha := fun S A B => @fr_a T.C_Forest f dx s a b S A B FN
  have hb := fun S A B => @fr_b T.C_Forest f dx s a b S A B FN
  refine seq_op fun N hN => ?_
  simp [le_size, lt_size, cmul_l, cpow_l, cdiv_l]
  intro pa
  refine hN _ ?_
  clear hN N
  obtain ⟨M, hM⟩ : ∃ M : List Int → List Int → Sto, ∀ A B, M A B = frM T.C_Forest f dx s a b S A B := ⟨_, fun _ _ => rfl⟩
  obtain ⟨g, hg⟩ : ∃ g : List Int → List CV, ∀ xs, g xs = xs.map fun i => CV.d (.int i) := ⟨_, fun _ => rfl⟩
  have gat : ∀ {xs : List Int} {v : Nat} {i : Int}, xs[v]? = some i → atI (g xs) (v : Int) = some (.d (.int i)) := fun {xs v i} e => by rw [hg]; exact ic_at e
  have gset : ∀ (xs : List Int) (v : Nat) (i : Int), (g xs).set v (.d (.int i)) = g (xs.set v i) := fun xs v i => by rw [hg, hg]; exact ic_set xs v i
  have glen : ∀ xs, (g xs).length = xs.length := fun xs => by rw [hg, List.length_map]
  have hf : ∀ A B, (M A B).at f = some (.I T.C_Forest dx [("semi", .r s), ("above", .r a), ("best", .r b)]) := fun A B => by rw [hM]; exact fr_f
  have hs : ∀ A B, (M A B).at s = some (.l (g S)) := fun A B => by rw [hM, hg]; exact fr_s FN
  have ha : ∀ A B, (M A B).at a = some (.l (g A)) := fun A B => by rw [hM, hg]; exact fr_a FN
  have hb : ∀ A B, (M A B).at b = some (.l (g B)) := fun A B => by rw [hM, hg]; exact fr_b FN
  have hpa : ∀ A B X, (M A B).put a (.l (g X)) = M X B := fun A B X => by rw [hM, hM, hg]; exact fr_pa FN
  have hpb : ∀ A B X, (M A B).put b (.l (g X)) = M A X := fun A B X => by rw [hM, hM, hg]; exact fr_pb FN
  have l1 := lk_semi s a b
  have l2 := lk_above s a b
  have l3 := lk_best s a b
  simp only [← hM] at h ⊢
  have go : ∀ {A B : List Int} {v : Nat}, FI n par c S A B → c ≤ v → v < n → ∃ q ux : Nat, A[v]? = some (q : Int) ∧ B[v]? = some (ux : Int) ∧ q < v ∧ ux ≤ v := fun {A B v} hF h1 h2 => by
    obtain ⟨q, ux, e1, e2, k⟩ := hF.ln v h1 h2
    exact ⟨q, ux, e1, e2, k.lt, Anc.le lt k.an h2⟩
  refine seq_by (fun δ => ∃ (ps : List Nat) (q r : Nat) (y3 : Option R), Ch A ps q ∧ ps.head?.getD q = p ∧ (∀ x ∈ ps ++ [q], c ≤ x ∧ x < n) ∧ A[q]? = some (r : Int) ∧ r < c ∧ ps.length ≤ n ∧ δ = [some (.reg (.ref f) (M A B)), some (.d (.int (q : Int))), some (.own pa (niD ps)), y3]) (fun δ hI => ?_) (fun N hN => ?_)
  rotate_left
  · obtain ⟨I, hI⟩ : ∃ I : Nat → Dl → Prop, ∀ k δ, I k δ ↔ ∃ (ps : List Nat) (q : Nat) (y3 : Option R), k = q ∧ Ch A ps q ∧ ps.head?.getD q = p ∧ (∀ x ∈ ps ++ [q], c ≤ x ∧ x < n) ∧ ps.length + q ≤ n ∧ δ = [some (.reg (.ref f) (M A B)), some (.d (.int (q : Int))), some (.own pa (niD ps)), y3] := ⟨_, fun _ _ => Iff.rfl⟩
    refine dWhile_by I ⟨p, (hI _ _).mpr ⟨[], p, none, rfl, .nil, rfl, fun x hx => by cases List.mem_singleton.mp hx; exact ⟨hcp, hpn⟩, by simp; omega, rfl⟩⟩ fun k δ hJ => ?_
    obtain ⟨ps, q, y3, rfl, hch, hhd, hin, hlen, rfl⟩ := (hI _ _).mp hJ
    have hq := hin k (by simp)
    obtain ⟨q', ux, e1, e2, e3, e4⟩ := go hF hq.1 hq.2
    have hq'n : q' < A.length := by rw [hF.la]; omega
    have hA2 : A[q']? = some (sAt A q') := sAt_at hq'n
    refine ⟨fun t => t = decide (0 ≤ sAt A q'), fun Ψ hΨ => ?_, fun ht => ?_, fun ht => ?_⟩
    · simp [hf, ha, l2, gat e1, gat hA2]
      simpa using hΨ _ rfl
    · have h0 : 0 ≤ sAt A q' := by simpa using ht
      have hcq : c ≤ q' := by
        by_cases z : c ≤ q'
        · exact z
        · have := hF.un q' (by omega) (by omega)
          have := sAt_of this
          omega
      have hpl : ps.length < sizeLine := fz4 (by omega)
      refine seq_op fun N2 hN2 => ?_
      simp [niD]
      refine ⟨hpl, hN2 _ ?_⟩
      clear hN2 N2
      simp [hf, ha, l2, gat e1]
      refine ⟨q', e3, (hI _ _).mpr ⟨ps ++ [k], q', y3, rfl, .snoc hch e1 e3, ?_, fun x hx => ?_, by rw [List.length_append, List.length_singleton]; omega, by simp [niD]⟩⟩
      · cases ps with
        | nil => simpa using hhd
        | cons z ps => simpa using hhd
      · rcases List.mem_append.mp hx with hx | hx
        · exact hin x hx
        · cases List.mem_singleton.mp hx; exact ⟨hcq, by omega⟩
    · have h0 : ¬ 0 ≤ sAt A q' := by simpa using ht
      have hcq : q' < c := by
        by_cases z : c ≤ q'
        · obtain ⟨q2, _, f1, _⟩ := go hF z (by omega)
          have := sAt_of f1
          omega
        · omega
      exact hN _ ⟨ps, k, q', y3, hch, hhd, hin, e1, hcq, by omega, rfl⟩
  obtain ⟨ps, q, r, y3, hch, hhd, hin, hAq, hrc, hpl, rfl⟩ := hI
  obtain ⟨I, hI⟩ : ∃ I : Nat → Dl → Prop, ∀ k δ, I k δ ↔ ∃ (A B : List Int) (ps : List Nat) (q r : Nat) (y1 y3 : Option R), k = ps.length ∧ FI n par c S A B ∧ Ch A ps q ∧ ps.head?.getD q = p ∧ (∀ x ∈ ps ++ [q], c ≤ x ∧ x < n) ∧ A[q]? = some (r : Int) ∧ r < c ∧ δ = [some (.reg (.ref f) (M A B)), y1, some (.own pa (niD ps)), y3] := ⟨_, fun _ _ => Iff.rfl⟩
  refine dWhile_by I ⟨_, (hI _ _).mpr ⟨A, B, ps, q, r, _, _, rfl, hF, hch, hhd, hin, hAq, hrc, rfl⟩⟩ fun k δ hJ => ?_
  clear hch hhd hin hAq hrc hpl hF
  obtain ⟨A, B, ps, q, r, y1, y3, rfl, hF, hch, hhd, hin, hAq, hrc, rfl⟩ := (hI _ _).mp hJ
  refine ⟨fun t => t = !ps.isEmpty, fun Ψ hΨ => ?_, fun ht => ?_, fun ht => ?_⟩
  · simp
    cases ps with
    | nil => simpa [niD] using hΨ _ rfl
    | cons x ps => simpa [niD] using hΨ _ rfl
  · have hne : ps ≠ [] := fun z => by rw [z] at ht; cases ht
    obtain ⟨ps', x, rfl⟩ : ∃ ps' x, ps = ps' ++ [x] := ⟨ps.dropLast, ps.getLast hne, (List.dropLast_concat_getLast hne).symm⟩
    obtain ⟨c1, c2, c3⟩ := hch.inv
    have hx := hin x (by simp)
    have hq := hin q (by simp)
    obtain ⟨q0, ux, e1, e2, e3, e4⟩ := go hF hx.1 hx.2
    obtain ⟨r0, uq, f1, f2, f3, f4⟩ := go hF hq.1 hq.2
    have su : S[ux]? = some (sAt S ux) := sAt_at (by rw [hF.ls]; omega)
    have sq : S[uq]? = some (sAt S uq) := sAt_at (by rw [hF.ls]; omega)
    have ix : ixN n (x : Int) = some x := ixn hx.2
    have nx := hF.over lt hx.1 hx.2 c2 e2 hq.1 hAq f2
    have nch : Ch (A.set x (r : Int)) ps' x := c1.set fun y hy => by have := c1.big y hy; omega
    have fin : ∀ B', FI n par c S (A.set x (r : Int)) B' → ∃ m', m' < ps'.length + 1 ∧ I m' [some (.reg (.ref f) (M (A.set x (r : Int)) B')), some (.d (.int (x : Int))), some (.own pa (ps'.map fun t : Nat => PyData.int (t : Int))), some (.d (.int (q : Int)))] := fun B' hB => by
      refine ⟨_, by simp, (hI _ _).mpr ⟨_, B', ps', x, r, _, _, rfl, hB, nch, ?_, fun y hy => ?_, List.getElem?_set_self (by rw [hF.la]; exact hx.2), hrc, rfl⟩⟩
      · cases ps' with
        | nil => simpa using hhd
        | cons z ps => simpa using hhd
      · rcases List.mem_append.mp hy with hy | hy
        · exact hin y (by simp [hy])
        · cases List.mem_singleton.mp hy; exact hx
    refine seq_op fun N2 hN2 => ?_
    simp [niD]
    refine ⟨_, _, _, ⟨rfl, rfl, rfl⟩, hN2 _ ?_⟩
    clear hN2 N2
    refine seq_op fun N2 hN2 => ?_
    simp [hf, ha, l2, gat c2]
    refine hN2 _ ?_
    clear hN2 N2
    refine seq_op fun N2 hN2 => ?_
    simp [hf, hb, hs, l1, l3, gat f2, gat e2, gat su, gat sq]
    by_cases z : sAt S uq < sAt S ux
    · simp [z, hf, hb, l3, gat f2, glen, hF.lb, ix]
      rw [gset, hpb]
      refine hN2 _ ?_
      clear hN2 N2
      simp [hf, ha, l2, gat hAq, glen, hF.la, ix]
      rw [gset, hpa]
      rw [if_pos z] at nx
      exact fin _ nx
    · simp [z]
      refine hN2 _ ?_
      clear hN2 N2
      simp [hf, ha, l2, gat hAq, glen, hF.la, ix]
      rw [gset, hpa]
      rw [if_neg z] at nx
      exact fin _ nx
  · have hne : ps = [] := by cases ps with
      | nil => rfl
      | cons x ps => cases ht
    subst hne
    exact ⟨_, rfl, h A B r hF (by have : q = p := hhd; rw [← this]; exact hAq) (by omega)⟩


def vp_Forest_lowest (F : Addr) : VSpM := fun u m rs Φ => ∃ (f dx s a b : Addr) (n c : Nat) (par : Nat → Nat) (S A B : List Int) (p : Nat), u = .ref f ∧ m = frM F f dx s a b S A B ∧ rs = [.d (.int p)] ∧ (∀ i, 0 < i → i < n → par i < i) ∧ n ≤ 1000 ∧ FI n par c S A B ∧ p < n ∧
  ∀ A' B' (u : Nat), FI n par c S A' B' → u < n → (p < c → u = p) → (c ≤ p → Anc par u p ∧ c ≤ u ∧ ∀ x, Anc par x p → c ≤ x → sAt S u ≤ sAt S x) → Φ (frM F f dx s a b S A' B') (.int u)
theorem len_shorten {F : Addr} : ∀ u m rs Φ, vp_Forest_shorten F u m rs Φ → rs.length = 1 := fun u m rs Φ ⟨_, _, _, _, _, _, _, _, _, _, _, _, _, _, e, _⟩ => by rw [e]; rfl
theorem G_Forest_lowest (T : Txt K mg) : FnOk P w K mg base CX0 2 T.f_Forest_lowest T.fd_Forest_lowest ["self", "place"] (toSpM K 2 (vp_Forest_lowest T.C_Forest)) := by
  refine fn_okM T.F_Forest_lowest sc_Forest_lowest fun cdv A outer s H E hr => ⟨_, (pss_cons (ps_if (pt_cmpR op_lt (pe_ix (kx_seq (K := K) rfl) (pe_fld (pv 0) rfl) (pv 1) (fun _ _ => rfl)) pe_int (nomark _)) (pss_one (ps_ret (pv 1))) pss_nil)
 (pss_cons (ps_expr (pe_meth (pv 0) T.cl_Forest T.mt_Forest_shorten (G_Forest_shorten T) hr T.b_Forest_shorten .nil pass0 (pa_cons (pv 1) pa_nil)))
 (pss_one (ps_ret (pe_ix (kx_seq (K := K) rfl) (pe_fld (pv 0) rfl) (pv 1) (fun _ _ => rfl)))))), _, fun ex He Hf => (sms_seq (sms_if (smt_t (f1 := false) (sm_op (f1 := false) (f2 := false) (opd_I0 (g' := fun i j => .bool (decide (i < j))) fun _ _ => rfl) (SmV.sm (smv_ix (f2 := false) 0 (smv_fld 0 T.cl_Forest T.n_Forest_above (smv_var 0)) (sm_var 1))) (sm_int _)))
 (sms_retM 0 (sm_var 1))
 sms_next)
 (sms_seq (sms_dropX (smx_meth 0 (smq_cons (sm_var 1) smq_nil)))
 (sms_retM 0 (SmV.sm (smv_ix (f2 := false) 0 (smv_fld 0 T.cl_Forest T.n_Forest_best (smv_var 0)) (sm_var 1)))))), ?_⟩
  rintro u m rs Φ nd ⟨f, dx, s, a, b, n, c, par, S, A, B, p, rfl, rfl, rfl, lt, hn, hF, hpn, h⟩
  have FN := frM_nd.mp nd
  have l2 := lk_above s a b
  have l3 := lk_best s a b
  have l4 := lk_shorten s a b
  have hA : A[p]? = some (sAt A p) := sAt_at (by rw [hF.la]; exact hpn)
  have ga := @fr_a T.C_Forest f dx s a b S A B FN
  unfold ic at ga
  refine seq_op fun N hN => ?_
  simp [fr_f, ga, l2, ic_at hA]
  by_cases hc : p < c
  · have := sAt_of (hF.un p hc hpn)
    have hlt : sAt A p < 0 := by omega
    simp [hlt]
    exact h A B p hF hpn (fun _ => rfl) (fun z => by omega)
  · obtain ⟨q0, ux, e1, e2, k⟩ := hF.ln p (by omega) hpn
    have := sAt_of e1
    have hlt : ¬ sAt A p < 0 := by omega
    simp [hlt]
    refine hN _ ?_
    clear hN N
    refine seq_op fun N hN => ?_
    simp [fr_f, l4, -List.lookup_eq_none_iff]
    refine ⟨f, dx, s, a, b, n, c, par, S, A, B, p, rfl, rfl, rfl, lt, hn, hF, by omega, hpn, fun A' B' r hF' hr hrc => ?_⟩
    intro nd2
    refine hN _ ?_
    clear hN N
    obtain ⟨r', u, f1, f2, k'⟩ := hF'.ln p (by omega) hpn
    have gb := @fr_b T.C_Forest f dx s a b S A' B' FN
    unfold ic at gb
    rw [hr] at f1
    have e9 := Option.some.inj f1
    simp [fr_f, gb, l3, ic_at f2]
    have hul := Anc.le lt k'.an hpn
    exact h A' B' u hF' (by omega) (fun z => absurd z hc) fun _ => ⟨k'.an, (k'.mn u k'.an k'.au).1, fun x hx hcx => (k'.mn x hx (by omega)).2⟩


/-! ### the turns over the forest: what holds -/
def smF (S : List Int) (v : Nat) : Nat := (sAt S v).toNat
section
variable {n c w : Nat} {par : Nat → Nat} {src : Nat → List Nat} {S A B : List Int}
/-- another number at w, which hangs not yet -/
theorem sAt_set (S : List Int) (w v : Nat) (i : Int) (h : w ≠ v) : sAt (S.set w i) v = sAt S v := by
  unfold sAt
  rw [List.getD_eq_getElem?_getD, List.getD_eq_getElem?_getD, List.getElem?_set_ne h]
theorem FI.setS (h : FI n par c S A B) (hw : w < c) (i : Int) : FI n par c (S.set w i) A B := by
  refine ⟨by rw [List.length_set]; exact h.ls, h.la, h.lb, h.un, h.ub, fun v hv hvn => ?_⟩
  obtain ⟨a, u, e1, e2, k⟩ := h.ln v hv hvn
  refine ⟨a, u, e1, e2, k.lt, k.up, k.an, k.au, fun x hx hax => ?_⟩
  have m := k.mn x hx hax
  have mu := k.mn u k.an k.au
  rw [sAt_set _ _ _ _ (by omega), sAt_set _ _ _ _ (by omega)]
  exact m
/-- w is hung from its parent -/
theorem FI.link (lt : ∀ i, 0 < i → i < n → par i < i) (h : FI n par (w + 1) S A B) (h0 : 0 < w) (hw : w < n) : FI n par w S (A.set w (par w : Int)) B := by
  have hl := lt w h0 hw
  refine ⟨h.ls, by rw [List.length_set]; exact h.la, h.lb, fun v hv hvn => ?_, fun v hv hvn => h.ub v (by omega) hvn, fun v hv hvn => ?_⟩
  · rw [List.getElem?_set_ne (by omega)]
    exact h.un v (by omega) hvn
  · by_cases e : w = v
    · subst e
      refine ⟨par w, w, List.getElem?_set_self (by rw [h.la]; exact hw), h.ub w (by omega) hw, hl, .up h0 (.refl _), .refl _, hl, fun x hx hpx => ?_⟩
      have : x = w := by
        by_cases q : x = w
        · exact q
        · have := Anc.le lt (hx.up_of q).2 (by omega)
          omega
      rw [this]
      exact ⟨Nat.le_refl _, Int.le_refl _⟩
    · obtain ⟨a, u, e1, e2, k⟩ := h.ln v (by omega) hvn
      refine ⟨a, u, by rw [List.getElem?_set_ne e]; exact e1, e2, k.lt, k.up, k.an, k.au, fun x hx hax => ?_⟩
      have := k.mn x hx hax
      exact ⟨by omega, this.2⟩
theorem fi_init (n : Nat) (par : Nat → Nat) : FI n par n (upD n) (List.replicate n (-1)) (upD n) := by
  have e : ∀ v, v < n → (upD n)[v]? = some (v : Int) := fun v hv => by unfold upD; rw [List.getElem?_map, List.getElem?_range hv]; rfl
  refine ⟨by simp [upD], by simp, by simp [upD], fun v hv hvn => ?_, fun v hv hvn => e v hvn, fun v hv hvn => by omega⟩
  rw [List.getElem?_replicate, if_pos hvn]
/-- the child of s on the way to low -/
theorem child_of (lt : ∀ i, 0 < i → i < n → par i < i) {s low : Nat} (h : Anc par s low) (hl : low < n) (ne : s < low) : ∃ ch, 0 < ch ∧ par ch = s ∧ Anc par ch low := by
  induction h with
  | refl => omega
  | @up v p k ih =>
    by_cases e : s = par v
    · exact ⟨v, p, e.symm, .refl _⟩
    · have l1 := lt v p hl
      have l2 := Anc.le lt k (by omega)
      obtain ⟨ch, h1, h2, h3⟩ := ih (by omega) (by omega)
      exact ⟨ch, h1, h2, .up p h3⟩
/-- the first number found for low -/
def F1 (par : Nat → Nat) (c : Nat) (S : List Int) (low : Nat) (z : Option Int) : Prop := ∃ u, Anc par u low ∧ smF S low < u ∧ (∀ y, Anc par y low → smF S low < y → c ≤ y ∧ smF S u ≤ smF S y) ∧ z = some (((if smF S u < smF S low then u else smF S low) : Nat) : Int)
theorem F1.set {low : Nat} {z : Option Int} (h : F1 par (w + 1) S low z) (hl : w < low) (i : Int) : F1 par w (S.set w i) low z := by
  obtain ⟨u, h1, h2, h3, h4⟩ := h
  have hu := (h3 u h1 h2).1
  have e : ∀ y, w < y → smF (S.set w i) y = smF S y := fun y hy => by unfold smF; rw [sAt_set _ _ _ _ (by omega)]
  refine ⟨u, h1, by rw [e low hl]; exact h2, fun y hy hs => ?_, by rw [e low hl, e u (by omega)]; exact h4⟩
  rw [e low hl] at hs
  have := h3 y hy hs
  rw [e u (by omega), e y (by omega)]
  exact ⟨by omega, this.2⟩
/-- what holds of the numbers at c: those from c on are done -/
structure SI (n : Nat) (par : Nat → Nat) (src : Nat → List Nat) (c : Nat) (S FD : List Int) (W : Nat → List Nat) : Prop where
  lo : ∀ v, v < c → v < n → S[v]? = some (v : Int)
  hi : ∀ v, c ≤ v → v < n → S[v]? = some (smF S v : Int) ∧ Sem n src (smF S v) v
  fl : FD.length = n
  wn : ∀ s, (W s).length + c ≤ n
  w1 : ∀ s, ∀ low ∈ W s, c ≤ low ∧ low < n ∧ smF S low = s ∧ ∀ ch, 0 < ch → par ch = s → ch ≤ low → ch < c
  w2 : ∀ low, c ≤ low → low < n → low ∈ W (smF S low) ∨ F1 par c S low (FD[low]?)
def updW (W : Nat → List Nat) (s : Nat) (l : List Nat) : Nat → List Nat := fun v => if v = s then l else W v
/-- the bucket of s: w lies above each one of it -/
theorem bucket (T : DTr n par src) {s low : Nat} (hw0 : 0 < w) (hw : w < n) (hs : s = par w) (hlow : w ≤ low) (hln : low < n) (ha : Anc par s low) (hsl : s < low) (hch : ∀ ch, 0 < ch → par ch = s → ch ≤ low → ch < w + 1) : ∀ x, Anc par x low → (s < x ↔ w ≤ x) := by
  have hpw := T.lt w hw0 hw
  obtain ⟨ch, h1, h2, h3⟩ := child_of T.lt ha hln hsl
  have h4 := Anc.le T.lt h3 hln
  have h5 := hch ch h1 h2 h4
  have back : ∀ x, Anc par x w → s < x → x = w := fun x hx hsx => by
    by_cases q : x = w
    · exact q
    · have := Anc.le T.lt (hx.up_of q).2 (by omega)
      omega
  have hcw : ch = w := by
    have := T.lt ch h1 (by omega)
    refine back ch ?_ (by omega)
    by_cases q : ch = w
    · rw [q]; exact .refl _
    · exact T.mid hln h3 (by omega) hlow
  rw [hcw] at h3
  intro x hx
  constructor
  · intro hsx
    by_cases q : w ≤ x
    · exact q
    · have := back x (Anc.chain T.lt h3 hln hx (by omega)) hsx
      omega
  · intro hwx
    omega
end


/-! ### _dominating_places -/
structure WR (n : Nat) (m : Sto) (a : Addr) (bs : List Addr) (W : Nat → List Nat) : Prop where
  len : bs.length = n
  nd : (a :: bs).Nodup
  top : m.at a = some (.l (bs.map .r))
  row : ∀ v b, bs[v]? = some b → m.at b = some (.l ((niD (W v)).map .d))
theorem WR.app {n : Nat} {m : Sto} {a b : Addr} {bs : List Addr} {W : Nat → List Nat} {s x : Nat} (h : WR n m a bs W) (hb : bs[s]? = some b) : WR n (m.put b (.l ((niD (W s)).map .d ++ [.d (.int (x : Int))]))) a bs (updW W s (W s ++ [x])) := by
  have hat := h.row s b hb
  have nd := List.nodup_cons.mp h.nd
  refine ⟨h.len, h.nd, sat_put_ne hat (fun z => nd.1 (z ▸ List.mem_of_getElem? hb)) h.top, fun v b' hv => ?_⟩
  unfold updW
  by_cases e : v = s
  · subst e
    rw [hb] at hv
    cases hv
    rw [sat_put_eq hat, if_pos rfl]
    simp [niD]
  · rw [if_neg e]
    refine sat_put_ne hat (fun z => ?_) (h.row v b' hv)
    subst z
    obtain ⟨p1, q1⟩ := List.getElem?_eq_some_iff.mp hb
    obtain ⟨p2, q2⟩ := List.getElem?_eq_some_iff.mp hv
    exact e ((List.getElem_inj nd.2).mp (q2.trans q1.symm))
theorem WR.clear {n : Nat} {m : Sto} {a b : Addr} {bs : List Addr} {W : Nat → List Nat} {s : Nat} (h : WR n m a bs W) (hs : s < n) (nb : NewIn b m) : WR n (Sto.put (m ++ [(b, .l [])]) a (.l ((bs.map CV.r).set s (.r b)))) a (bs.set s b) (updW W s []) := by
  have nb : b ∉ m.map (·.1) := nb
  have old : ∀ c d, m.at c = some d → Sto.at (m ++ [(b, .l [])]) c = some d := fun c d e => sat_old e fun z => nb (z ▸ sat_dom e)
  have nd := List.nodup_cons.mp h.nd
  have ha := old _ _ h.top
  have nab : a ≠ b := fun z => nb (z ▸ sat_dom h.top)
  have hin : ∀ b' ∈ bs, b' ≠ b := fun b' hb' z => by
    obtain ⟨v, hv⟩ := List.getElem?_of_mem hb'
    exact nb (z ▸ sat_dom (h.row v b' hv))
  refine ⟨by rw [List.length_set]; exact h.len, ?_, by rw [sat_put_eq ha, List.map_set], fun v b' hv => ?_⟩
  · refine List.nodup_cons.mpr ⟨fun z => ?_, ?_⟩
    · rcases List.mem_or_eq_of_mem_set z with z | z
      · exact nd.1 z
      · exact nab z
    · refine List.pairwise_iff_getElem.mpr fun i j hi hj hij => ?_
      rw [List.length_set] at hi hj
      rw [List.getElem_set, List.getElem_set]
      have p := List.pairwise_iff_getElem.mp nd.2 i j hi hj hij
      by_cases e1 : s = i
      · have e2 : ¬ s = j := by omega
        rw [if_pos e1, if_neg e2]
        exact fun z => hin _ (List.getElem_mem hj) z.symm
      · rw [if_neg e1]
        by_cases e2 : s = j
        · rw [if_pos e2]
          exact hin _ (List.getElem_mem hi)
        · rw [if_neg e2]
          exact p
  · unfold updW
    by_cases e : s = v
    · subst e
      rw [List.getElem?_set_self (by rw [h.len]; exact hs)] at hv
      cases hv
      rw [if_pos rfl]
      exact sat_put_ne ha nab (sat_new nb)
    · rw [List.getElem?_set_ne e] at hv
      rw [if_neg (fun z => e z.symm)]
      exact sat_put_ne ha (fun z => nd.1 (z ▸ List.mem_of_getElem? hv)) (old _ _ (h.row v b' hv))
theorem dForV_w {i : Nat} {dv : DV} {dg : DG} {db : DS} {E : DEnds} {δ : Dl} (b : Addr) (xs : List PyData) (h : ∀ Ψ : CV → Prop, Ψ (.r b) → dv δ Ψ) (I : Nat → Dl → Prop) (h0 : I 0 δ)
    (hr : ∀ k δ', I k δ' → ∃ u m, δ'[i]? = some (some (.reg u m)) ∧ Sto.at m b = some (.l (xs.map .d)))
    (hs : ∀ k y δ', xs[k]? = some y → I k δ' → dg y δ' fun δ'' => db { E with nx := I (k + 1), ct := I (k + 1), bk := E.nx } δ'') (he : ∀ δ', I xs.length δ' → E.nx δ') : dForV i dv dg db E δ := by
  unfold dForV
  exact h _ ⟨b, xs, rfl, hr 0 δ h0, I, h0, fun k y δ' hy hI => ⟨hr k δ' hI, hs k y δ' hy hI⟩, fun δ' hI => ⟨hr _ δ' hI, he δ' hI⟩⟩
def vp__dominating_places : VSp := fun rs Φ => ∃ (n : Nat) (par : Nat → Nat) (src : Nat → List Nat) (Pl : List Int), rs = [.d (.list (Pl.map .int)), .d (.list ((List.range n).map fun w => .list (niD (src w))))] ∧ Pl.length = n ∧ 1 ≤ n ∧ n ≤ 1000 ∧ (∀ i, 0 < i → i < n → Pl[i]? = some (par i : Int)) ∧ DTr n par src ∧
  ∀ R : List Int, R.length = n → (∀ w, 0 < w → w < n → ∃ d : Nat, R[w]? = some (d : Int) ∧ IsId n src d w) → Φ (.own (R.map .int))
theorem len__dominating_places : ∀ rs Φ, vp__dominating_places rs Φ → rs.length = 2 := fun rs Φ ⟨_, _, _, _, e, _⟩ => by rw [e]; rfl
theorem G__dominating_places (T : Txt K mg) : FnOk P w K mg base CX0 3 T.f__dominating_places T.fd__dominating_places ["parents", "sources"] (toSp K 2 vp__dominating_places) := by
  refine fn_ok T.F__dominating_places sc__dominating_places fun cdv A outer s H E hr => ⟨_, (pss_cons (ps_set (i := 2) sc__dominating_places.nd rfl (Or.inl rfl) (pe_callB (kx_len (K := K) rfl) (by rfl) T.len PySem.boot_len (pa_cons (pv 0) pa_nil)))
 (pss_cons (ps_set (i := 3) sc__dominating_places.nd rfl (Or.inl rfl) (pe_make T.mk_Forest (G_Forest___init__ T) hr rfl T.mgC_Forest T.b_Forest___init__ .nil pass0 (pa_cons (pv 2) pa_nil)))
 (pss_cons (ps_set (i := 4) sc__dominating_places.nd rfl (Or.inl rfl) (pe_fld (pv 3) rfl))
 (pss_cons (ps_set (i := 5) sc__dominating_places.nd rfl (Or.inl rfl) (pe_op op_rep (pe_lst (pa_cons pe_int pa_nil)) (pv 2)))
 (pss_cons (ps_setLc (i := 6) (own := [("_", 11)]) (g := gName 11) (tt := tYes) rfl sc__dominating_places.nd rfl rfl (sw_true rfl rfl rfl (by decide +kernel)) ((kpi_list (K := K) rfl (pv 0))) (blkOk_by (N := ["parents", "sources", "count", "forest", "semi", "found", "waiting", "place", "source", "parent", "low", "_", "best"]) (sc := defScope s_dominating_places) (by decide +kernel)) (fun _ _ _ _ _ => pg_name (i := 11) sc__dominating_places.nd rfl (Or.inl rfl)) (fun _ _ _ _ _ => pts_nil) (fun _ _ _ _ _ => (pe_lst pa_nil)))
 (pss_cons (ps_for PassesOwn.never rfl (pi_range3 rfl T.range (pa_cons (pe_op op_sub (pv 2) pe_int) (pa_cons pe_int (pa_cons (pe_un un_neg pe_int) pa_nil)))) (pg_name (i := 7) sc__dominating_places.nd rfl (Or.inl rfl)) (pss_cons (ps_for PassesOwn.never rfl ((kpi_list (K := K) rfl (pe_ix (kx_seq (K := K) rfl) (pv 1) (pv 7) (fun _ _ => rfl)))) (pg_name (i := 8) sc__dominating_places.nd rfl (Or.inl rfl)) (pss_one (ps_asg (pe_callB (call_min2 rfl) (by rfl) T.min (by decide +kernel) (pa_cons (pe_ix (kx_seq (K := K) rfl) (pv 4) (pv 7) (fun _ _ => rfl)) (pa_cons (pe_ix (kx_seq (K := K) rfl) (pv 4) (pe_meth (pv 3) T.cl_Forest T.mt_Forest_lowest (G_Forest_lowest T) hr T.b_Forest_lowest .nil pass0 (pa_cons (pv 8) pa_nil)) (fun _ _ => rfl)) pa_nil))) (pg_sub (pv 4) (pv 7) set_list))))
 (pss_cons (ps_expr (pe_bm PySem.F.plainAttrs_list PySem.F.slot_list_append PySem.F.type_list_append mt_append (pe_ix (kx_seq (K := K) rfl) (pv 6) (pe_ix (kx_seq (K := K) rfl) (pv 4) (pv 7) (fun _ _ => rfl)) (fun _ _ => rfl)) (pa_cons (pv 7) pa_nil)))
 (pss_cons (ps_set (i := 9) sc__dominating_places.nd rfl (Or.inl rfl) (pe_ix (kx_seq (K := K) rfl) (pv 0) (pv 7) (fun _ _ => rfl)))
 (pss_cons (ps_asg (pv 9) (pg_sub (pe_fld (pv 3) rfl) (pv 7) set_list))
 (pss_cons (ps_for PassesOwn.never rfl ((kpi_list (K := K) rfl (pe_ix (kx_seq (K := K) rfl) (pv 6) (pv 9) (fun _ _ => rfl)))) (pg_name (i := 10) sc__dominating_places.nd rfl (Or.inl rfl)) (pss_cons (ps_set (i := 12) sc__dominating_places.nd rfl (Or.inl rfl) (pe_meth (pv 3) T.cl_Forest T.mt_Forest_lowest (G_Forest_lowest T) hr T.b_Forest_lowest .nil pass0 (pa_cons (pv 10) pa_nil)))
 (pss_one (ps_asg (pe_ifExp (pt_cmpR op_lt (pe_ix (kx_seq (K := K) rfl) (pv 4) (pv 12) (fun _ _ => rfl)) (pe_ix (kx_seq (K := K) rfl) (pv 4) (pv 10) (fun _ _ => rfl)) (nomark _)) (pv 12) (pv 9)) (pg_sub (pv 5) (pv 10) set_list)))))
 (pss_one (ps_asg (pe_lst pa_nil) (pg_sub (pv 6) (pv 9) set_list)))))))))
 (pss_cons (ps_for PassesOwn.never rfl (pi_range2 (by rfl) T.range (pa_cons pe_int (pa_cons (pv 2) pa_nil))) (pg_name (i := 7) sc__dominating_places.nd rfl (Or.inl rfl)) (pss_one (ps_if (pt_cmpR op_ne (pe_ix (kx_seq (K := K) rfl) (pv 5) (pv 7) (fun _ _ => rfl)) (pe_ix (kx_seq (K := K) rfl) (pv 4) (pv 7) (fun _ _ => rfl)) (nomark _)) (pss_one (ps_asg (pe_ix (kx_seq (K := K) rfl) (pv 5) (pe_ix (kx_seq (K := K) rfl) (pv 5) (pv 7) (fun _ _ => rfl)) (fun _ _ => rfl)) (pg_sub (pv 5) (pv 7) set_list))) pss_nil)))
 (pss_one (ps_ret (pv 5)))))))))), _, fun ex He Hf => (sms_seq (sms_asg (sm_cb (f1 := false) cbd_len (sma_cons (sm_var 0) sma_nil)) (smg_name 2))
 (sms_seq (sms_make 3 (smq_cons (sm_var 2) smq_nil))
 (sms_seq (sms_asgV 4 (SmV.x (smv_fld 3 T.cl_Forest T.n_Forest_semi (smv_var 3))))
 (sms_seq (sms_setO 5 (smo_rep (f2 := false) (SmO.sm (smo_lst (sma_cons (sm_int _) sma_nil))) (sm_var 2)))
 (sms_seq (sms_setNs 6 11 (smi_list (sm_var 0)))
 (sms_seq (sms_for (smi_rng3 (f1 := false) (f2 := false) (f3 := false) (sm_op (f1 := false) (f2 := false) (opd_I0 (g' := fun i j => .int (i - j)) fun _ _ => rfl) (sm_var 2) (sm_int _)) (sm_int _) (sm_un (f1 := false) (g' := fun i => .int (-i)) (fun _ => rfl) (sm_int _))) (smg_name 7)
 (sms_seq (sms_for (smi_list (sm_ix (f2 := false) (sm_var 1) (sm_var 7))) (smg_name 8)
 (sms_setIV (f2 := false) 3 (smx_cb2 cbd_min (SmV.sm (smv_ix (f2 := false) 3 (smv_var 4) (sm_var 7))) (smx_ix 3 (smv_var 4) (smx_meth 3 (smq_cons (sm_var 8) smq_nil)))) (smv_var 4) (sm_var 7)))
 (sms_seq (sms_appV 6 (smv_ix (f2 := false) 6 (smv_var 6) (SmV.sm (smv_ix (f2 := false) 3 (smv_var 4) (sm_var 7)))) (SmV.x (Sm.v (sm_var 7))))
 (sms_seq (sms_asg (sm_ix (f2 := false) (sm_var 0) (sm_var 7)) (smg_name 9))
 (sms_seq (sms_setIV (f2 := false) 3 (SmV.x (Sm.v (sm_var 9))) (smv_fld 3 T.cl_Forest T.n_Forest_above (smv_var 3)) (sm_var 7))
 (sms_seq (sms_forV 6 (smv_ix (f2 := false) 6 (smv_var 6) (sm_var 9)) (smg_name 10)
 (sms_seq (sms_asgX 12 (smx_meth 3 (smq_cons (sm_var 10) smq_nil)))
 (sms_setI (f2 := false) 5 (sm_if (smt_t (f1 := false) (sm_op (f1 := false) (f2 := false) (opd_I0 (g' := fun i j => .bool (decide (i < j))) fun _ _ => rfl) (SmV.sm (smv_ix (f2 := false) 3 (smv_var 4) (sm_var 12))) (SmV.sm (smv_ix (f2 := false) 3 (smv_var 4) (sm_var 10))))) (sm_var 12) (sm_var 9)) (sm_var 10))))
 (sms_setIV (f2 := false) 6 (smx_new 6 (smo_lst sma_nil)) (smv_var 6) (sm_var 9))))))))
 (sms_seq (sms_for (smi_rng2 (f1 := false) (f2 := false) (sm_int _) (sm_var 2)) (smg_name 7)
 (sms_if (smt_t (f1 := false) (sm_op (f1 := false) (f2 := false) opd_ne (sm_ix (f2 := false) (sm_varO 5) (sm_var 7)) (SmV.sm (smv_ix (f2 := false) 3 (smv_var 4) (sm_var 7)))))
 (sms_setI (f2 := false) 5 (sm_ixO (f2 := false) 5 (sm_ix (f2 := false) (sm_varO 5) (sm_var 7))) (sm_var 7))
 sms_next))
 (sms_retO 5)))))))), ?_⟩
  rintro rs Φ ⟨n, par, src, Pl, rfl, hPl, n1, hn, hPar, TT, h⟩
  obtain ⟨PD, hPD⟩ : ∃ x : PyData, x = .list (Pl.map .int) := ⟨_, rfl⟩
  obtain ⟨QD, hQD⟩ : ∃ x : PyData, x = .list ((List.range n).map fun w => .list (niD (src w))) := ⟨_, rfl⟩
  rw [← hPD, ← hQD]
  refine seq_op fun N hN => ?_
  simp [hPD, hPl]
  rw [← hPD]
  refine hN _ ?_
  clear hN N
  refine seq_op fun N hN => ?_
  simp
  intro f dx
  refine ⟨f, dx, n, rfl, rfl, rfl, hn, fun s a b => ?_⟩
  refine ⟨rfl, fun nd => hN _ ?_⟩
  clear hN N
  have FN := frM_nd.mp nd
  clear nd
  obtain ⟨M, hM⟩ : ∃ M : List Int → List Int → List Int → Sto, ∀ S A B, M S A B = frM T.C_Forest f dx s a b S A B := ⟨_, fun _ _ _ => rfl⟩
  obtain ⟨g, hg⟩ : ∃ g : List Int → List CV, ∀ xs, g xs = xs.map fun i => CV.d (.int i) := ⟨_, fun _ => rfl⟩
  have gat : ∀ {xs : List Int} {v : Nat} {i : Int}, xs[v]? = some i → atI (g xs) (v : Int) = some (.d (.int i)) := fun {xs v i} e => by rw [hg]; exact ic_at e
  have gset : ∀ (xs : List Int) (v : Nat) (i : Int), (g xs).set v (.d (.int i)) = g (xs.set v i) := fun xs v i => by rw [hg, hg]; exact ic_set xs v i
  have glen : ∀ xs, (g xs).length = xs.length := fun xs => by rw [hg, List.length_map]
  have hf : ∀ S A B, (M S A B).at f = some (.I T.C_Forest dx [("semi", .r s), ("above", .r a), ("best", .r b)]) := fun S A B => by rw [hM]; exact fr_f
  have hs : ∀ S A B, (M S A B).at s = some (.l (g S)) := fun S A B => by rw [hM, hg]; exact fr_s FN
  have ha : ∀ S A B, (M S A B).at a = some (.l (g A)) := fun S A B => by rw [hM, hg]; exact fr_a FN
  have hps : ∀ S A B X, (M S A B).put s (.l (g X)) = M X A B := fun S A B X => by rw [hM, hM, hg]; exact fr_ps FN
  have hpa : ∀ S A B X, (M S A B).put a (.l (g X)) = M S X B := fun S A B X => by rw [hM, hM, hg]; exact fr_pa FN
  have l1 := lk_semi s a b
  have l2 := lk_above s a b
  have l4 := lk_lowest s a b
  simp only [← hM]
  refine seq_op fun N hN => ?_
  simp [hf, l1]
  refine hN _ ?_
  clear hN N
  refine seq_op fun N hN => ?_
  simp [le_size, lt_size, cmul_l, cpow_l, cdiv_l]
  refine ⟨by omega, fz3 (by omega), fun o => hN _ ?_⟩
  clear hN N
  refine seq_op fun N hN => ?_
  simp [hPD, hPl]
  refine ⟨fz4 (by omega), fun aw bs hnw hnd hbl => ?_⟩
  rw [← hPD]
  refine hN _ ?_
  clear hN N
  obtain ⟨DLT, hDLT⟩ : ∃ g : List Int → List Int → List Int → List Int → Addr → Sto → Option R → Option R → Option R → Option R → Option R → Dl, ∀ S A B FD aw mw y7 y8 y9 y10 y12, g S A B FD aw mw y7 y8 y9 y10 y12 = [some (.d PD), some (.d QD), some (.d (.int n)), some (.reg (.ref f) (M S A B)), some (.raw (.ref s)), some (.own o (FD.map .int)), some (.reg (.ref aw) mw), y7, y8, y9, y10, none, y12] := ⟨_, fun _ _ _ _ _ _ _ _ _ _ _ => rfl⟩
  have hpl : ∀ {i : Nat}, 0 < i → i < n → atI (Pl.map PyData.int) (i : Int) = some (.int (par i : Int)) := fun {i} h0 h1 => int_at (hPar i h0 h1)
  have hql : ∀ {i : Nat}, i < n → atI ((List.range n).map fun w => PyData.list (niD (src w))) (i : Int) = some (.list (niD (src i))) := fun {i} h1 => atI_nat (by rw [List.getElem?_map, List.getElem?_range h1]; rfl)
  refine seq_by (fun δ => ∃ (S A B FD : List Int) (aw : Addr) (mw : Sto) (y7 y8 y9 y10 y12 : Option R), FD.length = n ∧ (∀ v, 0 < v → v < n → S[v]? = some (smF S v : Int) ∧ Sem n src (smF S v) v ∧ F1 par 1 S v (FD[v]?)) ∧ δ = DLT S A B FD aw mw y7 y8 y9 y10 y12) (fun δ hI => ?_) (fun N hN => ?_)
  rotate_left
  · obtain ⟨I, hI⟩ : ∃ I : Nat → Dl → Prop, ∀ k δ, I k δ ↔ ∃ (S A B FD : List Int) (aw : Addr) (bs : List Addr) (mw : Sto) (W : Nat → List Nat) (y7 y8 y9 y10 y12 : Option R), FI n par (n - k) S A B ∧ SI n par src (n - k) S FD W ∧ WR n mw aw bs W ∧ δ = DLT S A B FD aw mw y7 y8 y9 y10 y12 := ⟨_, fun _ _ => Iff.rfl⟩
    refine dFor_w (xs := rng3 ((n : Int) - 1) (-1) (n - 1)) (fun Ψ hΨ => ?_) I ((hI _ _).mpr ⟨_, _, _, List.replicate n 0, aw, bs, (aw, .l (bs.map .r)) :: bs.map fun b => (b, .l []), fun _ => [], none, none, none, none, none, fi_init n par, ?_, ?_, by rw [hDLT]; simp⟩) (fun k y δ hy hJ => ?_) (fun δ hJ => ?_)
    · have hR := RgC.neg (i := (n : Int) - 1) (j := 0) (by omega) (by omega) (by omega) (by omega)
      rw [show ((n : Int) - 1 - 0).toNat = n - 1 by omega] at hR
      simp
      exact ⟨_, hR, hΨ⟩
    · refine ⟨fun v hv hvn => ?_, fun v hv hvn => by omega, by simp, fun s => by simp, fun s low hl => (nomatch hl), fun low h1 h2 => by omega⟩
      unfold upD
      rw [List.getElem?_map, List.getElem?_range hvn]
      rfl
    · refine ⟨hbl, List.nodup_cons.mpr ⟨hnw, hnd⟩, by rw [sat_cons, if_pos rfl], fun v b hv => ?_⟩
      have hbm := List.mem_of_getElem? hv
      rw [sat_cons, if_neg (show ¬ aw = b from fun z => hnw (by rw [z]; exact hbm))]
      have nd2 := hnd
      clear hnd hbl hv hnw
      induction bs with
      | nil => cases hbm
      | cons c bs ih =>
        rw [List.map_cons, sat_cons]
        by_cases e : c = b
        · rw [if_pos e]; rfl
        · rw [if_neg e]
          rcases List.mem_cons.mp hbm with q | q
          · exact absurd q.symm e
          · exact ih q (List.nodup_cons.mp nd2).2
    · clear hnw hnd hbl bs aw
      obtain ⟨hk, rfl⟩ := rng3_get hy
      obtain ⟨S, A, B, FD, aw, bs, mw, W, y7, y8, y9, y10, y12, hF, hS, hW, rfl⟩ := (hI _ _).mp hJ
      obtain ⟨w, hw⟩ : ∃ w, w = n - 1 - k := ⟨_, rfl⟩
      have ew : (n : Int) - 1 + (k : Int) * (-1) = (w : Int) := by omega
      have ec : n - k = w + 1 := by omega
      have ec2 : n - (k + 1) = w := by omega
      have hw0 : 0 < w := by omega
      have hwn : w < n := by omega
      have nx := hI (k + 1)
      rw [ec2] at nx
      rw [ec] at hF hS
      rw [ew]
      clear hJ hy ew ec ec2 hw
      have hpw := TT.lt w hw0 hwn
      -- the numbers that lead to w
      simp only [dgName]
      refine seq_by (fun δ => ∃ (z : Nat) (A B : List Int) (y8 : Option R), FI n par (w + 1) (S.set w (z : Int)) A B ∧ Sem n src z w ∧ δ = DLT (S.set w (z : Int)) A B FD aw mw (some (.d (.int (w : Int)))) y8 y9 y10 y12) (fun δ hK => ?_) (fun N2 hN2 => ?_)
      rotate_left
      · obtain ⟨J, hJ2⟩ : ∃ J : Nat → Dl → Prop, ∀ j δ, J j δ ↔ ∃ (z : Nat) (A B : List Int) (y8 : Option R), FI n par (w + 1) (S.set w (z : Int)) A B ∧ z ≤ w ∧ (∀ v ∈ (src w).take j, (v ≤ w → z ≤ v) ∧ (w < v → ∀ u, Anc par u v → w < u → z ≤ smF S u)) ∧ (z = w ∨ ∃ v ∈ src w, (v ≤ w ∧ z = v) ∨ (w < v ∧ ∃ u, Anc par u v ∧ w < u ∧ z = smF S u)) ∧ δ = DLT (S.set w (z : Int)) A B FD aw mw (some (.d (.int (w : Int)))) y8 y9 y10 y12 := ⟨_, fun _ _ => Iff.rfl⟩
        have hSw := hS.lo w (by omega) hwn
        have hset0 : S.set w (w : Int) = S := by
          refine List.ext_getElem? fun j => ?_
          by_cases q : w = j
          · subst q
            rw [List.getElem?_set_self (by rw [hF.ls]; exact hwn), hSw]
          · rw [List.getElem?_set_ne q]
        refine dFor_w (xs := niD (src w)) (fun Ψ hΨ => ?_) J ((hJ2 _ _).mpr ⟨w, A, B, y8, by rw [hset0]; exact hF, Nat.le_refl _, fun v hv => by simp at hv, .inl rfl, by rw [hset0, hDLT, hDLT]; rfl⟩) (fun j y δ hy hJ3 => ?_) (fun δ hJ3 => ?_)
        · rw [hDLT]
          simp [hQD, hql hwn]
          exact hΨ
        · obtain ⟨z, A, B, y8, hF2, hzw, hlo, hat, rfl⟩ := (hJ2 _ _).mp hJ3
          unfold niD at hy
          rw [List.getElem?_map] at hy
          obtain ⟨v, hv, rfl⟩ := Option.map_eq_some_iff.mp hy
          have hvm := List.mem_of_getElem? hv
          have hvn := (TT.fw w hwn v hvm).1
          have hzs : (S.set w (z : Int))[w]? = some (z : Int) := List.getElem?_set_self (by rw [hF.ls]; exact hwn)
          have iw : ixN n (w : Int) = some w := ixn hwn
          have sL : (S.set w (z : Int)).length = n := by rw [List.length_set]; exact hF.ls
          rw [hDLT]
          simp [hs, gat hzs, hf, l4, -List.lookup_eq_none_iff]
          refine ⟨f, dx, s, a, b, n, w + 1, par, S.set w (z : Int), A, B, v, rfl, (hM _ _ _), rfl, TT.lt, hn, hF2, hvn, fun A' B' u hF' hun hu1 hu2 => ?_⟩
          intro _
          rw [← hM]
          have hval : ∃ val : Nat, (S.set w (z : Int))[u]? = some (val : Int) ∧ (v ≤ w → (v = w ∧ val = z) ∨ (v < w ∧ val = v)) ∧ (w < v → Anc par u v ∧ w < u ∧ val = smF S u ∧ ∀ x, Anc par x v → w < x → val ≤ smF S x) := by
            by_cases c : v ≤ w
            · have e := hu1 (by omega)
              subst e
              by_cases c2 : u = w
              · subst c2
                exact ⟨z, hzs, fun _ => .inl ⟨rfl, rfl⟩, fun q => by omega⟩
              · exact ⟨u, by rw [List.getElem?_set_ne (fun q => c2 q.symm)]; exact hS.lo u (by omega) hun, fun _ => .inr ⟨by omega, rfl⟩, fun q => by omega⟩
            · obtain ⟨q1, q2, q3⟩ := hu2 (by omega)
              have e := (hS.hi u q2 hun).1
              refine ⟨smF S u, by rw [List.getElem?_set_ne (by omega)]; exact e, fun q => absurd q c, fun _ => ⟨q1, by omega, rfl, fun x hx hwx => ?_⟩⟩
              have := q3 x hx hwx
              rw [sAt_set _ _ _ _ (by omega), sAt_set _ _ _ _ (by omega)] at this
              unfold smF
              omega
          obtain ⟨val, hval, hv1, hv2⟩ := hval
          simp [hs, gat hval]
          refine ⟨w, by rw [glen, sL]; exact iw, ?_⟩
          rw [show (if val < z then (val : Int) else (z : Int)) = (((if val < z then val else z) : Nat) : Int) by split <;> rfl]
          rw [gset, hps, List.set_set]
          refine (hJ2 _ _).mpr ⟨(if val < z then val else z), A', B', some (.d (.int (v : Int))), ?_, by split <;> omega, fun v' hv' => ?_, ?_, by rw [hDLT]⟩
          · have := hF'.setS (Nat.lt_succ_self w) (((if val < z then val else z) : Nat) : Int)
            rw [List.set_set] at this
            exact this
          · rw [List.take_add_one, hv] at hv'
            rcases List.mem_append.mp hv' with q | q
            · have := hlo v' q
              refine ⟨fun c => ?_, fun c u' hu' hwu => ?_⟩
              · have := this.1 c; split <;> omega
              · have := this.2 c u' hu' hwu; split <;> omega
            · have q : v' = v := by simpa using q
              subst q
              refine ⟨fun c => ?_, fun c u' hu' hwu => ?_⟩
              · rcases hv1 c with ⟨q1, q2⟩ | ⟨q1, q2⟩ <;> split <;> omega
              · have := (hv2 c).2.2.2 u' hu' hwu
                split <;> omega
          · by_cases c : val < z
            · rw [if_pos c]
              by_cases c2 : v ≤ w
              · rcases hv1 c2 with ⟨q1, q2⟩ | ⟨q1, q2⟩
                · omega
                · exact .inr ⟨v, hvm, .inl ⟨c2, q2⟩⟩
              · have := hv2 (by omega)
                exact .inr ⟨v, hvm, .inr ⟨by omega, u, this.1, this.2.1, this.2.2.1⟩⟩
            · rw [if_neg c]
              exact hat
        · obtain ⟨z, A, B, y8, hF2, hzw, hlo, hat, rfl⟩ := (hJ2 _ _).mp hJ3
          refine hN2 _ ⟨z, A, B, y8, hF2, sem_of TT hw0 hwn (fun u hu hun => (hS.hi u hu hun).2) (fun v hv => hlo v ?_) hat, rfl⟩
          have : (niD (src w)).length = (src w).length := by simp [niD]
          rw [this, List.take_length]
          exact hv
      · obtain ⟨z, A, B, y8, hF2, hz, rfl⟩ := hK
        clear hF
        have hzw := hz.lt TT hw0 hwn
        obtain ⟨S2, hS2⟩ : ∃ S2, S2 = S.set w (z : Int) := ⟨_, rfl⟩
        have S2w : S2[w]? = some (z : Int) := by
          rw [hS2]
          have := hF2.ls
          rw [List.length_set] at this
          exact List.getElem?_set_self (by rw [this]; exact hwn)
        have smw : smF S2 w = z := by unfold smF; rw [sAt_of S2w]; omega
        have smo : ∀ v, v ≠ w → smF S2 v = smF S v := fun v hv => by unfold smF; rw [hS2, sAt_set _ _ _ _ (fun q => hv q.symm)]
        have hi2 : ∀ v, w ≤ v → v < n → S2[v]? = some (smF S2 v : Int) ∧ Sem n src (smF S2 v) v := fun v h1 h2 => by
          by_cases q : v = w
          · rw [q, smw]; exact ⟨S2w, hz⟩
          · rw [smo v q]
            have := hS.hi v (by omega) h2
            exact ⟨by rw [hS2, List.getElem?_set_ne (fun z => q z.symm)]; exact this.1, this.2⟩
        rw [← hS2] at hF2 ⊢
        obtain ⟨bz, hbz⟩ : ∃ b, bs[z]? = some b := ⟨bs[z]'(by rw [hW.len]; omega), List.getElem?_eq_getElem _⟩
        have hW2 := hW.app (x := w) hbz
        obtain ⟨W2, hW2d⟩ : ∃ W2, W2 = updW W z (W z ++ [w]) := ⟨_, rfl⟩
        rw [← hW2d] at hW2
        have BK : ∀ low ∈ W2 (par w), w ≤ low ∧ low < n ∧ smF S2 low = par w ∧ ∀ x, Anc par x low → (par w < x ↔ w ≤ x) := fun low hl => by
          have old : low ∈ W (par w) → w ≤ low ∧ low < n ∧ smF S2 low = par w ∧ ∀ x, Anc par x low → (par w < x ↔ w ≤ x) := fun hl => by
            obtain ⟨k1, k2, k3, k4⟩ := hS.w1 _ low hl
            have hm := (hS.hi low k1 k2).2
            rw [k3] at hm
            exact ⟨by omega, k2, by rw [smo low (by omega)]; exact k3, bucket TT hw0 hwn rfl (by omega) k2 (hm.anc TT (by omega) k2) (hm.lt TT (by omega) k2) k4⟩
          rw [hW2d] at hl
          unfold updW at hl
          by_cases q : par w = z
          · rw [if_pos q] at hl
            rcases List.mem_append.mp hl with hl | hl
            · exact old (by rw [q]; exact hl)
            · rw [List.mem_singleton.mp hl]
              refine ⟨Nat.le_refl _, hwn, by rw [smw, q], fun x hx => ⟨fun hpx => ?_, fun hwx => by omega⟩⟩
              by_cases q2 : x = w
              · omega
              · have := Anc.le TT.lt (hx.up_of q2).2 (by omega)
                omega
          · rw [if_neg q] at hl
            exact old hl
        have hF3 := hF2.link TT.lt hw0 hwn
        obtain ⟨bp, hbp⟩ : ∃ b, bs[par w]? = some b := ⟨bs[par w]'(by rw [hW.len]; omega), List.getElem?_eq_getElem _⟩
        have hrow := hW.row z bz hbz
        have hbz2 : atI (bs.map CV.r) (z : Int) = some (.r bz) := atI_nat (by rw [List.getElem?_map, hbz]; rfl)
        have hbp2 : atI (bs.map CV.r) (par w : Int) = some (.r bp) := atI_nat (by rw [List.getElem?_map, hbp]; rfl)
        have hWl : (W z).length ≤ 1000 := by have := hS.wn z; omega
        rw [hDLT]
        refine seq_op fun N2 hN2 => ?_
        simp [hW.top, hs, gat S2w, hbz2, hrow]
        refine ⟨fz4 (by simp [niD]; omega), hN2 _ ?_⟩
        clear hN2 N2
        obtain ⟨mw2, hmw2⟩ : ∃ m, m = mw.put bz (.l ((niD (W z)).map .d ++ [.d (.int (w : Int))])) := ⟨_, rfl⟩
        rw [← hmw2] at hW2 ⊢
        refine seq_op fun N2 hN2 => ?_
        simp [hPD, hpl hw0 hwn]
        rw [← hPD]
        refine hN2 _ ?_
        clear hN2 N2
        refine seq_op fun N2 hN2 => ?_
        simp [hf, ha, l2, glen, hF2.la, ixn hwn]
        rw [gset, hpa]
        refine hN2 _ ?_
        clear hN2 N2
        have hrow2 := hW2.row (par w) bp hbp
        refine seq_by (fun δ => ∃ (A B FD' : List Int) (y10 y12 : Option R), FI n par w S2 A B ∧ FD'.length = n ∧ (∀ low ∈ W2 (par w), F1 par w S2 low (FD'[low]?)) ∧ (∀ low : Nat, F1 par w S2 low (FD[low]?) → F1 par w S2 low (FD'[low]?)) ∧ δ = DLT S2 A B FD' aw mw2 (some (.d (.int (w : Int)))) y8 (some (.d (.int (par w : Int)))) y10 y12) (fun δ hK => ?_) (fun N2 hN2 => ?_)
        rotate_left
        · obtain ⟨J, hJ2⟩ : ∃ J : Nat → Dl → Prop, ∀ j δ, J j δ ↔ ∃ (A B FD' : List Int) (y10 y12 : Option R), FI n par w S2 A B ∧ FD'.length = n ∧ (∀ low ∈ (W2 (par w)).take j, F1 par w S2 low (FD'[low]?)) ∧ (∀ low : Nat, F1 par w S2 low (FD[low]?) → F1 par w S2 low (FD'[low]?)) ∧ δ = DLT S2 A B FD' aw mw2 (some (.d (.int (w : Int)))) y8 (some (.d (.int (par w : Int)))) y10 y12 := ⟨_, fun _ _ => Iff.rfl⟩
          refine dForV_w bp (niD (W2 (par w))) (fun Ψ hΨ => ?_) J ((hJ2 _ _).mpr ⟨A.set w (par w : Int), B, FD, y10, y12, hF3, hS.fl, fun low hl => by simp at hl, fun low h => h, by rw [hDLT]⟩) (fun j δ hJ3 => ?_) (fun j y δ hy hJ3 => ?_) (fun δ hJ3 => ?_)
          · simp [hW2.top, hbp2]
            exact hΨ
          · obtain ⟨A, B, FD', y10, y12, _, _, _, _, rfl⟩ := (hJ2 _ _).mp hJ3
            rw [hDLT]
            exact ⟨_, _, rfl, hrow2⟩
          · obtain ⟨A, B, FD', y10, y12, hF4, hfl, hdone, hkeep, rfl⟩ := (hJ2 _ _).mp hJ3
            unfold niD at hy
            rw [List.getElem?_map] at hy
            obtain ⟨low, hlow, rfl⟩ := Option.map_eq_some_iff.mp hy
            obtain ⟨b1, b2, b3, b4⟩ := BK low (List.mem_of_getElem? hlow)
            rw [hDLT]
            simp only [dgName]
            refine seq_op fun N3 hN3 => ?_
            simp [hf, l4, -List.lookup_eq_none_iff]
            refine ⟨f, dx, s, a, b, n, w, par, S2, A, B, low, rfl, (hM _ _ _), rfl, TT.lt, hn, hF4, b2, fun A' B' u hF' hun hu1 hu2 => ?_⟩
            intro _
            rw [← hM]
            refine hN3 _ ?_
            clear hN3 N3
            obtain ⟨q1, q2, q3⟩ := hu2 b1
            have su := (hi2 u q2 hun).1
            have sl := (hi2 low b1 b2).1
            have hf1 : F1 par w S2 low (some (((if smF S2 u < smF S2 low then u else smF S2 low) : Nat) : Int)) := by
              refine ⟨u, q1, by rw [b3]; exact (b4 u q1).mpr q2, fun y hy hsy => ?_, rfl⟩
              rw [b3] at hsy
              have hwy := (b4 y hy).mp hsy
              refine ⟨hwy, ?_⟩
              have := q3 y hy hwy
              unfold smF
              omega
            rw [b3] at hf1 sl
            have fin : J (j + 1) [some (.d PD), some (.d QD), some (.d (.int n)), some (.reg (.ref f) (M S2 A' B')), some (.raw (.ref s)), some (.own o ((FD'.set low (((if smF S2 u < par w then u else par w) : Nat) : Int)).map .int)), some (.reg (.ref aw) mw2), some (.d (.int (w : Int))), y8, some (.d (.int (par w : Int))), some (.d (.int (low : Int))), none, some (.d (.int (u : Int)))] := by
              have setF : ∀ low', F1 par w S2 low' (FD'[low']?) ∨ low' = low → F1 par w S2 low' ((FD'.set low (((if smF S2 u < par w then u else par w) : Nat) : Int))[low']?) := fun low' h => by
                by_cases q : low = low'
                · subst q
                  rw [List.getElem?_set_self (by rw [hfl]; exact b2)]
                  exact hf1
                · rw [List.getElem?_set_ne q]
                  rcases h with h | h
                  · exact h
                  · exact absurd h.symm q
              refine (hJ2 _ _).mpr ⟨A', B', _, _, _, hF', by rw [List.length_set]; exact hfl, fun low' hl => ?_, fun low' h => setF low' (.inl (hkeep low' h)), by rw [hDLT]⟩
              rw [List.take_add_one, hlow] at hl
              rcases List.mem_append.mp hl with hl | hl
              · exact setF low' (.inl (hdone low' hl))
              · exact setF low' (.inr (by simpa using hl))
            simp [hs, gat su, gat sl]
            rw [List.map_set] at fin
            have il : ixN FD'.length (low : Int) = some low := ixn (by rw [hfl]; exact b2)
            by_cases q : smF S2 u < par w
            · rw [if_pos q] at fin ⊢
              exact ⟨low, il, fin⟩
            · rw [if_neg q] at fin ⊢
              exact ⟨low, il, fin⟩
          · obtain ⟨A, B, FD', y10, y12, hF4, hfl, hdone, hkeep, rfl⟩ := (hJ2 _ _).mp hJ3
            have : (niD (W2 (par w))).length = (W2 (par w)).length := by simp [niD]
            rw [this, List.take_length] at hdone
            exact hN2 _ ⟨A, B, FD', y10, y12, hF4, hfl, hdone, hkeep, rfl⟩
        · obtain ⟨A', B', FD', y10', y12', hF4, hfl, hdone, hkeep, rfl⟩ := hK
          rw [hDLT]
          simp [hW2.top, glen, hW.len]
          intro b' nb'
          have hW3 := hW2.clear (s := par w) (by omega) nb'
          have nb2 : b' ∉ mw2.map (·.1) := nb'
          refine ⟨_, sat_old hW2.top (fun z => nb2 (z ▸ sat_dom hW2.top)), par w, by rw [List.length_map, hW.len]; exact ixn (by omega), ?_⟩
          refine (nx _).mpr ⟨S2, A', B', FD', aw, _, _, _, some (.d (.int (w : Int))), y8, some (.d (.int (par w : Int))), y10', y12', hF4, ⟨fun v hv hvn => ?_, hi2, hfl, fun s' => ?_, fun s' low hl => ?_, fun low h1 h2 => ?_⟩, hW3, by rw [hDLT]⟩
          · rw [hS2, List.getElem?_set_ne (by omega)]
            exact hS.lo v (by omega) hvn
          · unfold updW
            split
            · simp; omega
            · rw [hW2d]
              unfold updW
              split
              · have := hS.wn z
                rw [List.length_append, List.length_singleton]
                omega
              · have := hS.wn s'
                omega
          · unfold updW at hl
            split at hl
            · cases hl
            · rename_i hne
              have old : low ∈ W s' → w ≤ low ∧ low < n ∧ smF S2 low = s' ∧ ∀ ch, 0 < ch → par ch = s' → ch ≤ low → ch < w := fun hl => by
                obtain ⟨k1, k2, k3, k4⟩ := hS.w1 s' low hl
                refine ⟨by omega, k2, by rw [smo low (by omega)]; exact k3, fun ch c1 c2 c3 => ?_⟩
                have := k4 ch c1 c2 c3
                by_cases q : ch = w
                · rw [q] at c2; exact absurd c2.symm hne
                · omega
              rw [hW2d] at hl
              unfold updW at hl
              split at hl
              · rename_i hz'
                rcases List.mem_append.mp hl with hl | hl
                · exact old (by rw [hz']; exact hl)
                · rw [List.mem_singleton.mp hl]
                  refine ⟨Nat.le_refl _, hwn, by rw [smw, hz'], fun ch c1 c2 c3 => ?_⟩
                  by_cases q : ch = w
                  · rw [q] at c2; exact absurd c2.symm hne
                  · omega
              · exact old hl
          · by_cases q : smF S2 low = par w
            · have keepF : low ∈ W2 (par w) ∨ F1 par w S2 low (FD[low]?) → low ∈ updW W2 (par w) [] (smF S2 low) ∨ F1 par w S2 low (FD'[low]?) := fun h => by
                rcases h with h | h
                · exact .inr (hdone low h)
                · exact .inr (hkeep low h)
              refine keepF ?_
              by_cases q2 : low = w
              · refine .inl ?_
                rw [hW2d]
                unfold updW
                rw [q2, smw] at q
                rw [if_pos q.symm, q2]
                simp
              · rcases hS.w2 low (by omega) h2 with h | h
                · rw [smo low q2] at q
                  rw [q] at h
                  refine .inl ?_
                  rw [hW2d]
                  unfold updW
                  split
                  · rename_i e; rw [e] at h; exact List.mem_append_left _ h
                  · exact h
                · refine .inr ?_
                  rw [hS2]
                  exact h.set (by omega) _
            · have up : low ∈ W2 (smF S2 low) → low ∈ updW W2 (par w) [] (smF S2 low) ∨ F1 par w S2 low (FD'[low]?) := fun h => .inl (by unfold updW; rw [if_neg q]; exact h)
              by_cases q2 : low = w
              · refine up ?_
                rw [hW2d, q2, smw]
                unfold updW
                rw [if_pos rfl]
                simp
              · rcases hS.w2 low (by omega) h2 with h | h
                · refine up ?_
                  rw [smo low q2, hW2d]
                  unfold updW
                  split
                  · rename_i e; rw [e] at h; exact List.mem_append_left _ h
                  · exact h
                · refine .inr (hkeep low ?_)
                  rw [hS2]
                  exact h.set (by omega) _
    · obtain ⟨S, A, B, FD, aw, bs, mw, W, y7, y8, y9, y10, y12, hF, hS, hW, rfl⟩ := (hI _ _).mp hJ
      rw [rng3_len] at hF hS
      have e1 : n - (n - 1) = 1 := by omega
      rw [e1] at hF hS
      refine hN _ ⟨S, A, B, FD, aw, mw, y7, y8, y9, y10, y12, hS.fl, fun v h0 hv => ?_, rfl⟩
      have := hS.hi v h0 hv
      refine ⟨this.1, this.2, ?_⟩
      rcases hS.w2 v h0 hv with q | q
      · exfalso
        obtain ⟨_, _, _, k4⟩ := hS.w1 _ v q
        obtain ⟨ch, c1, c2, c3⟩ := child_of TT.lt (this.2.anc TT h0 hv) hv (this.2.lt TT h0 hv)
        have := k4 ch c1 c2 (Anc.le TT.lt c3 hv)
        omega
      · exact q
  obtain ⟨S, A, B, FD, aw, mw, y7, y8, y9, y10, y12, hfl, hall, rfl⟩ := hI
  have hSm : ∀ v, 0 < v → v < n → Sem n src (smF S v) v := fun v h1 h2 => (hall v h1 h2).2.1
  refine seq_by (fun δ => ∃ (FD' : List Int) (y7 : Option R), FD'.length = n ∧ FD'[0]? = FD[0]? ∧ (∀ v, 0 < v → v < n → ∃ d : Nat, FD'[v]? = some (d : Int) ∧ IsId n src d v) ∧ δ = DLT S A B FD' aw mw y7 y8 y9 y10 y12) (fun δ hK => ?_) (fun N hN => ?_)
  rotate_left
  · obtain ⟨I, hI⟩ : ∃ I : Nat → Dl → Prop, ∀ k δ, I k δ ↔ ∃ (FD' : List Int) (y7 : Option R), FD'.length = n ∧ FD'[0]? = FD[0]? ∧ (∀ v, 0 < v → v < k + 1 → ∃ d : Nat, FD'[v]? = some (d : Int) ∧ IsId n src d v) ∧ (∀ v, k < v → FD'[v]? = FD[v]?) ∧ δ = DLT S A B FD' aw mw y7 y8 y9 y10 y12 := ⟨_, fun _ _ => Iff.rfl⟩
    refine dFor_w (xs := rng 1 (n - 1)) (fun Ψ hΨ => ?_) I ((hI _ _).mpr ⟨FD, y7, hfl, rfl, fun v h1 h2 => by omega, fun _ _ => rfl, rfl⟩) (fun k y δ hy hJ => ?_) (fun δ hJ => ?_)
    · rw [hDLT]
      simp
      first | exact hΨ | exact ⟨by omega, hΨ⟩
    · obtain ⟨hk, rfl⟩ := rng_get hy
      obtain ⟨FD', y7, hfl', h00, hdone, hrest, rfl⟩ := (hI _ _).mp hJ
      obtain ⟨w, hw⟩ : ∃ w, w = k + 1 := ⟨_, rfl⟩
      rw [show (1 : Int) + (k : Int) = (w : Int) by omega]
      have hwn : w < n := by omega
      have hw0 : 0 < w := by omega
      obtain ⟨sw, smw, u, q1, q2, q3, q4⟩ := hall w hw0 hwn
      rw [← hrest w (by omega)] at q4
      have hul := Anc.le TT.lt q1 hwn
      have finw : ∀ (F2 : List Int) (d : Nat), F2.length = n → F2[0]? = FD[0]? → F2[w]? = some (d : Int) → IsId n src d w → (∀ v, v ≠ w → F2[v]? = FD'[v]?) → I (k + 1) [some (.d PD), some (.d QD), some (.d (.int n)), some (.reg (.ref f) (M S A B)), some (.raw (.ref s)), some (.own o (F2.map .int)), some (.reg (.ref aw) mw), some (.d (.int (w : Int))), y8, y9, y10, none, y12] := fun F2 d h1 h0 h2 h3 h4 => by
        refine (hI _ _).mpr ⟨F2, _, h1, h0, fun v c1 c2 => ?_, fun v c1 => by rw [h4 v (by omega)]; exact hrest v (by omega), by rw [hDLT]⟩
        by_cases e : v = w
        · rw [e]; exact ⟨d, h2, h3⟩
        · rw [h4 v e]; exact hdone v c1 (by omega)
      rw [hDLT]
      simp only [dgName]
      by_cases c : smF S u < smF S w
      · rw [if_pos c] at q4
        have huw : u ≠ w := fun z => by rw [z] at c; omega
        obtain ⟨d, e1, e2⟩ := hdone u (by omega) (by omega)
        have ne : ¬ u = smF S w := by omega
        have nei : ¬ (u : Int) = (smF S w : Int) := by omega
        have id := id_of TT hSm hw0 hwn q1 q2 (fun y h1 h2 => (q3 y h1 h2).2) c e2
        simp [hs, gat sw, int_at q4, ne, nei, int_at e1]
        refine ⟨w, by rw [hfl']; exact ixn hwn, ?_⟩
        have := finw (FD'.set w (d : Int)) d (by rw [List.length_set]; exact hfl') (by rw [List.getElem?_set_ne (by omega)]; exact h00) (List.getElem?_set_self (by rw [hfl']; exact hwn)) id (fun v hv => List.getElem?_set_ne (fun z => hv z.symm))
        rw [List.map_set] at this
        exact this
      · rw [if_neg c] at q4
        have id := id_semi TT hSm hw0 hwn (fun y h1 h2 => by have := (q3 y h1 h2).2; omega)
        simp [hs, gat sw, int_at q4]
        exact finw FD' _ hfl' h00 q4 id fun _ _ => rfl
    · obtain ⟨FD', y7, hfl', h00, hdone, hrest, rfl⟩ := (hI _ _).mp hJ
      rw [rng_len] at hdone
      exact hN _ ⟨FD', y7, hfl', h00, fun v h1 h2 => hdone v h1 (by omega), rfl⟩
  obtain ⟨FD', y7, hfl', h00, hdone, rfl⟩ := hK
  rw [hDLT]
  simp
  exact h FD' hfl' hdone


/-! ### what the walk enters, by places -/
theorem idx_pre {α : Type} [BEq α] [LawfulBEq α] {E F : List α} (h : E <+: F) (nd : F.Nodup) {i : Nat} {x : α} (hx : E[i]? = some x) : F.idxOf x = i ∧ F[i]? = some x := by
  obtain ⟨T, rfl⟩ := h
  have hi := (List.getElem?_eq_some_iff.mp hx).1
  have e : (E ++ T)[i]? = some x := by rw [List.getElem?_append_left hi]; exact hx
  refine ⟨?_, e⟩
  have hm := List.mem_of_getElem? e
  have il : (E ++ T).idxOf x < (E ++ T).length := List.idxOf_lt_length_iff.mpr hm
  obtain ⟨h1, h2⟩ := List.getElem?_eq_some_iff.mp e
  refine (List.getElem_inj (h₀ := il) (h₁ := h1) nd).mp ?_
  rw [List.getElem_idxOf il, h2]
def parP (E : List Nat) (L : List (Nat × Nat)) (i : Nat) : Nat := match L[i - 1]? with
  | some p => E.idxOf p.2
  | none => 0
section
variable {G : Nat → List Nat}
theorem ent_grow : ∀ (n : Nat) (s : Wk Nat), s.ent <+: (wrun G n s).ent ∧ s.log <+: (wrun G n s).log
  | 0, s => ⟨List.prefix_refl _, List.prefix_refl _⟩
  | n + 1, s => by
    have ih := ent_grow n (wstep G s)
    have one : s.ent <+: (wstep G s).ent ∧ s.log <+: (wstep G s).log := by
      cases hp : s.path with
      | nil => rw [wstep_nil hp]; exact ⟨List.prefix_refl _, List.prefix_refl _⟩
      | cons p rest =>
        obtain ⟨x, k⟩ := p
        cases e : (G x)[k]? with
        | none => rw [wstep_out hp e]; exact ⟨List.prefix_refl _, List.prefix_refl _⟩
        | some t =>
          by_cases m : t ∈ s.ent
          · rw [wstep_old hp e m]; exact ⟨List.prefix_refl _, List.prefix_refl _⟩
          · rw [wstep_new hp e m]; exact ⟨List.prefix_append _ _, List.prefix_append _ _⟩
    exact ⟨one.1.trans ih.1, one.2.trans ih.2⟩
structure WT (G : Nat → List Nat) (E : List Nat) (L : List (Nat × Nat)) (s : Wk Nat) : Prop where
  ll : s.log.length + 1 = s.ent.length
  lg : ∀ i p, s.log[i]? = some p → ∃ j, j ≤ i ∧ s.ent[j]? = some p.2 ∧ s.ent[i + 1]? = some p.1 ∧ p.1 ∈ G p.2
  qq : ∀ q ∈ s.path, ∀ i, E.idxOf q.1 ≤ i → i < s.ent.length → Anc (parP E L) (E.idxOf q.1) i
  ss : s.path.Pairwise fun p q => E.idxOf q.1 < E.idxOf p.1
  dd : ∀ x ∈ s.left, ∀ y ∈ G x, E.idxOf x < E.idxOf y → Anc (parP E L) (E.idxOf x) (E.idxOf y)
  rr : ∀ i, 0 < i → i < s.ent.length → Anc (parP E L) (parP E L i) (i - 1)
theorem wt_init {E : List Nat} {L : List (Nat × Nat)} (h : E.idxOf 0 = 0) : WT G E L (winit 0) := by
  refine ⟨rfl, fun i p hp => by simp [winit] at hp, fun q hq i h1 h2 => ?_, by simp [winit], fun x hx => by simp [winit] at hx, fun i h1 h2 => ?_⟩
  · have hq : q = (0, 0) := by simpa [winit] using hq
    have h2 : i < 1 := h2
    rw [hq]
    show Anc _ (E.idxOf 0) i
    rw [h, show i = 0 by omega]
    exact .refl _
  · have h2 : i < 1 := h2
    omega
theorem wt_step {E : List Nat} {L : List (Nat × Nat)} (nd : E.Nodup) {s : Wk Nat} (ho : WOk G 0 s) (h : WT G E L s) (pe : (wstep G s).ent <+: E) (pl : (wstep G s).log <+: L) : WT G E L (wstep G s) := by
  cases hp : s.path with
  | nil => rw [wstep_nil hp]; exact h
  | cons p rest =>
    obtain ⟨x, k⟩ := p
    have qq := h.qq
    have ss := h.ss
    have pm := ho.pm
    rw [hp] at qq ss pm
    have hx : x ∈ s.ent := pm.mem_iff.mp (List.mem_append_right _ (List.mem_cons_self ..))
    have ss2 := List.pairwise_cons.mp ss
    cases e : (G x)[k]? with
    | none =>
      rw [wstep_out hp e] at pe pl ⊢
      have pe : s.ent <+: E := pe
      refine ⟨h.ll, h.lg, fun q hq => qq q (List.mem_cons_of_mem _ hq), ss2.2, fun y hy z hz hlt => ?_, h.rr⟩
      rcases List.mem_append.mp hy with hy | hy
      · exact h.dd y hy z hz hlt
      · rw [List.mem_singleton.mp hy] at hz hlt ⊢
        have hze : z ∈ s.ent := by
          have pt := ho.pt (x, k) (by rw [hp]; exact List.mem_cons_self ..) z
          rw [List.take_of_length_le (List.getElem?_eq_none_iff.mp e)] at pt
          exact pt hz
        obtain ⟨i, hi⟩ := List.getElem?_of_mem hze
        have hiz := (idx_pre pe nd hi).1
        refine qq (x, k) (List.mem_cons_self ..) _ (Nat.le_of_lt hlt) ?_
        rw [hiz]
        exact (List.getElem?_eq_some_iff.mp hi).1
    | some t =>
      by_cases m : t ∈ s.ent
      · rw [wstep_old hp e m] at pe pl ⊢
        refine ⟨h.ll, h.lg, fun q hq => ?_, ?_, h.dd, h.rr⟩
        · rcases List.mem_cons.mp hq with hq | hq
          · subst hq; exact qq (x, k) (List.mem_cons_self ..)
          · exact qq q (List.mem_cons_of_mem _ hq)
        · exact List.pairwise_cons.mpr ⟨ss2.1, ss2.2⟩
      · rw [wstep_new hp e m] at pe pl ⊢
        have pe : s.ent ++ [t] <+: E := pe
        have pl : s.log ++ [(t, x)] <+: L := pl
        obtain ⟨j, hj⟩ := List.getElem?_of_mem hx
        have hjl := (List.getElem?_eq_some_iff.mp hj).1
        have hjx := (idx_pre ((List.prefix_append _ _).trans pe) nd hj).1
        have het : (s.ent ++ [t])[s.ent.length]? = some t := by simp
        have htx := (idx_pre pe nd het).1
        have hpar : parP E L s.ent.length = E.idxOf x := by
          unfold parP
          have el : L[s.ent.length - 1]? = some (t, x) := by
            obtain ⟨Tl, hTl⟩ := pl
            rw [← hTl, show s.ent.length - 1 = s.log.length by have := h.ll; omega]
            simp
          rw [el]
        have top : ∀ i, E.idxOf x ≤ i → i < s.ent.length → Anc (parP E L) (E.idxOf x) i := qq (x, k) (List.mem_cons_self ..)
        have below : ∀ q ∈ (x, k + 1) :: rest, E.idxOf q.1 ≤ E.idxOf x ∧ ∀ i, E.idxOf q.1 ≤ i → i < s.ent.length → Anc (parP E L) (E.idxOf q.1) i := fun q hq => by
          rcases List.mem_cons.mp hq with hq | hq
          · subst hq; exact ⟨Nat.le_refl _, top⟩
          · exact ⟨Nat.le_of_lt (ss2.1 q hq), qq q (List.mem_cons_of_mem _ hq)⟩
        have hup : ∀ u, Anc (parP E L) u (E.idxOf x) → Anc (parP E L) u s.ent.length := fun u hu => .up (by omega) (by rw [hpar]; exact hu)
        refine ⟨by simp only [List.length_append, List.length_singleton]; have := h.ll; omega, fun i p hi => ?_, fun q hq i h1 h2 => ?_, ?_, h.dd, fun i h1 h2 => ?_⟩
        · by_cases c : i < s.log.length
          · rw [List.getElem?_append_left c] at hi
            obtain ⟨j', k1, k2, k3, k4⟩ := h.lg i p hi
            exact ⟨j', k1, by rw [List.getElem?_append_left (List.getElem?_eq_some_iff.mp k2).1]; exact k2, by rw [List.getElem?_append_left (List.getElem?_eq_some_iff.mp k3).1]; exact k3, k4⟩
          · have hi2 := (List.getElem?_eq_some_iff.mp hi).1
            simp only [List.length_append, List.length_singleton] at hi2
            have ei : i = s.log.length := by omega
            subst ei
            rw [List.getElem?_append_right (Nat.le_refl _), Nat.sub_self] at hi
            have hi : (t, x) = p := by simpa using hi
            subst hi
            refine ⟨j, by have := h.ll; omega, by rw [List.getElem?_append_left hjl]; exact hj, by rw [h.ll]; exact het, List.mem_of_getElem? e⟩
        · have h2 : i < (s.ent ++ [t]).length := h2
          rw [List.length_append, List.length_singleton] at h2
          rcases List.mem_cons.mp hq with hq | hq
          · subst hq
            have h1 : E.idxOf t ≤ i := h1
            show Anc _ (E.idxOf t) i
            rw [htx] at h1 ⊢
            rw [show i = s.ent.length by omega]
            exact .refl _
          · obtain ⟨b1, b2⟩ := below q hq
            by_cases c : i < s.ent.length
            · exact b2 i h1 c
            · rw [show i = s.ent.length by omega]
              exact hup _ (b2 _ b1 (by omega))
        · refine List.pairwise_cons.mpr ⟨fun q hq => ?_, List.pairwise_cons.mpr ⟨ss2.1, ss2.2⟩⟩
          show E.idxOf q.1 < E.idxOf t
          have := (below q hq).1
          omega
        · have h2 : i < (s.ent ++ [t]).length := h2
          rw [List.length_append, List.length_singleton] at h2
          by_cases c : i < s.ent.length
          · exact h.rr i h1 c
          · rw [show i = s.ent.length by omega, hpar]
            exact top _ (by omega) (by omega)
theorem wt_run {E : List Nat} {L : List (Nat × Nat)} (nd : E.Nodup) : ∀ (n : Nat) (s : Wk Nat), WOk G 0 s → WT G E L s → (wrun G n s).ent <+: E → (wrun G n s).log <+: L → WT G E L (wrun G n s)
  | 0, _, _, h, _, _ => h
  | n + 1, s, ho, h, pe, pl => by
    have g := ent_grow (G := G) n (wstep G s)
    exact wt_run nd n (wstep G s) (wok_step ho) (wt_step nd ho h (g.1.trans pe) (g.2.trans pl)) pe pl
/-! ### reached without one: of nodes, of places -/
inductive RN {α : Type} (G : α → List α) (r c : α) : α → Prop
  | root : c ≠ r → RN G r c r
  | step {u v : α} : RN G r c u → v ∈ G u → v ≠ c → RN G r c v
theorem rn_self {α : Type} {G : α → List α} {r c : α} {v : α} (h : RN G r c v) : v ≠ c := by
  cases h with
  | root h => exact fun z => h z.symm
  | step _ _ h => exact h
theorem rn_reach {α : Type} {G : α → List α} {r c v : α} (h : RN G r c v) : Reach G r v := by
  induction h with
  | root _ => exact .root
  | step _ e _ ih => exact .next ih e
/-- what can't be reached is in no one's way -/
theorem rn_out {α : Type} {G : α → List α} {r c v : α} (h : Reach G r v) (hc : ¬ Reach G r c) : RN G r c v := by
  induction h with
  | root => exact .root fun z => hc (by rw [z]; exact .root)
  | next h e ih => exact .step ih e fun z => hc (by rw [← z]; exact .next h e)
/-- past d -/
theorem rn_past {α : Type} [DecidableEq α] {G : α → List α} {r c d v : α} (h : RN G r c v) : RN G r d v ∨ RN G r c d := by
  induction h with
  | root h =>
    by_cases q : d = r
    · rw [q]; exact .inr (.root h)
    · exact .inl (.root q)
  | @step u v h e n ih =>
    rcases ih with ih | ih
    · by_cases q : v = d
      · rw [← q]; exact .inr (.step h e n)
      · exact .inl (.step ih e q)
    · exact .inr ih
/-- the nearest dominator of x: x's dominators are x and d's -/
structure NId {α : Type} (G : α → List α) (r d x : α) : Prop where
  rch : Reach G r d
  no : RN G r x d
  iff : ∀ y, ¬ RN G r y x ↔ y = x ∨ ¬ RN G r y d
end
/-- places: what leads to each -/
def srcP (G : Nat → List Nat) (E : List Nat) (k : Nat) (w : Nat) : List Nat := (List.range k).flatMap fun v => ((G (E.getD v 0)).filter fun t => decide (t = E.getD w 0)).map fun _ => v
theorem srcP_mem {G : Nat → List Nat} {E : List Nat} {k w v : Nat} : v ∈ srcP G E k w ↔ v < k ∧ E.getD w 0 ∈ G (E.getD v 0) := by
  unfold srcP
  rw [List.mem_flatMap]
  constructor
  · rintro ⟨u, hu, hv⟩
    obtain ⟨t, ht, e⟩ := List.mem_map.mp hv
    have e : u = v := e
    subst e
    obtain ⟨h1, h2⟩ := List.mem_filter.mp ht
    exact ⟨List.mem_range.mp hu, by rw [← of_decide_eq_true h2]; exact h1⟩
  · rintro ⟨h1, h2⟩
    exact ⟨v, List.mem_range.mpr h1, List.mem_map.mpr ⟨_, List.mem_filter.mpr ⟨h2, decide_eq_true rfl⟩, rfl⟩⟩
section
variable {G : Nat → List Nat} {E : List Nat} {L : List (Nat × Nat)}
theorem dtr_of {s : Wk Nat} (ho : WOk G 0 s) (hp : s.path = []) (h : WT G s.ent s.log s) : DTr s.ent.length (parP s.ent s.log) (srcP G s.ent s.ent.length) := by
  have hr := ho.reached hp
  have gd : ∀ {i x : Nat}, s.ent[i]? = some x → s.ent.getD i 0 = x := fun {i x} e => by rw [List.getD_eq_getElem?_getD, e]; rfl
  have at_ : ∀ {i : Nat}, i < s.ent.length → s.ent[i]? = some (s.ent.getD i 0) := fun {i} hi => by
    have e := List.getElem?_eq_getElem hi
    rw [gd e]; exact e
  have par : ∀ i, 0 < i → i < s.ent.length → ∃ j, j < i ∧ parP s.ent s.log i = j ∧ s.ent.getD i 0 ∈ G (s.ent.getD j 0) := fun i h1 h2 => by
    have hl := h.ll
    obtain ⟨p, hpp⟩ : ∃ p, s.log[i - 1]? = some p := ⟨_, List.getElem?_eq_getElem (by omega)⟩
    obtain ⟨j, k1, k2, k3, k4⟩ := h.lg _ p hpp
    rw [show i - 1 + 1 = i by omega] at k3
    refine ⟨j, by omega, ?_, by rw [gd k3, gd k2]; exact k4⟩
    unfold parP
    rw [hpp]
    exact (idx_pre (List.prefix_refl _) ho.nd k2).1
  refine ⟨fun i h1 h2 => ?_, h.rr, fun w hw v hv => ?_, fun i h1 h2 => ?_⟩
  · obtain ⟨j, k1, k2, _⟩ := par i h1 h2
    omega
  · obtain ⟨h1, h2⟩ := srcP_mem.mp hv
    refine ⟨h1, fun hlt => ?_⟩
    have ev := (idx_pre (List.prefix_refl _) ho.nd (at_ h1)).1
    have ew := (idx_pre (List.prefix_refl _) ho.nd (at_ hw)).1
    have := h.dd _ (hr.1.mem_iff.mpr (List.mem_of_getElem? (at_ h1))) _ h2 (by rw [ev, ew]; exact hlt)
    rw [ev, ew] at this
    exact this
  · obtain ⟨j, k1, k2, k3⟩ := par i h1 h2
    exact srcP_mem.mpr ⟨by omega, by rw [k2]; exact k3⟩
/-- of places as of nodes -/
theorem ra_rn {s : Wk Nat} (ho : WOk G 0 s) (hp : s.path = []) (h0 : s.ent[0]? = some 0) {c : Nat} (hc : c < s.ent.length) : ∀ w, w < s.ent.length → (RA s.ent.length (srcP G s.ent s.ent.length) c w ↔ RN G 0 (s.ent.getD c 0) (s.ent.getD w 0)) := by
  have hr := ho.reached hp
  have gd : ∀ {i x : Nat}, s.ent[i]? = some x → s.ent.getD i 0 = x := fun {i x} e => by rw [List.getD_eq_getElem?_getD, e]; rfl
  have at_ : ∀ {i : Nat}, i < s.ent.length → s.ent[i]? = some (s.ent.getD i 0) := fun {i} hi => by
    have e := List.getElem?_eq_getElem hi
    rw [gd e]; exact e
  have inj : ∀ {i j : Nat}, i < s.ent.length → j < s.ent.length → s.ent.getD i 0 = s.ent.getD j 0 → i = j := fun {i j} hi hj e => by
    have a := (idx_pre (List.prefix_refl _) ho.nd (at_ hi)).1
    have b := (idx_pre (List.prefix_refl _) ho.nd (at_ hj)).1
    rw [e] at a
    omega
  intro w hw
  constructor
  · intro h
    have key : ∀ {w : Nat}, RA s.ent.length (srcP G s.ent s.ent.length) c w → w < s.ent.length → RN G 0 (s.ent.getD c 0) (s.ent.getD w 0) := fun {w} h => by
      induction h with
      | root hne =>
        intro hw
        rw [gd h0]
        exact .root fun z => hne (inj hc hw (by rw [z, gd h0]))
      | @step u v hu hv e hne ih =>
        intro _
        obtain ⟨e1, e2⟩ := srcP_mem.mp e
        exact .step (ih e1) e2 fun z => hne (inj hv hc z)
    exact key h hw
  · intro h
    have key : ∀ {y : Nat}, RN G 0 (s.ent.getD c 0) y → ∀ w, w < s.ent.length → s.ent.getD w 0 = y → RA s.ent.length (srcP G s.ent s.ent.length) c w := fun {y} h => by
      induction h with
      | root hne =>
        intro w hw e
        have : w = 0 := inj hw (List.getElem?_eq_some_iff.mp h0).1 (by rw [e, gd h0])
        subst this
        exact .root fun z => hne (by rw [z, gd h0])
      | @step u v hu e hne ih =>
        intro w hw ew
        have hue : u ∈ s.ent := (hr.2 u).mpr (rn_reach hu)
        obtain ⟨i, hi⟩ := List.getElem?_of_mem hue
        have hil := (List.getElem?_eq_some_iff.mp hi).1
        exact .step (ih i hil (gd hi)) hw (srcP_mem.mpr ⟨hil, by rw [ew, gd hi]; exact e⟩) fun z => hne (by rw [← ew, z])
    exact key h w hw rfl
theorem DTr.zero {n : Nat} {par : Nat → Nat} {src : Nat → List Nat} (T : DTr n par src) : ∀ w, w < n → Anc par 0 w := by
  intro w
  induction w using Nat.strongRecOn with
  | _ w ih =>
    intro hw
    by_cases q : w = 0
    · rw [q]; exact .refl _
    · have l := T.lt w (by omega) hw
      exact .up (by omega) (ih _ l (by omega))
theorem nid_of {s : Wk Nat} (ho : WOk G 0 s) (hp : s.path = []) (h0 : s.ent[0]? = some 0) (h : WT G s.ent s.log s) {d w : Nat} (hw : w < s.ent.length) (hd : IsId s.ent.length (srcP G s.ent s.ent.length) d w) : NId G 0 (s.ent.getD d 0) (s.ent.getD w 0) := by
  have T := dtr_of ho hp h
  have hr := ho.reached hp
  have hdl := hd.lt
  have at_ : ∀ {i : Nat}, i < s.ent.length → s.ent.getD i 0 ∈ s.ent := fun {i} hi => by rw [List.getD_eq_getElem?_getD, List.getElem?_eq_getElem hi]; exact List.getElem_mem hi
  have hra := fun {c : Nat} (hc : c < s.ent.length) => ra_rn ho hp h0 hc
  refine ⟨(hr.2 _).mp (at_ (by omega)), (hra hw d (by omega)).mp (ra_low T d hdl (by omega)), fun y => ?_⟩
  by_cases hy : y ∈ s.ent
  · obtain ⟨c, hcy⟩ := List.getElem?_of_mem hy
    have hc := (List.getElem?_eq_some_iff.mp hcy).1
    have ey : s.ent.getD c 0 = y := by rw [List.getD_eq_getElem?_getD, hcy]; rfl
    rw [← ey, ← hra hc w hw, ← hra hc d (by omega)]
    have inj : s.ent.getD c 0 = s.ent.getD w 0 → c = w := fun e => by
      have a := (idx_pre (List.prefix_refl _) ho.nd hcy).1
      obtain ⟨z, hz⟩ : ∃ z, s.ent[w]? = some z := ⟨_, List.getElem?_eq_getElem hw⟩
      have b := (idx_pre (List.prefix_refl _) ho.nd hz).1
      have e2 : s.ent.getD w 0 = z := by rw [List.getD_eq_getElem?_getD, hz]; rfl
      rw [← ey, e, e2] at a
      omega
    constructor
    · intro hn
      by_cases q : c = w
      · exact .inl (by rw [q])
      · refine .inr fun hcd => hn ?_
        have hcw : c < w := by
          by_cases z : c < w
          · exact z
          · exact absurd (ra_low T w (by omega) hw) hn
        have hcd2 : c ≤ d := by
          by_cases z : c ≤ d
          · exact z
          · exact absurd (hd.none c (by omega) hcw) hn
        have hne : c ≠ d := fun z => by
          rw [z] at hcd
          have := (hra (c := d) (by omega) d (by omega)).mp hcd
          exact rn_self this rfl
        have hanc : Anc (parP s.ent s.log) d w := by
          by_cases z : Anc (parP s.ent s.log) d w
          · exact z
          · exfalso
            refine hd.dom ?_
            have hd0 : d ≠ 0 := fun e => z (by rw [e]; exact T.zero w hw)
            have key : ∀ v, v < s.ent.length → ¬ Anc (parP s.ent s.log) d v → RA s.ent.length (srcP G s.ent s.ent.length) d v := by
              intro v
              induction v using Nat.strongRecOn with
              | _ v ih =>
                intro hv hna
                by_cases q : v = 0
                · rw [q]; exact .root hd0
                · have l := T.lt v (by omega) hv
                  exact .step (ih _ l (by omega) fun z => hna (.up (by omega) z)) hv (T.tr v (by omega) hv) fun z => hna (by rw [z]; exact .refl _)
            exact key w hw z
        exact hcd.down T hanc hw (by omega)
    · rintro (q | q)
      · have : c = w := inj q
        subst this
        intro z
        have := (hra hc c hc).mp z
        exact rn_self this rfl
      · intro hcw
        have h1 := (hra hc w hw).mp hcw
        have h2 : ¬ RN G 0 (s.ent.getD d 0) (s.ent.getD w 0) := fun z => hd.dom ((hra (c := d) (by omega) w hw).mpr z)
        rcases rn_past (d := s.ent.getD d 0) h1 with z | z
        · exact h2 z
        · exact q ((hra hc d (by omega)).mpr z)
  · have hnr : ¬ Reach G 0 y := fun z => hy ((hr.2 y).mpr z)
    have a := rn_out ((hr.2 _).mp (at_ hw)) hnr
    have b := rn_out ((hr.2 _).mp (at_ (show d < s.ent.length by omega))) hnr
    constructor
    · intro z; exact absurd a z
    · rintro (z | z)
      · exact absurd (at_ hw) (by rw [← z]; exact hy)
      · exact absurd b z
end


/-! ### immediate -/
theorem par_keep {t : Nat} : ∀ (log : List (Nat × Nat)) (ps : List PyData), t ∉ log.map (·.1) → (log.foldl (fun ps p => ps.set p.1 (.int (p.2 : Int))) ps)[t]? = ps[t]?
  | [], _, _ => rfl
  | p :: log, ps, h => by
    rw [List.map_cons] at h
    have h := not_or.mp (fun z => h (List.mem_cons.mpr z))
    rw [List.foldl_cons, par_keep log _ h.2, List.getElem?_set_ne (fun z => h.1 z.symm)]
theorem par_get {t x : Nat} : ∀ (log : List (Nat × Nat)) (ps : List PyData) (i : Nat), (log.map (·.1)).Nodup → log[i]? = some (t, x) → t < ps.length → (log.foldl (fun ps p => ps.set p.1 (.int (p.2 : Int))) ps)[t]? = some (.int (x : Int))
  | [], _, _, _, h, _ => by cases h
  | p :: log, ps, 0, nd, h, hl => by
    have nd := List.nodup_cons.mp nd
    have h : p = (t, x) := by simpa using h
    subst h
    rw [List.foldl_cons, par_keep log _ nd.1, List.getElem?_set_self hl]
  | p :: log, ps, i + 1, nd, h, hl => by
    have nd := List.nodup_cons.mp nd
    rw [List.foldl_cons]
    exact par_get log _ i nd.2 h (by rw [List.length_set]; exact hl)
theorem WR.congr {n : Nat} {m : Sto} {a : Addr} {bs : List Addr} {W W' : Nat → List Nat} (h : WR n m a bs W) (e : ∀ v, v < n → W v = W' v) : WR n m a bs W' :=
  ⟨h.len, h.nd, h.top, fun v b hv => by rw [← e v (by rw [← h.len]; exact (List.getElem?_eq_some_iff.mp hv).1)]; exact h.row v b hv⟩
theorem wr_new {n : Nat} {a : Addr} {bs : List Addr} (hl : bs.length = n) (hna : a ∉ bs) (nd : bs.Nodup) : WR n ((a, .l (bs.map .r)) :: bs.map fun b => (b, .l [])) a bs fun _ => [] := by
  refine ⟨hl, List.nodup_cons.mpr ⟨hna, nd⟩, by rw [sat_cons, if_pos rfl], fun v b hv => ?_⟩
  have hbm := List.mem_of_getElem? hv
  rw [sat_cons, if_neg (show ¬ a = b from fun z => hna (by rw [z]; exact hbm))]
  clear hl hna hv
  induction bs with
  | nil => cases hbm
  | cons c bs ih =>
    rw [List.map_cons, sat_cons]
    by_cases e : c = b
    · rw [if_pos e]; rfl
    · rw [if_neg e]
      rcases List.mem_cons.mp hbm with q | q
      · exact absurd q.symm e
      · exact ih (List.nodup_cons.mp nd).2 q
theorem srcP_len {G : Nat → List Nat} {E : List Nat} (h : ∀ x ∈ E, (G x).length ≤ 1000) (w : Nat) : ∀ k, k ≤ E.length → (srcP G E k w).length ≤ 1000 * k
  | 0, _ => by simp [srcP]
  | k + 1, hk => by
    have ih := srcP_len h w k (by omega)
    unfold srcP at ih ⊢
    rw [List.range_succ, List.flatMap_append, List.length_append]
    have e : E.getD k 0 ∈ E := by rw [List.getD_eq_getElem?_getD, List.getElem?_eq_getElem (by omega)]; exact List.getElem_mem _
    have := h _ e
    have hf := List.length_filter_le (fun t => decide (t = E.getD w 0)) (G (E.getD k 0))
    rw [List.flatMap_cons, List.flatMap_nil, List.append_nil, List.length_map]
    omega
def vp_immediate : VSp := fun rs Φ => ∃ G : List (List Nat), rs = [.d (wD G)] ∧ GNs G ∧ ∀ R : List Int, R.length = G.length → (∀ x, x < G.length → (x = 0 ∨ ¬ Reach (gN G) 0 x) → R[x]? = some (-1)) →
  (∀ x, x < G.length → x ≠ 0 → Reach (gN G) 0 x → ∃ d : Nat, d < G.length ∧ R[x]? = some (d : Int) ∧ NId (gN G) 0 d x) → Φ (.own (R.map .int))
theorem len_immediate : ∀ rs Φ, vp_immediate rs Φ → rs.length = 1 := fun rs Φ ⟨_, e, _⟩ => by rw [e]; rfl
theorem G_immediate (T : Txt K mg) : FnOk P w K mg base CX0 4 T.f_immediate T.fd_immediate ["targets"] (toSp K 1 vp_immediate) := by
  refine fn_ok T.F_immediate sc_immediate fun cdv A outer s H E hr => ⟨_, (pss_cons (ps_asg (pe_call (G_walk T) (hr.mono (by decide)) (by rfl) T.g_walk T.F_walk.kp T.b_walk .nil pass0 (pa_cons (pv 0) pa_nil)) (pg_tup (n := 3) rfl (pgs_cons (pg_name (i := 5) sc_immediate.nd rfl (Or.inl rfl)) (pgs_cons (pg_name (i := 6) sc_immediate.nd rfl (Or.inl rfl)) (pgs_cons (pg_name (i := 7) sc_immediate.nd rfl (Or.inr rfl)) pgs_nil)))))
 (pss_cons (ps_set (i := 1) sc_immediate.nd rfl (Or.inr rfl) (pe_op op_rep (pe_lst (pa_cons (pe_un un_neg pe_int) pa_nil)) (pe_callB (kx_len (K := K) rfl) (by rfl) T.len PySem.boot_len (pa_cons (pv 0) pa_nil))))
 (pss_cons (ps_for PassesOwn.never rfl (pi_enum (by rfl) T.enumerate (pa_cons (pv 5) pa_nil)) (pg_tup (n := 2) rfl (pgs_cons (pg_name (i := 8) sc_immediate.nd rfl (Or.inl rfl)) (pgs_cons (pg_name (i := 9) sc_immediate.nd rfl (Or.inl rfl)) pgs_nil))) (pss_one (ps_asg (pv 8) (pg_sub (pv 1) (pv 9) set_list))))
 (pss_cons (ps_setLc (i := 2) (own := [("_", 6)]) (g := gName 6) (tt := tYes) rfl sc_immediate.nd rfl rfl (sw_true rfl rfl rfl (by decide +kernel)) ((kpi_list (K := K) rfl (pv 5))) (blkOk_by (N := ["targets", "places", "sources", "found", "places_above", "entered", "_", "parents", "place", "node", "target"]) (sc := defScope simmediate) (by decide +kernel)) (fun _ _ _ _ _ => pg_name (i := 6) sc_immediate.nd rfl (Or.inl rfl)) (fun _ _ _ _ _ => pts_nil) (fun _ _ _ _ _ => (pe_lst pa_nil)))
 (pss_cons (ps_for PassesOwn.never rfl (pi_enum (by rfl) T.enumerate (pa_cons (pv 5) pa_nil)) (pg_tup (n := 2) rfl (pgs_cons (pg_name (i := 8) sc_immediate.nd rfl (Or.inl rfl)) (pgs_cons (pg_name (i := 9) sc_immediate.nd rfl (Or.inl rfl)) pgs_nil))) (pss_one (ps_for PassesOwn.never rfl ((kpi_list (K := K) rfl (pe_ix (kx_seq (K := K) rfl) (pv 0) (pv 9) (fun _ _ => rfl)))) (pg_name (i := 10) sc_immediate.nd rfl (Or.inl rfl)) (pss_one (ps_expr (pe_bm PySem.F.plainAttrs_list PySem.F.slot_list_append PySem.F.type_list_append mt_append (pe_ix (kx_seq (K := K) rfl) (pv 2) (pe_ix (kx_seq (K := K) rfl) (pv 1) (pv 10) (fun _ _ => rfl)) (fun _ _ => rfl)) (pa_cons (pv 8) pa_nil)))))))
 (pss_cons (ps_set (i := 3) sc_immediate.nd rfl (Or.inl rfl) (pe_op op_rep (pe_lst (pa_cons (pe_un un_neg pe_int) pa_nil)) (pe_callB (kx_len (K := K) rfl) (by rfl) T.len PySem.boot_len (pa_cons (pv 0) pa_nil))))
 (pss_cons (ps_set (i := 4) sc_immediate.nd rfl (Or.inl rfl) (pe_call (G__dominating_places T) hr (by rfl) T.g__dominating_places T.F__dominating_places.kp T.b__dominating_places .nil pass0 (pa_cons (pe_lc (own := [("node", 9)]) (g := gName 9) (tt := tYes) rfl sc_immediate.nd ((kpi_list (K := K) rfl (pv 5))) (blkOk_by (N := ["targets", "places", "sources", "found", "places_above", "entered", "_", "parents", "place", "node", "target"]) (sc := defScope simmediate) (by decide +kernel)) (fun _ _ _ _ _ => pg_name (i := 9) sc_immediate.nd rfl (Or.inl rfl)) (fun _ _ _ _ _ => pts_nil) (fun _ _ _ _ _ => (pe_ix (kx_seq (K := K) rfl) (pv 1) (pe_ix (kx_seq (K := K) rfl) (pv 7) (pv 9) (fun _ _ => rfl)) (fun _ _ => rfl)))) (pa_cons (pv 2) pa_nil))))
 (pss_cons (ps_for PassesOwn.never rfl (pi_enum (by rfl) T.enumerate (pa_cons (pv 5) pa_nil)) (pg_tup (n := 2) rfl (pgs_cons (pg_name (i := 8) sc_immediate.nd rfl (Or.inl rfl)) (pgs_cons (pg_name (i := 9) sc_immediate.nd rfl (Or.inl rfl)) pgs_nil))) (pss_one (ps_if (pt_cmpR op_gt (pv 8) pe_int (nomark _)) (pss_one (ps_asg (pe_ix (kx_seq (K := K) rfl) (pv 5) (pe_ix (kx_seq (K := K) rfl) (pv 4) (pv 8) (fun _ _ => rfl)) (fun _ _ => rfl)) (pg_sub (pv 3) (pv 9) set_list))) pss_nil)))
 (pss_one (ps_ret (pv 3))))))))))), _, fun ex He Hf => (sms_seq (sms_asg (sm_call len_walk (smq_cons (sm_var 0) smq_nil)) (smg_tup (smg_cons (smg_name 5) (smg_cons (smg_name 6) (smg_cons (smg_name 7) smg_nil)))))
 (sms_seq (sms_setO 1 (smo_rep (f2 := false) (SmO.sm (smo_lst (sma_cons (sm_un (f1 := false) (g' := fun i => .int (-i)) (fun _ => rfl) (sm_int _)) sma_nil))) (sm_cb (f1 := false) cbd_len (sma_cons (sm_var 0) sma_nil))))
 (sms_seq (sms_for (smi_enum (sm_var 5)) (smg_tup (smg_cons (smg_name 8) (smg_cons (smg_name 9) smg_nil)))
 (sms_setI (f2 := false) 1 (sm_var 8) (sm_var 9)))
 (sms_seq (sms_setNs 2 6 (smi_list (sm_var 5)))
 (sms_seq (sms_for (smi_enum (sm_var 5)) (smg_tup (smg_cons (smg_name 8) (smg_cons (smg_name 9) smg_nil)))
 (sms_for (smi_list (sm_ix (f2 := false) (sm_var 0) (sm_var 9))) (smg_name 10)
 (sms_appV 2 (smv_ix (f2 := false) 2 (smv_var 2) (sm_ix (f2 := false) (sm_varO 1) (sm_var 10))) (SmV.x (Sm.v (sm_var 8))))))
 (sms_seq (sms_setO 3 (smo_rep (f2 := false) (SmO.sm (smo_lst (sma_cons (sm_un (f1 := false) (g' := fun i => .int (-i)) (fun _ => rfl) (sm_int _)) sma_nil))) (sm_cb (f1 := false) cbd_len (sma_cons (sm_var 0) sma_nil))))
 (sms_seq (sms_settle 2 (sms_asg (SmO.sm (smo_call len__dominating_places (smq_cons (SmO.sm (smo_lc (i := 9) (smi_list (sm_var 5)) smt_yes (sm_ixO (f2 := false) 1 (sm_ix (f2 := false) (sm_var 7) (sm_var 9))))) (smq_cons (sm_var 2) smq_nil)))) (smg_name 4)))
 (sms_seq (sms_for (smi_enum (sm_var 5)) (smg_tup (smg_cons (smg_name 8) (smg_cons (smg_name 9) smg_nil)))
 (sms_if (smt_t (f1 := false) (sm_op (f1 := false) (f2 := false) (opd_I0 (g' := fun i j => .bool (decide (j < i))) fun _ _ => rfl) (sm_var 8) (sm_int _)))
 (sms_setI (f2 := false) 3 (sm_ix (f2 := false) (sm_var 5) (sm_ix (f2 := false) (sm_var 4) (sm_var 8))) (sm_var 9))
 sms_next))
 (sms_retO 3))))))))), ?_⟩
  rintro rs Φ ⟨G, rfl, hG, h⟩
  have gl := hG.few
  have g1 := hG.pos
  obtain ⟨GD, hGD⟩ : ∃ x : PyData, x = wD G := ⟨_, rfl⟩
  rw [← hGD]
  have gdl : GD = .list (G.map fun r => .list (r.map fun t : Nat => .int (t : Int))) := hGD
  have hrowD : ∀ {i : Nat}, i < G.length → atI (G.map fun r => PyData.list (r.map fun t : Nat => .int (t : Int))) (i : Int) = some (.list (niD (gN G i))) := fun {i} hi => atI_nat (by rw [List.getElem?_map, (hG.lt hi).1]; rfl)
  refine seq_op fun N hN => ?_
  simp
  refine ⟨G, by rw [hGD], hG, fun nw s hs hp => ?_⟩
  have hN0 : (0 : Nat) ∈ List.range G.length := List.mem_range.mpr (by omega)
  have hin := hs ▸ win_run hG.tgt nw (win_init hN0)
  have ho := hs ▸ wok_run nw (wok_init (G := gN G) 0)
  have hrd := ho.reached hp
  have hgr := hs ▸ ent_grow (G := gN G) nw (winit 0)
  have hi0 : s.ent.idxOf 0 = 0 ∧ s.ent[0]? = some 0 := idx_pre hgr.1 ho.nd (show (winit 0).ent[0]? = some 0 from rfl)
  have hwt : WT (gN G) s.ent s.log s := by
    have := wt_run (G := gN G) (E := s.ent) (L := s.log) ho.nd nw (winit 0) (wok_init 0) (wt_init hi0.1) (by rw [hs]; exact List.prefix_refl _) (by rw [hs]; exact List.prefix_refl _)
    rw [hs] at this
    exact this
  have T3 := dtr_of ho hp hwt
  obtain ⟨E, hE⟩ : ∃ E, E = s.ent := ⟨_, rfl⟩
  obtain ⟨m, hm⟩ : ∃ m, m = E.length := ⟨_, rfl⟩
  have hmn : m ≤ G.length := by
    have := nodup_le ho.nd hin.ent
    rw [List.length_range, ← hE, ← hm] at this
    exact this
  have hm1 : 1 ≤ m := by rw [hm, hE]; exact (List.getElem?_eq_some_iff.mp hi0.2).1
  have hEat : ∀ {i : Nat}, i < m → E[i]? = some (E.getD i 0) ∧ E.getD i 0 < G.length := fun {i} hi => by
    have e := List.getElem?_eq_getElem (l := E) (i := i) (by omega)
    have e2 : E.getD i 0 = E[i]'(by omega) := by rw [List.getD_eq_getElem?_getD, e]; rfl
    rw [e2]
    exact ⟨e, List.mem_range.mp (hin.ent _ (by rw [← hE]; exact List.getElem_mem _))⟩
  have hEinj : ∀ {i j : Nat}, i < m → j < m → E.getD i 0 = E.getD j 0 → i = j := fun {i j} hi hj e => by
    have nd : E.Nodup := hE ▸ ho.nd
    have a := (idx_pre (List.prefix_refl _) nd (hEat hi).1).1
    have b := (idx_pre (List.prefix_refl _) nd (hEat hj).1).1
    rw [e] at a
    omega
  refine ⟨_, rfl, rfl, _, _, rfl, _, _, rfl, _, _, rfl, rfl, hN _ ?_⟩
  clear hN N
  rw [← hE]
  obtain ⟨PD, hPD⟩ : ∃ x : PyData, x = .list (parW G.length s.log) := ⟨_, rfl⟩
  obtain ⟨ED, hED⟩ : ∃ x : PyData, x = .list (niD E) := ⟨_, rfl⟩
  obtain ⟨LD, hLD⟩ : ∃ x : PyData, x = .list (niD s.left) := ⟨_, rfl⟩
  rw [← hPD, ← hED, ← hLD]
  have hEnum : ∀ {k : Nat} {y : PyData}, (enumD (niD E))[k]? = some y → k < m ∧ y = .tuple [.int (k : Int), .int (E.getD k 0 : Nat)] := fun {k y} hy => by
    have hk := (List.getElem?_eq_some_iff.mp hy).1
    rw [enumD_len] at hk
    have hk2 : k < m := by simpa [niD, hm] using hk
    refine ⟨hk2, ?_⟩
    rw [enumD_get (x := .int ((E.getD k 0 : Nat) : Int)) (by unfold niD; rw [List.getElem?_map, (hEat hk2).1]; rfl)] at hy
    exact (Option.some.inj hy).symm
  have hEl : (enumD (niD E)).length = m := by rw [enumD_len]; simp [niD, hm]
  refine seq_op fun N hN => ?_
  simp [gdl, le_size, lt_size, cmul_l, cpow_l, cdiv_l]
  rw [← gdl]
  refine ⟨by omega, fz3 (by omega), fun o1 => hN _ ?_⟩
  clear hN N
  -- places
  refine seq_by (fun δ => ∃ (PL : List Int) (y8 y9 : Option R), PL.length = G.length ∧ (∀ i, i < m → PL[E.getD i 0]? = some (i : Int)) ∧ δ = [some (.d GD), some (.own o1 (PL.map .int)), none, none, none, some (.d ED), some (.d LD), some (.d PD), y8, y9, none]) (fun δ hI => ?_) (fun N hN => ?_)
  rotate_left
  · obtain ⟨I, hI⟩ : ∃ I : Nat → Dl → Prop, ∀ k δ, I k δ ↔ ∃ (PL : List Int) (y8 y9 : Option R), PL.length = G.length ∧ (∀ i, i < k → i < m → PL[E.getD i 0]? = some (i : Int)) ∧ δ = [some (.d GD), some (.own o1 (PL.map .int)), none, none, none, some (.d ED), some (.d LD), some (.d PD), y8, y9, none] := ⟨_, fun _ _ => Iff.rfl⟩
    refine dFor_w (xs := enumD (niD E)) (fun Ψ hΨ => by simpa [hED] using hΨ) I ((hI _ _).mpr ⟨List.replicate G.length (-1), none, none, by simp, fun i hi => by omega, by simp⟩) (fun k y δ hy hJ => ?_) (fun δ hJ => ?_)
    · obtain ⟨hk, rfl⟩ := hEnum hy
      obtain ⟨PL, y8, y9, hl, hpl, rfl⟩ := (hI _ _).mp hJ
      have he := (hEat hk).2
      simp [-List.getD_eq_getElem?_getD]
      refine ⟨E.getD k 0, by rw [hl]; exact ixn he, (hI _ _).mpr ⟨PL.set (E.getD k 0) (k : Int), some (.d (.int (k : Int))), some (.d (.int ((E.getD k 0 : Nat) : Int))), by rw [List.length_set]; exact hl, fun i hi him => ?_, by rw [List.map_set]⟩⟩
      by_cases q : E.getD k 0 = E.getD i 0
      · rw [q, List.getElem?_set_self (by rw [hl, ← q]; exact he), hEinj hk him q]
      · rw [List.getElem?_set_ne q]
        exact hpl i (by have : i ≠ k := fun z => q (by rw [z]); omega) him
    · obtain ⟨PL, y8, y9, hl, hpl, rfl⟩ := (hI _ _).mp hJ
      rw [hEl] at hpl
      exact hN _ ⟨PL, y8, y9, hl, fun i hi => hpl i hi hi, rfl⟩
  obtain ⟨PL, y8, y9, hl, hpl, rfl⟩ := hI
  have hplA : ∀ {i : Nat}, i < m → atI (PL.map PyData.int) ((E.getD i 0 : Nat) : Int) = some (.int (i : Int)) := fun {i} hi => int_at (hpl i hi)
  refine seq_op fun N hN => ?_
  simp [hED]
  refine ⟨fz4 (by simp [niD]; omega), fun aw bs hnw hnd hbl => ?_⟩
  rw [← hED]
  have hbl : bs.length = m := by rw [hbl]; simp [niD, hm]
  refine hN _ ?_
  clear hN N
  -- what leads to each place
  refine seq_by (fun δ => ∃ (mw : Sto) (y8 y9 y10 : Option R), WR m mw aw bs (srcP (gN G) E m) ∧ δ = [some (.d GD), some (.own o1 (PL.map .int)), some (.reg (.ref aw) mw), none, none, some (.d ED), some (.d LD), some (.d PD), y8, y9, y10]) (fun δ hI => ?_) (fun N hN => ?_)
  rotate_left
  · obtain ⟨I, hI⟩ : ∃ I : Nat → Dl → Prop, ∀ k δ, I k δ ↔ ∃ (mw : Sto) (y8 y9 y10 : Option R), WR m mw aw bs (srcP (gN G) E k) ∧ δ = [some (.d GD), some (.own o1 (PL.map .int)), some (.reg (.ref aw) mw), none, none, some (.d ED), some (.d LD), some (.d PD), y8, y9, y10] := ⟨_, fun _ _ => Iff.rfl⟩
    refine dFor_w (xs := enumD (niD E)) (fun Ψ hΨ => by simpa [hED] using hΨ) I ((hI _ _).mpr ⟨_, y8, y9, none, (wr_new hbl hnw hnd).congr fun v _ => by simp [srcP], by simp⟩) (fun k y δ hy hJ => ?_) (fun δ hJ => ?_)
    · obtain ⟨hk, rfl⟩ := hEnum hy
      obtain ⟨mw, y8, y9, y10, hW, rfl⟩ := (hI _ _).mp hJ
      have he := (hEat hk).2
      obtain ⟨e, hee⟩ : ∃ e, e = E.getD k 0 := ⟨_, rfl⟩
      rw [← hee] at he ⊢
      simp
      obtain ⟨Wj, hWj⟩ : ∃ Wj : Nat → Nat → List Nat, ∀ j w, Wj j w = srcP (gN G) E k w ++ (((gN G e).take j).filter fun t => decide (t = E.getD w 0)).map fun _ => k := ⟨_, fun _ _ => rfl⟩
      obtain ⟨J, hJ2⟩ : ∃ J : Nat → Dl → Prop, ∀ j δ, J j δ ↔ ∃ (mw : Sto) (y10 : Option R), WR m mw aw bs (Wj j) ∧ δ = [some (.d GD), some (.own o1 (PL.map .int)), some (.reg (.ref aw) mw), none, none, some (.d ED), some (.d LD), some (.d PD), some (.d (.int (k : Int))), some (.d (.int (e : Int))), y10] := ⟨_, fun _ _ => Iff.rfl⟩
      refine dFor_w (xs := niD (gN G e)) (fun Ψ hΨ => by simpa [gdl, hrowD he] using hΨ) J ((hJ2 _ _).mpr ⟨mw, y10, hW.congr fun v _ => by rw [hWj]; simp, rfl⟩) (fun j y δ hy hJ3 => ?_) (fun δ hJ3 => ?_)
      · obtain ⟨mw, y10, hW, rfl⟩ := (hJ2 _ _).mp hJ3
        unfold niD at hy
        rw [List.getElem?_map] at hy
        obtain ⟨t, ht, rfl⟩ := Option.map_eq_some_iff.mp hy
        have htm : t ∈ gN G e := List.mem_of_getElem? ht
        have hte : t ∈ E := by
          have heE : e ∈ s.ent := by rw [← hE, hee]; exact List.mem_of_getElem? (hEat hk).1
          rw [hE]
          exact (hrd.2 t).mpr (.next ((hrd.2 e).mp heE) htm)
        obtain ⟨i, hi⟩ := List.getElem?_of_mem hte
        have him : i < m := by rw [hm]; exact (List.getElem?_eq_some_iff.mp hi).1
        have hit : E.getD i 0 = t := by rw [List.getD_eq_getElem?_getD, hi]; rfl
        have hpt := hplA him
        rw [hit] at hpt
        obtain ⟨b, hb⟩ : ∃ b, bs[i]? = some b := ⟨_, List.getElem?_eq_getElem (by omega)⟩
        have hb2 : atI (bs.map CV.r) (i : Int) = some (.r b) := atI_nat (by rw [List.getElem?_map, hb]; rfl)
        have hrw := hW.row i b hb
        have hW2 := hW.app (x := k) hb
        have hlen : (Wj j i).length ≤ 1000 * m + 1000 := by
          rw [hWj, List.length_append, List.length_map]
          have a1 := srcP_len (G := gN G) (E := E) (fun x hx => (hG.lt (List.mem_range.mp (hin.ent x (hE ▸ hx)))).2) i k (by omega)
          have a2 := List.length_filter_le (fun t => decide (t = E.getD i 0)) ((gN G e).take j)
          have a3 : ((gN G e).take j).length ≤ (gN G e).length := by rw [List.length_take]; omega
          have a4 := (hG.lt he).2
          omega
        have hlw : (niD (Wj j i)).length < sizeLine := Nat.lt_of_le_of_lt (show (niD (Wj j i)).length ≤ 1001000 by unfold niD; rw [List.length_map]; omega) (by decide)
        simp [hpt, hW.top, hb2, hrw, hlw]
        refine ((hJ2 _ _).mpr ⟨_, some (.d (.int (t : Int))), hW2.congr fun v hv => ?_, by simp⟩)
        unfold updW
        by_cases q : v = i
        · subst q
          rw [if_pos rfl, hWj, hWj, List.take_add_one, ht]
          simp [hit, -List.getD_eq_getElem?_getD]
        · rw [if_neg q]
          have : ¬ t = E.getD v 0 := fun z => q (hEinj hv him (by rw [hit, z]))
          rw [hWj, hWj, List.take_add_one, ht]
          simp [this, -List.getD_eq_getElem?_getD]
      · obtain ⟨mw, y10, hW, rfl⟩ := (hJ2 _ _).mp hJ3
        refine (hI _ _).mpr ⟨mw, _, _, y10, hW.congr fun v hv => ?_, rfl⟩
        rw [hWj]
        have : (niD (gN G e)).length = (gN G e).length := by simp [niD]
        rw [this, List.take_length]
        unfold srcP
        rw [List.range_succ, List.flatMap_append, List.flatMap_cons, List.flatMap_nil, List.append_nil, ← hee]
    · obtain ⟨mw, y8, y9, y10, hW, rfl⟩ := (hI _ _).mp hJ
      rw [hEl] at hW
      exact hN _ ⟨mw, y8, y9, y10, hW, rfl⟩
  obtain ⟨mw, y8, y9, y10, hW, rfl⟩ := hI
  refine seq_op fun N hN => ?_
  simp [gdl, le_size, lt_size, cmul_l, cpow_l, cdiv_l]
  rw [← gdl]
  refine ⟨by omega, fz3 (by omega), fun o3 => hN _ ?_⟩
  clear hN N
  refine seq_op fun N hN => ?_
  have hrows : (List.zipWith (fun b v => (b, niD (srcP (gN G) E m v))) bs (List.range m)).map (fun p => CV.r p.1) = bs.map .r := by
    rw [List.map_zipWith]
    refine List.ext_getElem? fun i => ?_
    rw [List.getElem?_zipWith, List.getElem?_map]
    by_cases c : i < m
    · rw [List.getElem?_range c]
      cases bs[i]? <;> rfl
    · rw [List.getElem?_eq_none (by omega : bs.length ≤ i)]
      rfl
  have hdat : (List.zipWith (fun b v => (b, niD (srcP (gN G) E m v))) bs (List.range m)).map (fun p => PyData.list p.2) = (List.range m).map fun w => .list (niD (srcP (gN G) E m w)) := by
    rw [List.map_zipWith]
    refine List.ext_getElem? fun i => ?_
    rw [List.getElem?_zipWith, List.getElem?_map]
    by_cases c : i < m
    · rw [List.getElem?_range c, List.getElem?_eq_getElem (by omega : i < bs.length)]
      rfl
    · rw [List.getElem?_eq_none (by omega : bs.length ≤ i), List.getElem?_eq_none (by simp; omega : (List.range m).length ≤ i)]
      rfl
  simp
  refine ⟨List.zipWith (fun b v => (b, niD (srcP (gN G) E m v))) bs (List.range m), by rw [hrows]; exact hW.top, fun a dl hin2 => ?_, ?_⟩
  · obtain ⟨i, hi⟩ := List.getElem?_of_mem hin2
    rw [List.getElem?_zipWith] at hi
    cases e1 : bs[i]? with
    | none => rw [e1] at hi; cases hi
    | some b =>
      have him : i < m := by have := (List.getElem?_eq_some_iff.mp e1).1; omega
      rw [e1, List.getElem?_range him] at hi
      have hi := Option.some.inj hi
      cases hi
      exact hW.row i _ e1
  rw [hdat]
  have hel : s.ent.length = m := by rw [hm, hE]
  have hsplit : s.ent = s.ent.take 1 ++ s.log.map (·.1) := by
    refine List.ext_getElem? fun i => ?_
    by_cases c : i < 1
    · rw [List.getElem?_append_left (by rw [List.length_take]; omega), List.getElem?_take_of_lt c]
    · have hl1 : min 1 s.ent.length = 1 := by omega
      rw [List.getElem?_append_right (by rw [List.length_take]; omega), List.length_take, List.getElem?_map, hl1]
      cases e2 : s.log[i - 1]? with
      | none =>
        have := List.getElem?_eq_none_iff.mp e2
        rw [List.getElem?_eq_none (by have := hwt.ll; omega)]
        rfl
      | some p =>
        obtain ⟨j, _, _, k3, _⟩ := hwt.lg _ p e2
        rw [show i - 1 + 1 = i by omega] at k3
        rw [k3]
        rfl
  have ndd := ho.nd
  rw [hsplit] at ndd
  have nd1 : (s.log.map (·.1)).Nodup := (List.nodup_append.mp ndd).2.1
  have n0 : 0 ∉ s.log.map (·.1) := fun z => by
    refine (List.nodup_append.mp ndd).2.2 0 ?_ 0 z rfl
    refine List.mem_of_getElem? (i := 0) ?_
    rw [List.getElem?_take_of_lt (by omega)]
    exact hi0.2
  have hpar : ∀ {i : Nat}, 0 < i → i < m → parP s.ent s.log i < i ∧ atI (parW G.length s.log) ((E.getD i 0 : Nat) : Int) = some (.int ((E.getD (parP s.ent s.log i) 0 : Nat) : Int)) := fun {i} h1 h2 => by
    obtain ⟨p, hpp⟩ : ∃ p, s.log[i - 1]? = some p := ⟨_, List.getElem?_eq_getElem (by have := hwt.ll; rw [← hE, ← hm] at this; omega)⟩
    obtain ⟨j, k1, k2, k3, k4⟩ := hwt.lg _ p hpp
    rw [show i - 1 + 1 = i by omega] at k3
    have ep : parP s.ent s.log i = j := by
      unfold parP
      rw [hpp]
      exact (idx_pre (List.prefix_refl _) ho.nd k2).1
    have e1 : E.getD i 0 = p.1 := by rw [hE, List.getD_eq_getElem?_getD, k3]; rfl
    have e2 : E.getD j 0 = p.2 := by rw [hE, List.getD_eq_getElem?_getD, k2]; rfl
    rw [ep, e2]
    refine ⟨by omega, atI_nat ?_⟩
    unfold parW
    exact par_get s.log _ (i - 1) nd1 (by rw [hpp, e1]) (by rw [List.length_replicate]; exact (hEat h2).2)
  have E0 : E.getD 0 0 = 0 := by rw [hE, List.getD_eq_getElem?_getD, hi0.2]; rfl
  have hEne : ∀ {i : Nat}, 0 < i → i < m → E.getD i 0 ≠ 0 := fun {i} h1 h2 z => by
    have := hEinj h2 (by omega : 0 < m) (by rw [z, E0])
    omega
  have hidx : ∀ {i : Nat}, i < m → E.idxOf (E.getD i 0) = i := fun {i} h1 => by
    have nd : E.Nodup := hE ▸ ho.nd
    exact (idx_pre (List.prefix_refl _) nd (hEat h1).1).1
  have hpar0 : atI (parW G.length s.log) ((0 : Nat) : Int) = some (.int (-1)) := atI_nat (by
    unfold parW
    rw [par_keep _ _ n0, List.getElem?_replicate, if_pos (by omega)])
  obtain ⟨z0, hz0⟩ : ∃ z, PL[G.length - 1]? = some z := ⟨_, List.getElem?_eq_getElem (by omega)⟩
  have hlast : atI (PL.map PyData.int) (-1) = some (.int z0) := by
    unfold atI ixN
    rw [List.length_map, hl, if_neg (by omega), if_pos (by omega)]
    simp only [Option.bind_some]
    rw [show (-1 + (G.length : Int)).toNat = G.length - 1 by omega, List.getElem?_map, hz0]
    rfl
  obtain ⟨vF, hvF⟩ : ∃ vF : Nat → Int, ∀ x, vF x = if x = 0 then z0 else (parP s.ent s.log (E.idxOf x) : Int) := ⟨_, fun _ => rfl⟩
  refine oLc_of E (fun x : Nat => .int (x : Int)) (fun x => .int (vF x)) (by omega) (fun Ψ hΨ => by simpa [hED, niD] using hΨ) (fun k a Ψ ha hΨ => ?_) ?_
  · have hk : k < m := by rw [hm]; exact (List.getElem?_eq_some_iff.mp ha).1
    have hak : E.getD k 0 = a := by rw [List.getD_eq_getElem?_getD, ha]; rfl
    by_cases q : k = 0
    · subst q
      rw [E0] at hak
      subst hak
      have e : vF 0 = z0 := by rw [hvF, if_pos rfl]
      rw [e] at hΨ
      simp at hpar0
      simp [hPD, hpar0, hlast]
      exact hΨ
    · have hp2 := hpar (by omega : 0 < k) hk
      have hne := hEne (by omega : 0 < k) hk
      have hi2 := hidx hk
      rw [hak] at hp2 hne hi2
      have e : vF a = (parP s.ent s.log k : Int) := by rw [hvF, if_neg hne, hi2]
      rw [e] at hΨ
      have := hplA (i := parP s.ent s.log k) (by omega)
      simp [hPD, hp2.2, this, -List.getD_eq_getElem?_getD]
      exact hΨ
  rw [← hE, ← hm] at T3
  refine ⟨m, parP E s.log, srcP (gN G) E m, E.map vF, by rw [List.map_map]; rfl, by rw [List.length_map, hm], hm1, by omega, fun i h1 h2 => ?_, T3, fun R hR hRid => ?_⟩
  · rw [List.getElem?_map, (hEat h2).1]
    show some (vF (E.getD i 0)) = _
    rw [hvF, if_neg (hEne h1 h2), hidx h2, hE]
  refine ⟨_, rfl, hN _ ?_⟩
  clear hN N
  refine seq_by (fun δ => ∃ (FD : List Int) (y8 y9 : Option VL.R), FD.length = G.length ∧ (∀ x, x < G.length → (∀ i, 0 < i → i < m → E.getD i 0 ≠ x) → FD[x]? = some (-1)) ∧ (∀ i, 0 < i → i < m → ∃ d : Nat, R[i]? = some (d : Int) ∧ IsId m (srcP (gN G) E m) d i ∧ FD[E.getD i 0]? = some ((E.getD d 0 : Nat) : Int)) ∧
    δ = [some (.d GD), some (.own o1 (PL.map .int)), some (.d (.list ((List.range m).map fun w => .list (niD (srcP (gN G) E m w))))), some (.own o3 (FD.map .int)), some (.d (.list (R.map .int))), some (.d ED), some (.d LD), some (.d PD), y8, y9, y10]) (fun δ hI => ?_) (fun N hN => ?_)
  rotate_left
  · obtain ⟨I, hI⟩ : ∃ I : Nat → Dl → Prop, ∀ k δ, I k δ ↔ ∃ (FD : List Int) (y8 y9 : Option VL.R), FD.length = G.length ∧ (∀ x, x < G.length → (∀ i, 0 < i → i < k → i < m → E.getD i 0 ≠ x) → FD[x]? = some (-1)) ∧ (∀ i, 0 < i → i < k → i < m → ∃ d : Nat, R[i]? = some (d : Int) ∧ IsId m (srcP (gN G) E m) d i ∧ FD[E.getD i 0]? = some ((E.getD d 0 : Nat) : Int)) ∧
      δ = [some (.d GD), some (.own o1 (PL.map .int)), some (.d (.list ((List.range m).map fun w => .list (niD (srcP (gN G) E m w))))), some (.own o3 (FD.map .int)), some (.d (.list (R.map .int))), some (.d ED), some (.d LD), some (.d PD), y8, y9, y10] := ⟨_, fun _ _ => Iff.rfl⟩
    refine dFor_w (xs := enumD (niD E)) (fun Ψ hΨ => by simpa [hED] using hΨ) I ((hI _ _).mpr ⟨List.replicate G.length (-1), y8, y9, by simp, fun x hx _ => by rw [List.getElem?_replicate, if_pos hx], fun i h1 h2 => by omega, by simp⟩) (fun k y δ hy hJ => ?_) (fun δ hJ => ?_)
    · obtain ⟨hk, rfl⟩ := hEnum hy
      obtain ⟨FD, y8, y9, hfl, hno, hyes, rfl⟩ := (hI _ _).mp hJ
      have he := (hEat hk).2
      simp [-List.getD_eq_getElem?_getD]
      by_cases q : k = 0
      · subst q
        simp [-List.getD_eq_getElem?_getD]
        exact (hI _ _).mpr ⟨FD, _, _, hfl, fun x hx h0 => hno x hx fun i h1 h2 h3 => by omega, fun i h1 h2 h3 => by omega, rfl⟩
      · have hk0 : 0 < k := by omega
        obtain ⟨d, hd1, hd2⟩ := hRid k hk0 hk
        have hdl := hd2.lt
        have hE2 : atI (niD E) (d : Int) = some (.int ((E.getD d 0 : Nat) : Int)) := atI_nat (by unfold niD; rw [List.getElem?_map, (hEat (by omega : d < m)).1]; rfl)
        simp [hk0, hED, int_at hd1, hE2, -List.getD_eq_getElem?_getD]
        refine ⟨E.getD k 0, by rw [hfl]; exact ixn he, (hI _ _).mpr ⟨FD.set (E.getD k 0) ((E.getD d 0 : Nat) : Int), _, _, by rw [List.length_set]; exact hfl, fun x hx h0 => ?_, fun i h1 h2 h3 => ?_, by rw [List.map_set, hED]⟩⟩
        · rw [List.getElem?_set_ne (h0 k hk0 (by omega) hk)]
          exact hno x hx fun i h1 h2 h3 => h0 i h1 (by omega) h3
        · by_cases c : i = k
          · subst c
            exact ⟨d, hd1, hd2, List.getElem?_set_self (by rw [hfl]; exact he)⟩
          · obtain ⟨d', e1, e2, e3⟩ := hyes i h1 (by omega) h3
            exact ⟨d', e1, e2, by rw [List.getElem?_set_ne (fun z => c (hEinj hk h3 z).symm)]; exact e3⟩
    · obtain ⟨FD, y8, y9, hfl, hno, hyes, rfl⟩ := (hI _ _).mp hJ
      rw [hEl] at hno hyes
      exact hN _ ⟨FD, y8, y9, hfl, fun x hx h0 => hno x hx fun i h1 h2 _ => h0 i h1 h2, fun i h1 h2 => hyes i h1 h2 h2, rfl⟩
  obtain ⟨FD, y8, y9, hfl, hno, hyes, rfl⟩ := hI
  simp
  refine h FD hfl (fun x hx hx0 => hno x hx fun i h1 h2 z => ?_) (fun x hx hx0 hxr => ?_)
  · rcases hx0 with e | e
    · exact hEne h1 h2 (by rw [z, e])
    · refine e ((hrd.2 x).mp ?_)
      rw [← hE, ← z]
      exact List.mem_of_getElem? (hEat h2).1
  · have hxE : x ∈ E := by rw [hE]; exact (hrd.2 x).mpr hxr
    obtain ⟨i, hi⟩ := List.getElem?_of_mem hxE
    have him : i < m := by rw [hm]; exact (List.getElem?_eq_some_iff.mp hi).1
    have hix : E.getD i 0 = x := by rw [List.getD_eq_getElem?_getD, hi]; rfl
    have hi1 : 0 < i := by
      by_cases q : i = 0
      · rw [q, E0] at hix; exact absurd hix.symm hx0
      · omega
    obtain ⟨d, e1, e2, e3⟩ := hyes i hi1 him
    have hnid := nid_of ho hp hi0.2 hwt (d := d) (w := i) (by rw [hel]; exact him) (by rw [hel, ← hE]; exact e2)
    rw [← hE, hix] at hnid
    rw [hix] at e3
    exact ⟨E.getD d 0, (hEat (by have := e2.lt; omega)).2, e3, hnid⟩


/-! ### blocks by number -/
def fnL (f : Fn) : List Int := f.bs.map (·.lb)
def idF (ls : List Int) (x : Int) : Option PyData := if x ∈ ls then some (.int ((ls.idxOf x : Nat) : Int)) else none
def vp_block_numbers : VSp := fun rs Φ => ∃ f : Fn, rs = [.d f.D] ∧ f.bs.length ≤ 1000 ∧ ∀ es : List (Key × PyData), (∀ x, getE es (.inl x) = idF (fnL f) x) → Φ (.d (.dict (entD es)))
theorem len_block_numbers : ∀ rs Φ, vp_block_numbers rs Φ → rs.length = 1 := fun rs Φ ⟨_, e, _⟩ => by rw [e]; rfl
theorem idx_take {ls : List Int} {k : Nat} {x : Int} (h : x ∈ ls.take k) : (ls.take k).idxOf x = ls.idxOf x := by
  conv => rhs; rw [← List.take_append_drop k ls]
  rw [List.idxOf_append, if_pos h]
theorem idF_succ {ls : List Int} {k : Nat} {l : Int} (hl : ls[k]? = some l) (x : Int) : idF (ls.take (k + 1)) x = if l ∈ ls.take k then idF (ls.take k) x else if x = l then some (.int (k : Int)) else idF (ls.take k) x := by
  have hk := (List.getElem?_eq_some_iff.mp hl).1
  have ht : ls.take (k + 1) = ls.take k ++ [l] := by rw [List.take_add_one, hl]; rfl
  have hlen : (ls.take k).length = k := by rw [List.length_take]; omega
  unfold idF
  by_cases c1 : l ∈ ls.take k
  · rw [if_pos c1]
    by_cases c2 : x ∈ ls.take k
    · rw [if_pos c2, if_pos (by rw [ht]; exact List.mem_append_left _ c2), ht, List.idxOf_append, if_pos c2]
    · rw [if_neg c2, if_neg (by rw [ht]; intro z; rcases List.mem_append.mp z with z | z; exact c2 z; rw [List.mem_singleton.mp z] at c2; exact c2 c1)]
  · rw [if_neg c1]
    by_cases c3 : x = l
    · subst c3
      rw [if_pos rfl, if_pos (by rw [ht]; exact List.mem_append_right _ List.mem_cons_self), ht, List.idxOf_append, if_neg c1, hlen]
      simp
    · rw [if_neg c3]
      by_cases c2 : x ∈ ls.take k
      · rw [if_pos c2, if_pos (by rw [ht]; exact List.mem_append_left _ c2), ht, List.idxOf_append, if_pos c2]
      · rw [if_neg c2, if_neg (by rw [ht]; intro z; rcases List.mem_append.mp z with z | z; exact c2 z; exact c3 (List.mem_singleton.mp z))]
theorem G_block_numbers (T : Txt K mg) : FnOk P w K mg base CX0 1 T.f_block_numbers T.fd_block_numbers ["function"] (toSp K 1 vp_block_numbers) := by
  refine fn_ok T.F_block_numbers sc_block_numbers fun cdv A outer s H E hr => ⟨_, (pss_cons (ps_set (i := 1) sc_block_numbers.nd rfl (Or.inl rfl) pe_dnewK)
 (pss_cons (ps_for PassesOwn.never rfl (pi_enumT (by rfl) T.enumerate (pa_cons (pe_ix (kx_seq (K := K) rfl) (pv 0) pe_int (fun _ _ => rfl)) pa_nil)) (pg_tup (n := 2) rfl (pgs_cons (pg_name (i := 2) sc_block_numbers.nd rfl (Or.inl rfl)) (pgs_cons (pg_name (i := 3) sc_block_numbers.nd rfl (Or.inl rfl)) pgs_nil))) (pss_one (ps_if (pt_cmp (pc_dnotin (hu_of hr) (pe_ix (kx_seq (K := K) rfl) (pv 3) pe_int (fun _ _ => rfl)) (pv 1))) (pss_one (ps_dput (hu_of hr) (pv 1) (pe_ix (kx_seq (K := K) rfl) (pv 3) pe_int (fun _ _ => rfl)) (pv 2) (by rfl))) pss_nil)))
 (pss_one (ps_frz (ps_ret (pv 1)))))), _, fun ex He Hf => (sms_seq (sms_setD 1)
 (sms_seq (sms_for (smi_enumT (sm_ix (f2 := false) (sm_var 0) (sm_int _))) (smg_tup (smg_cons (smg_name 2) (smg_cons (smg_name 3) smg_nil)))
 (sms_if (smt_b (f1 := false) (sm_ninD (f2 := false) 1 (sm_ix (f2 := false) (sm_var 3) (sm_int _))))
 (sms_putD (f2 := false) 1 (sm_var 2) (sm_ix (f2 := false) (sm_var 3) (sm_int _)))
 sms_next))
 (sms_frzD 1 (sms_ret (sm_var 1))))), ?_⟩
  rintro rs Φ ⟨f, rfl, hl, h⟩
  obtain ⟨FD, hFD⟩ : ∃ x : PyData, x = f.D := ⟨_, rfl⟩
  rw [← hFD]
  refine seq_op fun N hN => ?_
  simp
  intro a
  refine hN _ ?_
  clear hN N
  refine seq_by (fun δ => ∃ (es : List (Key × PyData)) (y2 y3 : Option R), (∀ x, getE es (.inl x) = idF (fnL f) x) ∧ δ = [some (.d FD), some (.dct a es), y2, y3]) (fun δ hI => ?_) (fun N hN => ?_)
  · obtain ⟨es, y2, y3, he, rfl⟩ := hI
    simp
    exact h es he
  obtain ⟨I, hI⟩ : ∃ I : Nat → Dl → Prop, ∀ k δ, I k δ ↔ ∃ (es : List (Key × PyData)) (y2 y3 : Option R), (∀ x, getE es (.inl x) = idF ((fnL f).take k) x) ∧ es.length ≤ k ∧ δ = [some (.d FD), some (.dct a es), y2, y3] := ⟨_, fun _ _ => Iff.rfl⟩
  refine dFor_w (xs := enumD (f.bs.map Blk.D)) (fun Ψ hΨ => by simpa [hFD, Fn.D] using hΨ) I ((hI _ _).mpr ⟨[], none, none, fun x => by simp [idF, getE], Nat.zero_le _, rfl⟩) (fun k y δ hy hJ => ?_) (fun δ hJ => ?_)
  rotate_left
  · obtain ⟨es, y2, y3, he, _, rfl⟩ := (hI _ _).mp hJ
    rw [enumD_len, List.length_map, List.take_of_length_le (by simp [fnL])] at he
    exact hN _ ⟨es, y2, y3, he, rfl⟩
  obtain ⟨es, y2, y3, he, hel, rfl⟩ := (hI _ _).mp hJ
  have hk : k < f.bs.length := by
    have := (List.getElem?_eq_some_iff.mp hy).1
    rw [enumD_len, List.length_map] at this
    exact this
  obtain ⟨b, hb⟩ : ∃ b, f.bs[k]? = some b := ⟨_, List.getElem?_eq_getElem hk⟩
  rw [enumD_get (x := b.D) (by rw [List.getElem?_map, hb]; rfl)] at hy
  cases hy
  have hlb : (fnL f)[k]? = some b.lb := by unfold fnL; rw [List.getElem?_map, hb]; rfl
  have hs := idF_succ hlb
  have hg := he b.lb
  by_cases c : b.lb ∈ (fnL f).take k
  · have e1 : getE es (.inl b.lb) = some (.int (((fnL f).take k).idxOf b.lb : Nat)) := by rw [hg]; unfold idF; rw [if_pos c]
    simp [Blk.D]
    refine ⟨.inl b.lb, rfl, ?_⟩
    rw [if_neg (by rw [e1]; exact fun z => nomatch z)]
    exact (hI _ _).mpr ⟨es, _, _, fun x => by rw [hs, if_pos c]; exact he x, by omega, rfl⟩
  · have e1 : getE es (.inl b.lb) = none := by rw [hg]; unfold idF; rw [if_neg c]
    simp [Blk.D]
    refine ⟨.inl b.lb, rfl, ?_⟩
    rw [if_pos e1]
    refine ⟨.inl b.lb, rfl, Nat.lt_of_lt_of_le (show es.length < 100000 by omega) (by decide), (hI _ _).mpr ⟨_, _, _, fun x => ?_, ?_, rfl⟩⟩
    · rw [putE_new _ e1, getE_append, hs, if_neg c, he x]
      by_cases q : x = b.lb
      · subst q
        rw [if_pos rfl]
        unfold idF
        rw [if_neg c, getE_cons, if_pos rfl]
        rfl
      · rw [if_neg q, getE_cons, if_neg (fun z => q (by injection z with z; exact z.symm))]
        simp [getE]
    · rw [putE_new _ e1, List.length_append]
      simp
      omega

/-! ### where the edges of each block lead -/
def tgR (ls xs : List Int) : List Nat := (xs.filter fun x => decide (x ∈ ls)).map fun x => ls.idxOf x
def gF (f : Fn) : List (List Nat) := f.bs.map fun b => tgR (fnL f) (b.en.es.map (·.lb))
def vp_block_targets : VSp := fun rs Φ => ∃ f : Fn, rs = [.d f.D] ∧ f.bs.length ≤ 1000 ∧ (∀ b ∈ f.bs, b.en.es.length ≤ 1000) ∧ Φ (.own ((gF f).map fun r => .list (r.map fun t : Nat => .int (t : Int))))
theorem len_block_targets : ∀ rs Φ, vp_block_targets rs Φ → rs.length = 1 := fun rs Φ ⟨_, e, _⟩ => by rw [e]; rfl
theorem tgR_take {ls xs : List Int} {k : Nat} {x : Int} (h : xs[k]? = some x) : tgR ls (xs.take (k + 1)) = if x ∈ ls then tgR ls (xs.take k) ++ [ls.idxOf x] else tgR ls (xs.take k) := by
  unfold tgR
  rw [List.take_add_one, h, List.filter_append, List.map_append]
  by_cases c : x ∈ ls
  · rw [if_pos c]; simp [c]
  · rw [if_neg c]; simp [c]
theorem tgR_len {ls xs : List Int} : (tgR ls xs).length ≤ xs.length := by
  unfold tgR
  rw [List.length_map]
  exact List.length_filter_le _ _
theorem G_block_targets (T : Txt K mg) : FnOk P w K mg base CX0 2 T.f_block_targets T.fd_block_targets ["function"] (toSp K 1 vp_block_targets) := by
  refine fn_ok T.F_block_targets sc_block_targets fun cdv A outer s H E hr => ⟨_, (pss_cons (ps_set (i := 1) sc_block_targets.nd rfl (Or.inr rfl) (pe_call (G_block_numbers T) hr (by rfl) T.g_block_numbers T.F_block_numbers.kp T.b_block_numbers .nil pass0 (pa_cons (pv 0) pa_nil)))
 (pss_cons (ps_set (i := 2) sc_block_targets.nd rfl (Or.inl rfl) (pe_lst pa_nil))
 (pss_cons (ps_for PassesOwn.never rfl ((kpi_tup (K := K) rfl (pe_ix (kx_seq (K := K) rfl) (pv 0) pe_int (fun _ _ => rfl)))) (pg_name (i := 3) sc_block_targets.nd rfl (Or.inl rfl)) (pss_one (ps_expr (pe_bm PySem.F.plainAttrs_list PySem.F.slot_list_append PySem.F.type_list_append mt_append (pv 2) (pa_cons (pe_lc (own := [("label", 4), ("_", 5)]) (g := gTup K 2 (gCons (gName 4) (gCons (gName 5) gNil))) rfl sc_block_targets.nd ((kpi_list (K := K) rfl (pe_call (G_edges T) hr (by rfl) T.g_edges T.F_edges.kp T.b_edges .nil pass0 (pa_cons (pe_ix (kx_seq (K := K) rfl) (pv 3) pe_int (fun _ _ => rfl)) pa_nil)))) (blkOk_by (N := ["function", "numbers", "rows", "block", "label", "_"]) (sc := defScope sblock_targets) (by decide +kernel)) (fun _ _ _ _ _ => (pg_tup (n := 2) rfl (pgs_cons (pg_name (i := 4) sc_block_targets.nd rfl (Or.inl rfl)) (pgs_cons (pg_name (i := 5) sc_block_targets.nd rfl (Or.inl rfl)) pgs_nil)))) (fun _ _ _ _ _ => pts_one (pt_cmp (pc_din (hu_of hr) (pv 4) (pv 1)))) (fun _ _ _ _ _ => (pe_dget (hu_of hr) (pv 1) (pv 4) (fun _ _ => rfl)))) pa_nil)))))
 (pss_one (ps_ret (pv 2)))))), _, fun ex He Hf => (sms_seq (sms_asg (sm_call len_block_numbers (smq_cons (sm_var 0) smq_nil)) (smg_name 1))
 (sms_seq (sms_setO 2 (smo_lst sma_nil))
 (sms_seq (sms_for (smi_tup (sm_ix (f2 := false) (sm_var 0) (sm_int _))) (smg_name 3)
 (sms_app 2 (SmO.sm (smo_lcG (own := [4, 5]) (kps_tup (kps_cons (by decide) (kps_cons (by decide) kps_nil))) (smi_list (SmO.sm (smo_call len_edges (smq_cons (sm_ix (f2 := false) (sm_var 3) (sm_int _)) smq_nil)))) (smg_tup (smg_cons (smg_name 4) (smg_cons (smg_name 5) smg_nil))) (smt_b (f1 := false) (sm_inF (f1 := false) (f2 := false) (sm_var 4) (sm_var 1))) (sm_getF (f2 := false) (sm_var 1) (sm_var 4))))))
 (sms_retO 2)))), ?_⟩
  rintro rs Φ ⟨f, rfl, hl, hE, h⟩
  obtain ⟨FD, hFD⟩ : ∃ x : PyData, x = f.D := ⟨_, rfl⟩
  rw [← hFD]
  refine seq_op fun N hN => ?_
  simp
  refine ⟨f, by rw [hFD], hl, fun es hes => hN _ ?_⟩
  clear hN N
  simp only [data_d]
  obtain ⟨ND, hND⟩ : ∃ x : PyData, x = .dict (entD es) := ⟨_, rfl⟩
  rw [← hND]
  refine seq_op fun N hN => ?_
  simp
  intro o
  refine hN _ ?_
  clear hN N
  obtain ⟨rD, hrD⟩ : ∃ rD : List Nat → PyData, rD = fun r => .list (r.map fun t : Nat => .int (t : Int)) := ⟨_, rfl⟩
  refine seq_by (fun δ => ∃ y3 y4 y5 : Option R, δ = [some (.d FD), some (.d ND), some (.own o ((gF f).map rD)), y3, y4, y5]) (fun δ hI => ?_) (fun N hN => ?_)
  · obtain ⟨y3, y4, y5, rfl⟩ := hI
    rw [← hrD] at h
    simp
    exact h
  obtain ⟨I, hI⟩ : ∃ I : Nat → Dl → Prop, ∀ k δ, I k δ ↔ ∃ y3 y4 y5 : Option R, δ = [some (.d FD), some (.d ND), some (.own o (((gF f).take k).map rD)), y3, y4, y5] := ⟨_, fun _ _ => Iff.rfl⟩
  refine dFor_w (xs := f.bs.map Blk.D) (fun Ψ hΨ => by simpa [hFD, Fn.D] using hΨ) I ((hI _ _).mpr ⟨none, none, none, rfl⟩) (fun k y δ hy hJ => ?_) (fun δ hJ => ?_)
  rotate_left
  · obtain ⟨y3, y4, y5, rfl⟩ := (hI _ _).mp hJ
    rw [List.length_map, List.take_of_length_le (by simp [gF])]
    exact hN _ ⟨_, _, _, rfl⟩
  obtain ⟨y3, y4, y5, rfl⟩ := (hI _ _).mp hJ
  rw [List.getElem?_map] at hy
  obtain ⟨b, hb, rfl⟩ := Option.map_eq_some_iff.mp hy
  have hbl := hE b (List.mem_of_getElem? hb)
  have hk : k < f.bs.length := (List.getElem?_eq_some_iff.mp hb).1
  simp [Blk.D]
  unfold oLcG
  simp
  refine ⟨b.en, rfl, hbl, _, rfl, fun j acc => acc = (tgR (fnL f) ((b.en.es.map (·.lb)).take j)).map fun t : Nat => .int (t : Int), rfl, fun j y acc hy hA => ?_, fun acc hA => ?_⟩
  · rw [List.getElem?_map] at hy
    obtain ⟨e, he, rfl⟩ := Option.map_eq_some_iff.mp hy
    have hx : (b.en.es.map (·.lb))[j]? = some e.lb := by rw [List.getElem?_map, he]; rfl
    have hjl : j < b.en.es.length := (List.getElem?_eq_some_iff.mp he).1
    have hal : acc.length ≤ 1000 := by
      have := tgR_len (ls := fnL f) (xs := (b.en.es.map (·.lb)).take j)
      rw [hA, List.length_map]
      rw [List.length_take, List.length_map] at this
      omega
    have hs := tgR_take (ls := fnL f) hx
    have hg := hes e.lb
    simp [dwipe, Edg.D, hND]
    refine ⟨_, rfl, .inl e.lb, rfl, ?_⟩
    by_cases c : e.lb ∈ fnL f
    · have e1 : getE es (.inl e.lb) = some (.int (((fnL f).idxOf e.lb : Nat) : Int)) := by rw [hg]; unfold idF; rw [if_pos c]
      rw [if_pos (by rw [e1]; rfl)]
      refine ⟨_, rfl, .inl e.lb, rfl, _, e1, fz4 (by omega), ?_⟩
      rw [hs, if_pos c, List.map_append, hA]
      rfl
    · have e1 : getE es (.inl e.lb) = none := by rw [hg]; unfold idF; rw [if_neg c]
      rw [if_neg (by rw [e1]; exact fun z => nomatch z), hs, if_neg c]
      exact hA
  · rw [List.length_map, List.take_of_length_le (by simp)] at hA
    subst hA
    have hgk : (gF f)[k]? = some (tgR (fnL f) (b.en.es.map (·.lb))) := by unfold gF; rw [List.getElem?_map, hb]; rfl
    have hgl : (gF f).length = f.bs.length := by simp [gF]
    have fin : ∀ y3 y4 y5 : Option R, I (k + 1) [some (.d FD), some (.d ND), some (.own o (List.take k (List.map rD (gF f)) ++ [rD (tgR (fnL f) (b.en.es.map (·.lb)))])), y3, y4, y5] := fun y3 y4 y5 => (hI _ _).mpr ⟨y3, y4, y5, by rw [List.take_add_one, hgk, List.map_append, ← List.map_take]; rfl⟩
    rw [hrD] at fin ⊢
    exact ⟨fz4 (by omega), fin _ _ _⟩

/-! ### reached -/
def vp_reached_nodes : VSp := fun rs Φ => ∃ G : List (List Nat), rs = [.d (wD G)] ∧ GNs G ∧ ∀ T : Nat → Bool, (∀ x, T x = true ↔ Reach (gN G) 0 x) → Φ (.own ((List.range G.length).map fun x => .bool (T x)))
theorem len_reached_nodes : ∀ rs Φ, vp_reached_nodes rs Φ → rs.length = 1 := fun rs Φ ⟨_, e, _⟩ => by rw [e]; rfl
theorem seen_nil (n : Nat) : List.replicate n (PyData.bool false) = seenD n [] := by
  unfold seenD
  refine List.ext_getElem? fun i => ?_
  rw [List.getElem?_replicate, List.getElem?_map]
  by_cases c : i < n
  · rw [if_pos c, List.getElem?_range c]; simp
  · rw [if_neg c, List.getElem?_eq_none (by simp; omega)]; rfl
theorem G_reached_nodes (T : Txt K mg) : FnOk P w K mg base CX0 2 T.f_reached_nodes T.fd_reached_nodes ["targets"] (toSp K 1 vp_reached_nodes) := by
  refine fn_ok T.F_reached_nodes sc_reached_nodes fun cdv A outer s H E hr => ⟨_, (pss_cons (ps_set (i := 1) sc_reached_nodes.nd rfl (Or.inl rfl) (pe_op op_rep (pe_lst (pa_cons pe_bl pa_nil)) (pe_callB (kx_len (K := K) rfl) (by rfl) T.len PySem.boot_len (pa_cons (pv 0) pa_nil))))
 (pss_cons (ps_for PassesOwn.never rfl ((kpi_list (K := K) rfl (pe_ix (kx_seq (K := K) rfl) (pe_call (G_walk T) hr (by rfl) T.g_walk T.F_walk.kp T.b_walk .nil pass0 (pa_cons (pv 0) pa_nil)) pe_int (fun _ _ => rfl)))) (pg_name (i := 2) sc_reached_nodes.nd rfl (Or.inl rfl)) (pss_one (ps_asg pe_bl (pg_sub (pv 1) (pv 2) set_list))))
 (pss_one (ps_ret (pv 1))))), _, fun ex He Hf => (sms_seq (sms_setO 1 (smo_rep (f2 := false) (SmO.sm (smo_lst (sma_cons (sm_bl _) sma_nil))) (sm_cb (f1 := false) cbd_len (sma_cons (sm_var 0) sma_nil))))
 (sms_seq (sms_for (smi_list (sm_ix (f2 := false) (sm_call len_walk (smq_cons (sm_var 0) smq_nil)) (sm_int _))) (smg_name 2)
 (sms_setI (f2 := false) 1 (sm_bl _) (sm_var 2)))
 (sms_retO 1))), ?_⟩
  rintro rs Φ ⟨G, rfl, hG, h⟩
  have gl := hG.few
  have g1 := hG.pos
  obtain ⟨GD, hGD⟩ : ∃ x : PyData, x = wD G := ⟨_, rfl⟩
  rw [← hGD]
  have gdl : GD = .list (G.map fun r => .list (r.map fun t : Nat => .int (t : Int))) := hGD
  refine seq_op fun N hN => ?_
  simp [gdl, le_size, lt_size, cmul_l, cpow_l, cdiv_l]
  rw [← gdl]
  refine ⟨by omega, fz3 (by omega), fun o => hN _ ?_⟩
  clear hN N
  rw [seen_nil]
  refine seq_by (fun δ => ∃ (B : List Nat) (y2 : Option R), (∀ x, x ∈ B ↔ Reach (gN G) 0 x) ∧ δ = [some (.d GD), some (.own o (seenD G.length B)), y2]) (fun δ hI => ?_) (fun N hN => ?_)
  · obtain ⟨B, y2, hB, rfl⟩ := hI
    simp
    exact h (fun x => decide (x ∈ B)) fun x => by simp [hB]
  refine dFor_via (Pre := fun xs => ∃ B : List Nat, (∀ x, x ∈ B ↔ Reach (gN G) 0 x) ∧ (∀ x ∈ B, x < G.length) ∧ xs = niD B) (fun Ψ hΨ => ?_) fun xs ⟨B, hB, hBl, hxs⟩ => ?_
  · simp
    refine ⟨G, by rw [hGD], hG, fun nw s hs hp => ?_⟩
    have hN0 : (0 : Nat) ∈ List.range G.length := List.mem_range.mpr (by omega)
    have hin := hs ▸ win_run hG.tgt nw (win_init hN0)
    have ho := hs ▸ wok_run nw (wok_init (G := gN G) 0)
    have hrd := ho.reached hp
    simp
    exact hΨ _ ⟨s.ent, fun x => hrd.2 x, fun x hx => List.mem_range.mp (hin.ent x hx), rfl⟩
  subst hxs
  obtain ⟨I, hI⟩ : ∃ I : Nat → Dl → Prop, ∀ k δ, I k δ ↔ ∃ y2 : Option R, δ = [some (.d GD), some (.own o (seenD G.length (B.take k))), y2] := ⟨_, fun _ _ => Iff.rfl⟩
  refine dFor_w (xs := niD B) (fun Ψ hΨ => hΨ) I ((hI _ _).mpr ⟨none, rfl⟩) (fun k y δ hy hJ => ?_) (fun δ hJ => ?_)
  · obtain ⟨y2, rfl⟩ := (hI _ _).mp hJ
    unfold niD at hy
    rw [List.getElem?_map] at hy
    obtain ⟨t, ht, rfl⟩ := Option.map_eq_some_iff.mp hy
    have htl := hBl t (List.mem_of_getElem? ht)
    simp
    refine ⟨t, by rw [seen_len]; exact ixn htl, (hI _ _).mpr ⟨some (.d (.int (t : Int))), ?_⟩⟩
    rw [seen_set htl, List.take_add_one, ht]
    rfl
  · obtain ⟨y2, rfl⟩ := (hI _ _).mp hJ
    rw [show (niD B).length = B.length by simp [niD], List.take_length]
    exact hN _ ⟨B, y2, hB, rfl⟩


/-! ### down a tree -/
def upR (n : Nat) (U : Nat → Option Nat) : List Int := (List.range n).map fun x => match U x with
  | some d => ((d : Nat) : Int)
  | none => -1
def kidsW (U : Nat → Option Nat) (k v : Nat) : List Nat := (List.range k).filter fun x => decide (U x = some v)
theorem kidsW_mem {U : Nat → Option Nat} {k v x : Nat} : x ∈ kidsW U k v ↔ x < k ∧ U x = some v := by
  unfold kidsW
  rw [List.mem_filter, List.mem_range, decide_eq_true_iff]
theorem kidsW_succ (U : Nat → Option Nat) (k v : Nat) : kidsW U (k + 1) v = if U k = some v then kidsW U k v ++ [k] else kidsW U k v := by
  unfold kidsW
  rw [List.range_succ, List.filter_append]
  by_cases c : U k = some v
  · rw [if_pos c]; simp [c]
  · rw [if_neg c]; simp [c]
theorem kidsW_len (U : Nat → Option Nat) (k v : Nat) : (kidsW U k v).length ≤ k := Nat.le_trans (List.length_filter_le _ _) (by simp)
/-- the walk down: found F, waiting Q -/
structure DnI (n : Nat) (U : Nat → Option Nat) (F Q : List Nat) : Prop where
  nd : (F ++ Q).Nodup
  lt : ∀ x ∈ F ++ Q, x < n
  up : ∀ x ∈ F ++ Q, ∃ d, U x = some d ∧ (d = 0 ∨ d ∈ F)
  cl : ∀ x d, x < n → U x = some d → (d = 0 ∨ d ∈ F) → x ∈ F ++ Q
  od : ∀ k x, F[k]? = some x → ∃ d, U x = some d ∧ (d = 0 ∨ d ∈ F.take k)
theorem DnI.init {n : Nat} {U : Nat → Option Nat} : DnI n U [] (kidsW U n 0) := by
  refine ⟨?_, fun x hx => (kidsW_mem.mp hx).1, fun x hx => ⟨0, (kidsW_mem.mp hx).2, .inl rfl⟩, fun x d hx hd h => ?_, fun k x h => nomatch h⟩
  · exact List.Nodup.sublist List.filter_sublist List.nodup_range
  · rcases h with rfl | h
    · exact kidsW_mem.mpr ⟨hx, hd⟩
    · cases h
theorem DnI.step {n : Nat} {U : Nat → Option Nat} {F Q : List Nat} {c : Nat} (h0 : U 0 = none) (h : DnI n U F (Q ++ [c])) : DnI n U (F ++ [c]) (Q ++ kidsW U n c) := by
  have pm : ∀ x, x ∈ F ++ (Q ++ [c]) ↔ x ∈ (F ++ [c]) ++ Q := fun x => by simp only [List.mem_append, List.mem_singleton]; grind
  have nd1 : ((F ++ [c]) ++ Q).Nodup := by
    have := h.nd
    have p : (F ++ (Q ++ [c])).Perm ((F ++ [c]) ++ Q) := by
      rw [List.append_assoc]
      exact List.Perm.append_left F List.perm_append_comm
    exact p.nodup_iff.mp this
  have hc : c ∈ F ++ (Q ++ [c]) := by simp
  have hcn : c ∉ F := fun z => by
    have := h.nd
    rw [List.nodup_append] at this
    exact this.2.2 c z c (by simp) rfl
  have hc0 : c ≠ 0 := fun z => by
    obtain ⟨d, hd, _⟩ := h.up c hc
    rw [z, h0] at hd
    cases hd
  have new : ∀ x ∈ kidsW U n c, x ∉ F ++ (Q ++ [c]) := fun x hx z => by
    obtain ⟨d, hd, q⟩ := h.up x z
    rw [(kidsW_mem.mp hx).2] at hd
    cases hd
    rcases q with q | q
    · exact hc0 q
    · exact hcn q
  refine ⟨?_, fun x hx => ?_, fun x hx => ?_, fun x d hx hd q => ?_, fun k x hx => ?_⟩
  · rw [← List.append_assoc, List.nodup_append]
    refine ⟨nd1, List.Nodup.sublist List.filter_sublist List.nodup_range, fun a ha b hb e => ?_⟩
    subst e
    exact new a hb ((pm a).mpr ha)
  · rw [← List.append_assoc] at hx
    rcases List.mem_append.mp hx with hx | hx
    · exact h.lt x ((pm x).mpr hx)
    · exact (kidsW_mem.mp hx).1
  · rw [← List.append_assoc] at hx
    rcases List.mem_append.mp hx with hx | hx
    · obtain ⟨d, hd, q⟩ := h.up x ((pm x).mpr hx)
      exact ⟨d, hd, q.imp id fun q => List.mem_append_left _ q⟩
    · exact ⟨c, (kidsW_mem.mp hx).2, .inr (by simp)⟩
  · rw [← List.append_assoc]
    rcases q with q | q
    · exact List.mem_append_left _ ((pm x).mp (h.cl x d hx hd (.inl q)))
    · rcases List.mem_append.mp q with q | q
      · exact List.mem_append_left _ ((pm x).mp (h.cl x d hx hd (.inr q)))
      · rw [List.mem_singleton.mp q] at hd
        exact List.mem_append_right _ (kidsW_mem.mpr ⟨hx, hd⟩)
  · by_cases hk : k < F.length
    · rw [List.getElem?_append_left hk] at hx
      obtain ⟨d, hd, q⟩ := h.od k x hx
      exact ⟨d, hd, q.imp id fun q => by rw [List.take_append_of_le_length (by omega)]; exact q⟩
    · rw [List.getElem?_append_right (by omega)] at hx
      have hk2 : k = F.length := by
        have := (List.getElem?_eq_some_iff.mp hx).1
        simp at this
        omega
      subst hk2
      have hx : c = x := by simpa using hx
      subst hx
      obtain ⟨d, hd, q⟩ := h.up c hc
      exact ⟨d, hd, q.imp id fun q => by rw [List.take_append_of_le_length (Nat.le_refl _), List.take_length]; exact q⟩
def vp__downwards : VSp := fun rs Φ => ∃ (n : Nat) (U : Nat → Option Nat), rs = [.d (.list ((upR n U).map .int))] ∧ 1 ≤ n ∧ n ≤ 1000 ∧ U 0 = none ∧ (∀ x d, x < n → U x = some d → d < n) ∧ ∀ F : List Nat, DnI n U F [] → Φ (.own (niD F))
theorem len__downwards : ∀ rs Φ, vp__downwards rs Φ → rs.length = 1 := fun rs Φ ⟨_, _, e, _⟩ => by rw [e]; rfl
theorem G__downwards (T : Txt K mg) : FnOk P w K mg base CX0 1 T.f__downwards T.fd__downwards ["uppers"] (toSp K 1 vp__downwards) := by
  refine fn_ok T.F__downwards sc__downwards fun cdv A outer s H E hr => ⟨_, (pss_cons (ps_setLc (i := 1) (own := [("_", 6)]) (g := gName 6) (tt := tYes) rfl sc__downwards.nd rfl rfl (sw_true rfl rfl rfl (by decide +kernel)) ((kpi_list (K := K) rfl (pv 0))) (blkOk_by (N := ["uppers", "lowers", "found", "waiting", "node", "upper", "_"]) (sc := defScope s_downwards) (by decide +kernel)) (fun _ _ _ _ _ => pg_name (i := 6) sc__downwards.nd rfl (Or.inl rfl)) (fun _ _ _ _ _ => pts_nil) (fun _ _ _ _ _ => (pe_lst pa_nil)))
 (pss_cons (ps_for PassesOwn.never rfl (pi_enum (by rfl) T.enumerate (pa_cons (pv 0) pa_nil)) (pg_tup (n := 2) rfl (pgs_cons (pg_name (i := 4) sc__downwards.nd rfl (Or.inl rfl)) (pgs_cons (pg_name (i := 5) sc__downwards.nd rfl (Or.inl rfl)) pgs_nil))) (pss_one (ps_if (pt_cmpR op_ge (pv 5) pe_int (nomark _)) (pss_one (ps_expr (pe_bm PySem.F.plainAttrs_list PySem.F.slot_list_append PySem.F.type_list_append mt_append (pe_ix (kx_seq (K := K) rfl) (pv 1) (pv 5) (fun _ _ => rfl)) (pa_cons (pv 4) pa_nil)))) pss_nil)))
 (pss_cons (ps_set (i := 2) sc__downwards.nd rfl (Or.inl rfl) (pe_lst pa_nil))
 (pss_cons (ps_set (i := 3) sc__downwards.nd rfl (Or.inl rfl) (pe_callTy (kx_list (K := K) rfl) (by rfl) T.list (by decide +kernel) (pa_cons (pe_ix (kx_seq (K := K) rfl) (pv 1) pe_int (fun _ _ => rfl)) pa_nil)))
 (pss_cons (ps_while PassesOwn.never (pt_truth (pv 3) (by intro _; rfl)) (pss_cons (ps_set (i := 4) sc__downwards.nd rfl (Or.inl rfl) (pe_bm0 PySem.F.plainAttrs_list PySem.F.slot_list_pop PySem.F.type_list_pop mt_pop (pv 3)))
 (pss_cons (ps_expr (pe_bm PySem.F.plainAttrs_list PySem.F.slot_list_append PySem.F.type_list_append mt_append (pv 2) (pa_cons (pv 4) pa_nil)))
 (pss_one (ps_expr (pe_bm PySem.F.plainAttrs_list PySem.F.slot_list_extend PySem.F.type_list_extend mt_extend (pv 3) (pa_cons (pe_ix (kx_seq (K := K) rfl) (pv 1) (pv 4) (fun _ _ => rfl)) pa_nil)))))))
 (pss_one (ps_ret (pv 2)))))))), _, fun ex He Hf => (sms_seq (sms_setNs 1 6 (smi_list (sm_var 0)))
 (sms_seq (sms_for (smi_enum (sm_var 0)) (smg_tup (smg_cons (smg_name 4) (smg_cons (smg_name 5) smg_nil)))
 (sms_if (smt_t (f1 := false) (sm_op (f1 := false) (f2 := false) (opd_I0 (g' := fun i j => .bool (decide (j ≤ i))) fun _ _ => rfl) (sm_var 5) (sm_int _)))
 (sms_appV 1 (smv_ix (f2 := false) 1 (smv_var 1) (sm_var 5)) (SmV.x (Sm.v (sm_var 4))))
 sms_next))
 (sms_seq (sms_setO 2 (smo_lst sma_nil))
 (sms_seq (sms_settle 1 (sms_setO 3 (smo_list (sm_ix (f2 := false) (sm_var 1) (sm_int _)))))
 (sms_seq (sms_while (smt_truO 3)
 (sms_seq (sms_pop 3 (smg_name 4))
 (sms_seq (sms_app 2 (sm_var 4))
 (sms_ext 3 (sm_ix (f2 := false) (sm_var 1) (sm_var 4))))))
 (sms_retO 2)))))), ?_⟩
  rintro rs Φ ⟨n, U, rfl, n1, n2, hU0, hU, h⟩
  obtain ⟨UD, hUD⟩ : ∃ x : PyData, x = .list ((upR n U).map .int) := ⟨_, rfl⟩
  rw [← hUD]
  have hul : (upR n U).length = n := by simp [upR]
  refine seq_op fun N hN => ?_
  simp [hUD]
  refine ⟨by rw [hul]; exact fz4 (by omega), fun aw bs hnw hnd hbl => ?_⟩
  rw [hul] at hbl
  rw [← hUD]
  refine hN _ ?_
  clear hN N
  -- lowers
  refine seq_by (fun δ => ∃ (mw : Sto) (y4 y5 : Option R), WR n mw aw bs (kidsW U n) ∧ δ = [some (.d UD), some (.reg (.ref aw) mw), none, none, y4, y5, none]) (fun δ hI => ?_) (fun N hN => ?_)
  rotate_left
  · obtain ⟨I, hI⟩ : ∃ I : Nat → Dl → Prop, ∀ k δ, I k δ ↔ ∃ (mw : Sto) (y4 y5 : Option R), WR n mw aw bs (kidsW U k) ∧ δ = [some (.d UD), some (.reg (.ref aw) mw), none, none, y4, y5, none] := ⟨_, fun _ _ => Iff.rfl⟩
    refine dFor_w (xs := enumD ((upR n U).map .int)) (fun Ψ hΨ => by simpa [hUD] using hΨ) I ((hI _ _).mpr ⟨_, none, none, (wr_new hbl hnw hnd).congr fun v _ => by simp [kidsW], rfl⟩) (fun k y δ hy hJ => ?_) (fun δ hJ => ?_)
    · obtain ⟨mw, y4, y5, hW, rfl⟩ := (hI _ _).mp hJ
      have hk : k < n := by
        have := (List.getElem?_eq_some_iff.mp hy).1
        rw [enumD_len, List.length_map, hul] at this
        exact this
      have hux : (upR n U)[k]? = some (match U k with | some d => ((d : Nat) : Int) | none => -1) := by
        unfold upR
        rw [List.getElem?_map, List.getElem?_range hk]
        rfl
      rw [enumD_get (by rw [List.getElem?_map, hux]; rfl)] at hy
      cases hy
      cases hk2 : U k with
      | none =>
        simp
        exact (hI _ _).mpr ⟨mw, _, _, hW.congr fun v _ => by rw [kidsW_succ, hk2, if_neg (by simp)], rfl⟩
      | some d =>
        have hd := hU k d hk hk2
        obtain ⟨b, hb⟩ : ∃ b, bs[d]? = some b := ⟨_, List.getElem?_eq_getElem (by omega)⟩
        have hb2 : atI (bs.map CV.r) (d : Int) = some (.r b) := atI_nat (by rw [List.getElem?_map, hb]; rfl)
        have hrw := hW.row d b hb
        have hW2 := hW.app (x := k) hb
        have hkl := kidsW_len U k d
        have hlw : (niD (kidsW U k d)).length < sizeLine := Nat.lt_of_le_of_lt (show (niD (kidsW U k d)).length ≤ 1000 by unfold niD; rw [List.length_map]; omega) (by decide)
        have hnn : (0 : Int) ≤ (d : Int) := by omega
        simp [hnn, hW.top, hb2, hrw, hlw]
        refine (hI _ _).mpr ⟨_, some (.d (.int (k : Int))), some (.d (.int (d : Int))), hW2.congr fun v hv => ?_, by simp⟩
        unfold updW
        rw [kidsW_succ, hk2]
        by_cases q : v = d
        · subst q; rw [if_pos rfl, if_pos rfl]
        · rw [if_neg q, if_neg (fun z => q (by injection z with z; exact z.symm))]
    · obtain ⟨mw, y4, y5, hW, rfl⟩ := (hI _ _).mp hJ
      rw [enumD_len, List.length_map, hul] at hW
      exact hN _ ⟨mw, y4, y5, hW, rfl⟩
  obtain ⟨mw, y4, y5, hW, rfl⟩ := hI
  refine seq_op fun N hN => ?_
  simp
  intro o
  refine hN _ ?_
  clear hN N
  have hrows : (List.zipWith (fun b v => (b, niD (kidsW U n v))) bs (List.range n)).map (fun p => CV.r p.1) = bs.map .r := by
    rw [List.map_zipWith]
    refine List.ext_getElem? fun i => ?_
    rw [List.getElem?_zipWith, List.getElem?_map]
    by_cases c : i < n
    · rw [List.getElem?_range c]
      cases bs[i]? <;> rfl
    · rw [List.getElem?_eq_none (by omega : bs.length ≤ i)]
      rfl
  have hdat : (List.zipWith (fun b v => (b, niD (kidsW U n v))) bs (List.range n)).map (fun p => PyData.list p.2) = (List.range n).map fun v => .list (niD (kidsW U n v)) := by
    rw [List.map_zipWith]
    refine List.ext_getElem? fun i => ?_
    rw [List.getElem?_zipWith, List.getElem?_map]
    by_cases c : i < n
    · rw [List.getElem?_range c, List.getElem?_eq_getElem (by omega : i < bs.length)]
      rfl
    · rw [List.getElem?_eq_none (by omega : bs.length ≤ i), List.getElem?_eq_none (by simp; omega : (List.range n).length ≤ i)]
      rfl
  obtain ⟨LW, hLW⟩ : ∃ x : PyData, x = .list ((List.range n).map fun v => .list (niD (kidsW U n v))) := ⟨_, rfl⟩
  have hrowD : ∀ {i : Nat}, i < n → atI ((List.range n).map fun v => PyData.list (niD (kidsW U n v))) (i : Int) = some (.list (niD (kidsW U n i))) := fun {i} hi => atI_nat (by rw [List.getElem?_map, List.getElem?_range hi]; rfl)
  refine seq_op fun N hN => ?_
  simp
  refine ⟨List.zipWith (fun b v => (b, niD (kidsW U n v))) bs (List.range n), by rw [hrows]; exact hW.top, fun a dl hin2 => ?_, ?_⟩
  · obtain ⟨i, hi⟩ := List.getElem?_of_mem hin2
    rw [List.getElem?_zipWith] at hi
    cases e1 : bs[i]? with
    | none => rw [e1] at hi; cases hi
    | some b =>
      have him : i < n := by have := (List.getElem?_eq_some_iff.mp e1).1; omega
      rw [e1, List.getElem?_range him] at hi
      have hi := Option.some.inj hi
      cases hi
      exact hW.row i _ e1
  rw [hdat]
  have h00 := hrowD (i := 0) (by omega)
  simp at h00
  simp [h00]
  intro o2
  refine hN _ ?_
  clear hN N
  rw [← hLW]
  obtain ⟨I, hI⟩ : ∃ I : Nat → Dl → Prop, ∀ m δ, I m δ ↔ ∃ (F Q : List Nat) (y4 : Option R), DnI n U F Q ∧ m + F.length = n + 1 ∧ δ = [some (.d UD), some (.d LW), some (.own o (niD F)), some (.own o2 (niD Q)), y4, y5, none] := ⟨_, fun _ _ => Iff.rfl⟩
  refine seq_op fun N hN => ?_
  refine dWhile_by I ⟨n + 1, (hI _ _).mpr ⟨[], _, y4, DnI.init, by simp, rfl⟩⟩ fun m δ hJ => ?_
  obtain ⟨F, Q, y4, hD, hm, rfl⟩ := (hI _ _).mp hJ
  refine ⟨fun b => b = !Q.isEmpty, fun Ψ hΨ => ?_, fun hb => ?_, fun hb => ?_⟩
  · simp
    have e : (niD Q).isEmpty = Q.isEmpty := by unfold niD; cases Q <;> rfl
    rw [e]
    exact hΨ _ rfl
  · obtain ⟨Q', c, rfl⟩ : ∃ (Q' : List Nat) (c : Nat), Q = Q' ++ [c] := by
      rcases List.eq_nil_or_concat Q with z | ⟨Q', c, z⟩
      · rw [z] at hb; cases hb
      · exact ⟨Q', c, by simpa using z⟩
    have hcn : c < n := hD.lt c (by simp)
    have hst := hD.step hU0
    have hfl : (F ++ [c]).length ≤ n := by
      have := nodup_le (A := (F ++ [c])) (B := List.range n) ?_ ?_
      · rw [List.length_range] at this; exact this
      · exact (List.nodup_append.mp hst.nd).1
      · intro x hx
        exact List.mem_range.mpr (hst.lt x (List.mem_append_left _ hx))
    have hql : Q'.length ≤ n := by
      have h1 := (List.nodup_append.mp (List.nodup_append.mp hst.nd).2.1).1
      have := nodup_le (A := Q') (B := List.range n) h1 fun x hx => List.mem_range.mpr (hst.lt x (by simp [hx]))
      rw [List.length_range] at this; exact this
    have hkl := kidsW_len U n c
    rw [List.length_append, List.length_singleton] at hfl
    have e1 : niD (Q' ++ [c]) = niD Q' ++ [.int (c : Int)] := by simp [niD]
    have e2 : niD (Q' ++ kidsW U n c) = niD Q' ++ niD (kidsW U n c) := by simp [niD]
    have e3 : niD (F ++ [c]) = niD F ++ [.int (c : Int)] := by simp [niD]
    have l1 : (niD F).length = F.length := by simp [niD]
    have l2 : (niD Q').length = Q'.length := by simp [niD]
    have l3 : (niD (kidsW U n c)).length = (kidsW U n c).length := by simp [niD]
    have hrc := hrowD hcn
    refine seq_op fun N hN => ?_
    rw [e1]
    simp
    refine ⟨_, _, _, ⟨rfl, rfl, rfl⟩, hN _ ?_⟩
    clear hN N
    refine seq_op fun N hN => ?_
    simp
    refine ⟨by rw [l1]; exact fz4 (by omega), hN _ ?_⟩
    clear hN N
    rw [← e3]
    simp [hLW, hrc]
    rw [← hLW, ← e2]
    refine ⟨fz3 (by omega), n - F.length, by omega, (hI _ _).mpr ⟨_, _, _, hst, by rw [List.length_append, List.length_singleton]; omega, rfl⟩⟩
  · have : Q = [] := by cases Q with
      | nil => rfl
      | cons a b => cases hb
    subst this
    refine hN _ ?_
    simp
    trace_state
    exact h F hD


/-! ### dominators, nodes by number -/
theorem ifs_t {dt : DT} {d1 d2 : DS} {E : DEnds} {δ : Dl} (ht : ∀ Ψ : Bool → Prop, Ψ true → dt δ Ψ) (h : d1 E δ) : dIfS dt d1 d2 E δ := ht _ (by rw [if_pos rfl]; exact h)
theorem ifs_f {dt : DT} {d1 d2 : DS} {E : DEnds} {δ : Dl} (ht : ∀ Ψ : Bool → Prop, Ψ false → dt δ Ψ) (h : d2 E δ) : dIfS dt d1 d2 E δ := ht _ (by rw [if_neg Bool.false_ne_true]; exact h)
theorem okd_ints {xs : List Int} (h : xs.length ≤ 1000000) : Okd 1 (.list (xs.map .int)) := .list (fun y hy => by obtain ⟨i, _, rfl⟩ := List.mem_map.mp hy; exact .int i) (by rw [List.length_map]; exact h)
/-! the dominators of x among kn -/
noncomputable def dmT (G : Nat → List Nat) (en y x : Nat) : Bool := @decide (¬ RN G en y x) (Classical.propDecidable _)
theorem dmT_iff {G : Nat → List Nat} {en y x : Nat} : dmT G en y x = true ↔ ¬ RN G en y x := by
  unfold dmT
  exact @decide_eq_true_iff _ (Classical.propDecidable _)
noncomputable def dmL (G : Nat → List Nat) (en : Nat) (kn : List Nat) (x : Nat) : List Nat := kn.filter fun y => dmT G en y x
section
variable {G : Nat → List Nat} {en : Nat} {kn : List Nat}
theorem dm_mem {x y : Nat} : y ∈ dmL G en kn x ↔ y ∈ kn ∧ ¬ RN G en y x := by
  unfold dmL
  rw [List.mem_filter, dmT_iff]
theorem rn_two {d y v : Nat} (hne : y ≠ d) (h : Reach G en v) : (RN G en d v ∧ RN G en y v) ∨ RN G en d y ∨ RN G en y d := by
  induction h with
  | root =>
    by_cases c1 : d = en
    · exact .inr (.inr (by rw [c1]; exact .root fun z => hne (z.trans c1.symm)))
    · by_cases c2 : y = en
      · exact .inr (.inl (by rw [c2]; exact .root c1))
      · exact .inl ⟨.root c1, .root c2⟩
  | @next u v h e ih =>
    rcases ih with ⟨i1, i2⟩ | i
    · by_cases c1 : v = d
      · exact .inr (.inr (by rw [← c1]; exact .step i2 e fun z => hne (z.symm.trans c1)))
      · by_cases c2 : v = y
        · exact .inr (.inl (by rw [← c2]; exact .step i1 e c1))
        · exact .inl ⟨.step i1 e c1, .step i2 e c2⟩
    · exact .inr i
theorem dm_lt (nd : kn.Nodup) (hk : ∀ x, x ∈ kn ↔ Reach G en x) {d y : Nat} (hd : d ∈ kn) (hy : y ∈ kn) (hyd : ¬ RN G en y d) (hne : y ≠ d) : (dmL G en kn y).length < (dmL G en kn d).length := by
  have hdy : RN G en d y := by
    rcases rn_two hne ((hk y).mp hy) with ⟨_, z⟩ | z | z
    · exact absurd rfl (rn_self z)
    · exact z
    · exact absurd z hyd
  have h1 : (d :: dmL G en kn y).Nodup := List.nodup_cons.mpr ⟨fun z => (dm_mem.mp z).2 hdy, nd.filter _⟩
  have := nodup_le h1 (B := dmL G en kn d) fun z hz => by
    rcases List.mem_cons.mp hz with rfl | hz
    · exact dm_mem.mpr ⟨hd, fun q => rn_self q rfl⟩
    · obtain ⟨z1, z2⟩ := dm_mem.mp hz
      refine dm_mem.mpr ⟨z1, fun q => ?_⟩
      rcases rn_past (d := y) q with q | q
      · exact hyd q
      · exact z2 q
  exact this
theorem dm_strict {d x : Nat} (h : NId G en d x) : (dmL G en kn x).filter (fun y => decide (y ≠ x)) = dmL G en kn d := by
  unfold dmL
  rw [List.filter_filter]
  refine List.filter_congr fun y _ => ?_
  rw [Bool.eq_iff_iff, Bool.and_eq_true, decide_eq_true_iff, dmT_iff, dmT_iff, h.iff y]
  constructor
  · rintro ⟨h1, h2⟩
    rcases h2 with h2 | h2
    · exact absurd h2 h1
    · exact h2
  · intro h2
    exact ⟨fun z => h2 (by rw [z]; exact h.no), .inr h2⟩
theorem dm_near (nd : kn.Nodup) (hk : ∀ x, x ∈ kn ↔ Reach G en x) {d : Nat} (hd : d ∈ kn) : (dmL G en kn d).filter (fun y => decide ((dmL G en kn y).length = (dmL G en kn d).length)) = [d] := by
  have hdd : d ∈ dmL G en kn d := dm_mem.mpr ⟨hd, fun q => rn_self q rfl⟩
  have nd2 : (dmL G en kn d).Nodup := nd.filter _
  have h1 : (dmL G en kn d).filter (fun y => decide ((dmL G en kn y).length = (dmL G en kn d).length)) = (dmL G en kn d).filter fun y => decide (y = d) := by
    refine List.filter_congr fun y hy => ?_
    rw [Bool.eq_iff_iff, decide_eq_true_iff, decide_eq_true_iff]
    constructor
    · intro e
      by_cases q : y = d
      · exact q
      · obtain ⟨y1, y2⟩ := dm_mem.mp hy
        have := dm_lt nd hk hd y1 y2 q
        omega
    · intro e; rw [e]
  rw [h1]
  clear h1
  generalize dmL G en kn d = l at hdd nd2
  induction l with
  | nil => cases hdd
  | cons a l ih =>
    have nd2 := List.nodup_cons.mp nd2
    rw [List.filter_cons]
    by_cases q : a = d
    · subst q
      rw [if_pos (by simp), List.filter_eq_nil_iff.mpr fun z hz => by
        have : z ≠ a := fun e => nd2.1 (e ▸ hz)
        simpa using this]
    · rw [if_neg (by simpa using q)]
      rcases List.mem_cons.mp hdd with z | z
      · exact absurd z.symm q
      · exact ih z nd2.2
theorem dm_root : (dmL G en kn en).filter (fun y => decide (y ≠ en)) = [] := by
  refine List.filter_eq_nil_iff.mpr fun y hy z => ?_
  have z : y ≠ en := by simpa using z
  exact (dm_mem.mp hy).2 (.root z)
theorem nid_dom {d x : Nat} (h : NId G en d x) : ¬ RN G en d x ∧ d ≠ x := ⟨(h.iff d).mpr (.inr fun q => rn_self q rfl), fun z => rn_self h.no z⟩
end


/-! ### reached -/
theorem perm_memN {α : Type} [DecidableEq α] {a b : List α} (ha : a.Nodup) (hb : b.Nodup) (h : ∀ x, x ∈ a ↔ x ∈ b) : a.Perm b := (List.perm_ext_iff_of_nodup ha hb).mpr h
theorem sorted_eqI {a b : List Int} (h : a.Perm b) (ha : a.Pairwise (· ≤ ·)) (hb : b.Pairwise (· ≤ ·)) : a = b := h.eq_of_pairwise (fun x y _ _ h1 h2 => by have h1 : x ≤ y := h1; have h2 : y ≤ x := h2; omega) ha hb
def lbF (f : Fn) (x : Nat) : Int := (fnL f).getD x 0
theorem lbF_at {f : Fn} {x : Nat} (h : x < f.bs.length) : (fnL f)[x]? = some (lbF f x) := by
  unfold lbF
  rw [List.getD_eq_getElem?_getD, List.getElem?_eq_getElem (by unfold fnL; rw [List.length_map]; exact h)]
  rfl
theorem fnL_len (f : Fn) : (fnL f).length = f.bs.length := by simp [fnL]
theorem gF_len (f : Fn) : (gF f).length = f.bs.length := by simp [gF]
structure FnE (f : Fn) : Prop where
  b0 : 1 ≤ f.bs.length
  b1 : f.bs.length ≤ 1000
  es : ∀ b ∈ f.bs, b.en.es.length ≤ 1000
theorem tgR_lt {ls xs : List Int} {t : Nat} (h : t ∈ tgR ls xs) : t < ls.length ∧ ∃ l, l ∈ ls ∧ l ∈ xs ∧ ls.idxOf l = t := by
  unfold tgR at h
  obtain ⟨l, hl, rfl⟩ := List.mem_map.mp h
  obtain ⟨h1, h2⟩ := List.mem_filter.mp hl
  have h2 := of_decide_eq_true h2
  exact ⟨List.idxOf_lt_length_iff.mpr h2, l, h2, h1, rfl⟩
theorem FnE.gns {f : Fn} (h : FnE f) : GNs (gF f) := by
  refine ⟨by rw [gF_len]; exact h.b0, by rw [gF_len]; exact h.b1, fun r hr => ?_⟩
  unfold gF at hr
  obtain ⟨b, hb, rfl⟩ := List.mem_map.mp hr
  refine ⟨Nat.le_trans tgR_len (by rw [List.length_map]; exact h.es b hb), fun t ht => ?_⟩
  rw [gF_len, ← fnL_len]
  exact (tgR_lt ht).1
/-- a reached block is the first one with its label -/
theorem first_of {f : Fn} (h : FnE f) {x : Nat} (hx : Reach (gN (gF f)) 0 x) : x < f.bs.length ∧ (fnL f).idxOf (lbF f x) = x := by
  have key : ∀ l, l ∈ fnL f → (fnL f).idxOf l < f.bs.length ∧ (fnL f).idxOf (lbF f ((fnL f).idxOf l)) = (fnL f).idxOf l := fun l hl => by
    have h1 : (fnL f).idxOf l < (fnL f).length := List.idxOf_lt_length_iff.mpr hl
    have h2 : lbF f ((fnL f).idxOf l) = l := by
      unfold lbF
      rw [List.getD_eq_getElem?_getD, List.getElem?_eq_getElem h1, List.getElem_idxOf h1]
      rfl
    rw [h2, ← fnL_len]
    exact ⟨h1, rfl⟩
  cases hx with
  | root =>
    have h0 := lbF_at (f := f) (x := 0) h.b0
    have e : (fnL f).idxOf (lbF f 0) = 0 := by
      cases e2 : fnL f with
      | nil => have t1 := fnL_len f; rw [e2] at t1; have t2 := h.b0; simp at t1; omega
      | cons a l => rw [e2] at h0; rw [show lbF f 0 = a from (by simpa using h0.symm)]; exact List.idxOf_cons_self
    exact ⟨h.b0, e⟩
  | @next u _ hu hm =>
    by_cases hul : u < (gF f).length
    · have hg := (h.gns.lt hul).1
      unfold gF at hg
      rw [List.getElem?_map] at hg
      obtain ⟨b, hb, e⟩ := Option.map_eq_some_iff.mp hg
      change x ∈ gN (List.map (fun b => tgR (fnL f) (List.map (fun x => x.lb) b.en.es)) f.bs) u at hm
      rw [← e] at hm
      obtain ⟨_, l, hl, _, rfl⟩ := tgR_lt hm
      exact key l hl
    · exfalso
      unfold gN at hm
      rw [List.getD_eq_getElem?_getD, List.getElem?_eq_none (by omega)] at hm
      cases hm
def vp_reached : VSp := fun rs Φ => ∃ f : Fn, rs = [.d f.D] ∧ FnE f ∧ ∀ T : Nat → Bool, (∀ x, T x = true ↔ Reach (gN (gF f)) 0 x) → Φ (.own (((List.range f.bs.length).filter T).map fun x => .int (lbF f x)))
theorem len_reached : ∀ rs Φ, vp_reached rs Φ → rs.length = 1 := fun rs Φ ⟨_, e, _⟩ => by rw [e]; rfl
theorem zipD_get {xs ys : List PyData} {k : Nat} {x y : PyData} (hx : xs[k]? = some x) (hy : ys[k]? = some y) : (zipD xs ys)[k]? = some (.tuple [x, y]) := by
  unfold zipD
  rw [List.getElem?_zipWith, hx, hy]
theorem G_reached (T : Txt K mg) : FnOk P w K mg base CX0 3 T.f_reached T.fd_reached ["function"] (toSp K 1 vp_reached) := by
  refine fn_ok T.F_reached sc_reached fun cdv A outer s H E hr => ⟨_, (pss_cons (ps_set (i := 1) sc_reached.nd rfl (Or.inl rfl) (pe_call (G_reached_nodes T) hr (by rfl) T.g_reached_nodes T.F_reached_nodes.kp T.b_reached_nodes .nil pass0 (pa_cons (pe_call (G_block_targets T) hr (by rfl) T.g_block_targets T.F_block_targets.kp T.b_block_targets .nil pass0 (pa_cons (pv 0) pa_nil)) pa_nil)))
 (pss_one (ps_ret (pe_lc (own := [("block", 2), ("is_reached", 3)]) (g := gTup K 2 (gCons (gName 2) (gCons (gName 3) gNil))) rfl sc_reached.nd (VZ.pi_zipM (by rfl) T.zip (pa_cons (pe_ix (kx_seq (K := K) rfl) (pv 0) pe_int (fun _ _ => rfl)) (pa_cons (pv 1) pa_nil))) (blkOk_by (N := ["function", "found", "block", "is_reached"]) (sc := defScope sreached) (by decide +kernel)) (fun _ _ _ _ _ => (pg_tup (n := 2) rfl (pgs_cons (pg_name (i := 2) sc_reached.nd rfl (Or.inl rfl)) (pgs_cons (pg_name (i := 3) sc_reached.nd rfl (Or.inl rfl)) pgs_nil)))) (fun _ _ _ _ _ => pts_one (pt_val (pv 3))) (fun _ _ _ _ _ => (pe_ix (kx_seq (K := K) rfl) (pv 2) pe_int (fun _ _ => rfl))))))), _, fun ex He Hf => (sms_seq (sms_asg (SmO.sm (smo_call len_reached_nodes (smq_cons (SmO.sm (smo_call len_block_targets (smq_cons (sm_var 0) smq_nil))) smq_nil))) (smg_name 1))
 (sms_retNew (smo_lcG (own := [2, 3]) (kps_tup (kps_cons (by decide) (kps_cons (by decide) kps_nil))) (smi_zipM (sm_ix (f2 := false) (sm_var 0) (sm_int _)) (sm_var 1)) (smg_tup (smg_cons (smg_name 2) (smg_cons (smg_name 3) smg_nil))) (smt_b (f1 := false) (sm_var 3)) (sm_ix (f2 := false) (sm_var 2) (sm_int _))))), ?_⟩
  rintro rs Φ ⟨f, rfl, hf, h⟩
  have hb1 := hf.b1
  obtain ⟨FD, hFD⟩ : ∃ x : PyData, x = f.D := ⟨_, rfl⟩
  rw [← hFD]
  refine seq_op fun N hN => ?_
  simp
  refine ⟨f, by rw [hFD], hf.b1, hf.es, ?_⟩
  refine ⟨_, rfl, gF f, rfl, hf.gns, fun TT hT => ?_⟩
  have h := h TT hT
  simp
  refine hN _ ?_
  clear hN N
  rw [gF_len]
  obtain ⟨BD, hBD⟩ : ∃ x : PyData, x = .list ((List.range f.bs.length).map fun x => .bool (TT x)) := ⟨_, rfl⟩
  rw [← hBD]
  obtain ⟨cz, hcz⟩ : ∃ cz : Nat → List PyData, ∀ j, cz j = ((List.range j).filter TT).map fun x => .int (lbF f x) := ⟨_, fun _ => rfl⟩
  have hzl : (zipD (f.bs.map Blk.D) ((List.range f.bs.length).map fun x => .bool (TT x))).length = f.bs.length := by simp [zipD]
  simp
  unfold oLcG
  simp [hFD, Fn.D, hBD]
  refine ⟨fun j acc => acc = cz j, (hcz 0).symm, fun j y acc hy hA => ?_, fun acc hA => ?_⟩
  · have hj : j < f.bs.length := by
      have := (List.getElem?_eq_some_iff.mp hy).1
      rw [hzl] at this
      exact this
    obtain ⟨b, hb⟩ : ∃ b, f.bs[j]? = some b := ⟨_, List.getElem?_eq_getElem hj⟩
    rw [zipD_get (x := b.D) (y := .bool (TT j)) (by rw [List.getElem?_map, hb]; rfl) (by rw [List.getElem?_map, List.getElem?_range hj]; rfl)] at hy
    cases hy
    have hlb : b.lb = lbF f j := by
      have h1 := lbF_at hj
      unfold fnL at h1
      rw [List.getElem?_map, hb] at h1
      exact Option.some.inj h1
    have hal : acc.length ≤ j := by
      rw [hA, hcz, List.length_map]
      exact Nat.le_trans (List.length_filter_le _ _) (by simp)
    have hnx : cz (j + 1) = if TT j = true then acc ++ [.int (lbF f j)] else acc := by
      rw [hcz, List.range_succ, List.filter_append, List.map_append, ← hcz, ← hA]
      by_cases q : TT j = true
      · rw [if_pos q]; simp [q]
      · rw [if_neg q]; simp [q]
    by_cases q : TT j = true
    · rw [if_pos q] at hnx
      simp [dwipe, Blk.D, q]
      refine ⟨fz4 (by omega), ?_⟩
      rw [hnx, hlb]
    · rw [if_neg q] at hnx
      simp [dwipe, Blk.D, q]
      exact hnx.symm
  · rw [hzl, hcz] at hA
    subst hA
    exact h

/-! ### dominating -/
noncomputable def rchT (f : Fn) (x : Nat) : Bool := @decide (Reach (gN (gF f)) 0 x) (Classical.propDecidable _)
theorem rchT_iff {f : Fn} {x : Nat} : rchT f x = true ↔ Reach (gN (gF f)) 0 x := by
  unfold rchT
  exact @decide_eq_true_iff _ (Classical.propDecidable _)
noncomputable def knF (f : Fn) : List Nat := (List.range f.bs.length).filter (rchT f)
theorem knF_mem {f : Fn} (h : FnE f) {x : Nat} : x ∈ knF f ↔ Reach (gN (gF f)) 0 x := by
  unfold knF
  rw [List.mem_filter, List.mem_range, rchT_iff]
  exact ⟨fun z => z.2, fun z => ⟨(first_of h z).1, z⟩⟩
theorem knF_nd (f : Fn) : (knF f).Nodup := List.nodup_range.filter _
noncomputable def dmF (f : Fn) (x : Nat) : List Nat := dmL (gN (gF f)) 0 (knF f) x
theorem dmF_nd (f : Fn) (x : Nat) : (dmF f x).Nodup := (knF_nd f).filter _
theorem rng_lt (T : Nat → Bool) (n : Nat) : ((List.range n).filter T).Pairwise (· < ·) := List.pairwise_lt_range.filter _
theorem cast_srt {l : List Nat} (h : l.Pairwise (· < ·)) : (l.map fun t : Nat => (t : Int)).Pairwise (· ≤ ·) := List.Pairwise.map _ (fun a b (hab : a < b) => by show (a : Int) ≤ (b : Int); omega) h
theorem dmF_srt (f : Fn) (x : Nat) : ((dmF f x).map fun t : Nat => (t : Int)).Pairwise (· ≤ ·) := cast_srt ((rng_lt _ _).filter _)
theorem knF_srt (f : Fn) : ((knF f).map fun t : Nat => (t : Int)).Pairwise (· ≤ ·) := cast_srt (rng_lt _ _)
theorem dmF_len (f : Fn) (x : Nat) : (dmF f x).length ≤ f.bs.length := Nat.le_trans (List.length_filter_le _ _) (Nat.le_trans (List.length_filter_le _ _) (by simp))
theorem dmF_root {f : Fn} (h : FnE f) : dmF f 0 = [0] := by
  have p : (dmF f 0).Perm [0] := perm_memN (dmF_nd f 0) (by simp) fun y => by
    unfold dmF
    rw [dm_mem, knF_mem h, List.mem_singleton]
    constructor
    · rintro ⟨_, h2⟩
      by_cases q : y = 0
      · exact q
      · exact absurd (.root q) h2
    · rintro rfl
      exact ⟨.root, fun q => rn_self q rfl⟩
  exact List.perm_singleton.mp p
theorem dmF_up {f : Fn} (h : FnE f) {d x : Nat} (hx : Reach (gN (gF f)) 0 x) (hd : NId (gN (gF f)) 0 d x) : (dmF f d ++ [x]).Perm (dmF f x) := by
  have hs := dm_strict (kn := knF f) hd
  refine perm_memN ?_ (dmF_nd f x) fun y => ?_
  · rw [List.nodup_append]
    refine ⟨dmF_nd f d, by simp, fun a ha b hb e => ?_⟩
    rw [List.mem_singleton] at hb
    subst e hb
    unfold dmF at ha
    rw [← hs] at ha
    have := (List.mem_filter.mp ha).2
    simp at this
  · unfold dmF
    rw [← hs, List.mem_append, List.mem_filter, List.mem_singleton, decide_eq_true_iff]
    constructor
    · rintro (z | rfl)
      · exact z.1
      · exact dm_mem.mpr ⟨(knF_mem h).mpr hx, fun q => rn_self q rfl⟩
    · intro z
      by_cases q : y = x
      · exact .inr q
      · exact .inl ⟨z, q⟩
theorem niD_cast (l : List Nat) : niD l = (l.map fun t : Nat => (t : Int)).map .int := by unfold niD; rw [List.map_map]; rfl
/-- the rows of the dict that is being made -/
structure RwE (f : Fn) (es : List (Key × PyData)) (F : List Nat) : Prop where
  ks : es.map (·.1) = ((0 :: F).map fun t : Nat => (t : Int)).map Sum.inl
  at_ : ∀ x ∈ 0 :: F, getE es (.inl (x : Int)) = some (.list (niD (dmF f x)))
theorem getE_no {es : List (Key × PyData)} {k : Key} (h : k ∉ es.map (·.1)) : getE es k = none := by
  induction es with
  | nil => rfl
  | cons e es ih =>
    rw [List.map_cons] at h
    rw [getE_cons, if_neg (fun z => h (by rw [z]; exact List.mem_cons_self))]
    exact ih fun z => h (List.mem_cons_of_mem _ z)
theorem RwE.put {f : Fn} {es : List (Key × PyData)} {F : List Nat} {x : Nat} (h : RwE f es F) (hx : x ∉ 0 :: F) : getE es (.inl (x : Int)) = none ∧ RwE f (putE es (.inl (x : Int)) (.list (niD (dmF f x)))) (F ++ [x]) := by
  have hn : getE es (.inl (x : Int)) = none := getE_no (by
    rw [h.ks]
    intro z
    obtain ⟨i, hi, e⟩ := List.mem_map.mp z
    obtain ⟨j, hj, e2⟩ := List.mem_map.mp hi
    injection e with e
    rw [← e2] at e
    exact hx (by rw [show x = j by omega]; exact hj))
  refine ⟨hn, ?_⟩
  rw [putE_new _ hn]
  refine ⟨?_, fun y hy => ?_⟩
  · rw [List.map_append, h.ks, ← List.cons_append, List.map_append, List.map_append]
    rfl
  · rw [getE_append]
    rw [← List.cons_append] at hy
    rcases List.mem_append.mp hy with hy | hy
    · rw [h.at_ y hy]; rfl
    · rw [List.mem_singleton.mp hy, hn, getE_cons, if_pos rfl]; rfl
def vp_dominating : VSp := fun rs Φ => ∃ f : Fn, rs = [.d f.D] ∧ FnE f ∧ Φ (.d (.dict (entD ((knF f).map fun x => ((.inl (lbF f x) : Key), PyData.list ((dmF f x).map fun y => .int (lbF f y)))))))
theorem len_dominating : ∀ rs Φ, vp_dominating rs Φ → rs.length = 1 := fun rs Φ ⟨_, e, _⟩ => by rw [e]; rfl
theorem G_dominating (T : Txt K mg) : FnOk P w K mg base CX0 5 T.f_dominating T.fd_dominating ["function"] (toSp K 1 vp_dominating) := by
  refine fn_ok T.F_dominating sc_dominating fun cdv A outer s H E hr => ⟨_, (pss_cons (ps_set (i := 1) sc_dominating.nd rfl (Or.inl rfl) (pe_call (G_block_targets T) (hr.mono (by decide)) (by rfl) T.g_block_targets T.F_block_targets.kp T.b_block_targets .nil pass0 (pa_cons (pv 0) pa_nil)))
 (pss_cons (ps_set (i := 2) sc_dominating.nd rfl (Or.inl rfl) (pe_call (G_immediate T) hr (by rfl) T.g_immediate T.F_immediate.kp T.b_immediate .nil pass0 (pa_cons (pv 1) pa_nil)))
 (pss_cons (ps_set (i := 3) sc_dominating.nd rfl (Or.inr rfl) (pe_disp (pps_cons pe_int (pe_lst (pa_cons pe_int pa_nil)) pps_nil) (by rfl) (by rfl) (fun z => by cases z) (by decide)))
 (pss_cons (ps_for PassesOwn.never rfl ((kpi_list (K := K) rfl (pe_call (G__downwards T) (hr.mono (by decide)) (by rfl) T.g__downwards T.F__downwards.kp T.b__downwards .nil pass0 (pa_cons (pv 2) pa_nil)))) (pg_name (i := 4) sc_dominating.nd rfl (Or.inl rfl)) (pss_one (ps_dput (hu_of hr) (pv 3) (pv 4) (pe_callB (kx_sortedI (K := K) rfl) (by rfl) T.sorted (by decide +kernel) (pa_cons (pe_op op_cat (pe_dget (hu_of hr) (pv 3) (pe_ix (kx_seq (K := K) rfl) (pv 2) (pv 4) (fun _ _ => rfl)) (fun _ _ => rfl)) (pe_lst (pa_cons (pv 4) pa_nil))) pa_nil)) (by rfl))))
 (pss_cons (ps_set (i := 5) sc_dominating.nd rfl (Or.inr rfl) (pe_lc (own := [("block", 6)]) (g := gName 6) (tt := tYes) rfl sc_dominating.nd ((kpi_tup (K := K) rfl (pe_ix (kx_seq (K := K) rfl) (pv 0) pe_int (fun _ _ => rfl)))) (blkOk_by (N := ["function", "targets", "uppers", "rows", "node", "labels", "block", "k"]) (sc := defScope sdominating) (by decide +kernel)) (fun _ _ _ _ _ => pg_name (i := 6) sc_dominating.nd rfl (Or.inl rfl)) (fun _ _ _ _ _ => pts_nil) (fun _ _ _ _ _ => (pe_ix (kx_seq (K := K) rfl) (pv 6) pe_int (fun _ _ => rfl)))))
 (pss_one (ps_frz (ps_ret (pe_frz (pe_dc (own := [("node", 4)]) (g := gName 4) (tt := tYes) rfl sc_dominating.nd ((kpi_list (K := K) rfl (pe_callB (vcall_sortedDI rfl) (by rfl) T.sorted (by decide +kernel) (pa_cons (pv 3) pa_nil)))) (blkOk_by (N := ["function", "targets", "uppers", "rows", "node", "labels", "block", "k"]) (sc := defScope sdominating) (by decide +kernel)) (fun _ _ _ _ _ => pg_name (i := 4) sc_dominating.nd rfl (Or.inl rfl)) (fun _ _ _ _ _ => pts_nil) (fun _ _ _ _ _ => (pe_ix (kx_seq (K := K) rfl) (pv 5) (pv 4) (fun _ _ => rfl))) (fun _ _ _ _ _ => (pe_lc (own := [("k", 7)]) (g := gName 7) (tt := tYes) rfl sc_dominating.nd ((kpi_list (K := K) rfl (pe_dget (hu_of hr) (pv 3) (pv 4) (fun _ _ => rfl)))) (blkOk_by (N := ["function", "targets", "uppers", "rows", "node", "labels", "block", "k"]) (by rfl)) (fun _ _ _ _ _ => pg_name (i := 7) sc_dominating.nd rfl (Or.inl rfl)) (fun _ _ _ _ _ => pts_nil) (fun _ _ _ _ _ => (pe_ix (kx_seq (K := K) rfl) (pv 5) (pv 7) (fun _ _ => rfl))))))))))))))), _, fun ex He Hf => (sms_seq (sms_asg (SmO.sm (smo_call len_block_targets (smq_cons (sm_var 0) smq_nil))) (smg_name 1))
 (sms_seq (sms_asg (SmO.sm (smo_call len_immediate (smq_cons (sm_var 1) smq_nil))) (smg_name 2))
 (sms_seq (sms_asgD 3 (smd_one (sm_int _) (SmO.sm (smo_lst (sma_cons (sm_int _) sma_nil)))))
 (sms_seq (sms_for (smi_list (SmO.sm (smo_call len__downwards (smq_cons (sm_var 2) smq_nil)))) (smg_name 4)
 (sms_putD (f2 := false) 3 (SmO.sm (smo_sorted (SmO.sm (smo_cat (sm_getD (f2 := false) 3 (sm_ix (f2 := false) (sm_var 2) (sm_var 4))) (SmO.sm (smo_lst (sma_cons (sm_var 4) sma_nil))))))) (sm_var 4)))
 (sms_seq (sms_asg (SmO.sm (smo_lc (i := 6) (smi_tup (sm_ix (f2 := false) (sm_var 0) (sm_int _))) smt_yes (sm_ix (f2 := false) (sm_var 6) (sm_int _)))) (smg_name 5))
 (sms_frzD 3 (sms_ret (SmD.sm (smd_dc (own := [4]) (KpM.kps (kpm_name (by decide))) (smi_list (SmO.sm (smo_sortedD (f := false) (sm_var 3)))) (smg_name 4) smt_yes (sm_ix (f2 := false) (sm_var 5) (sm_var 4)) (SmO.sm (smo_lc (i := 7) (smi_list (sm_getF (f2 := false) (sm_var 3) (sm_var 4))) smt_yes (sm_ix (f2 := false) (sm_var 5) (sm_var 7))))))))))))), ?_⟩
  rintro rs Φ ⟨f, rfl, hf, h⟩
  have hb0 := hf.b0
  have hb1 := hf.b1
  obtain ⟨FD, hFD⟩ : ∃ x : PyData, x = f.D := ⟨_, rfl⟩
  rw [← hFD]
  refine seq_op fun N hN => ?_
  simp
  refine ⟨f, by rw [hFD], hf.b1, hf.es, _, rfl, hN _ ?_⟩
  clear hN N
  obtain ⟨TD, hTD⟩ : ∃ x : PyData, x = wD (gF f) := ⟨_, rfl⟩
  refine seq_op fun N hN => ?_
  simp
  refine ⟨gF f, rfl, hf.gns, fun Rv hRl hR1 hR2 => ⟨_, rfl, hN _ ?_⟩⟩
  clear hN N
  rw [show PyData.list ((gF f).map fun r => PyData.list (r.map fun t : Nat => PyData.int (t : Int))) = TD from hTD.symm]
  rw [gF_len] at hRl hR1 hR2
  -- the tree
  obtain ⟨U, hU⟩ : ∃ U : Nat → Option Nat, ∀ x, U x = match Rv[x]? with
    | some (.ofNat d) => some d
    | _ => none := ⟨_, fun _ => rfl⟩
  have hU1 : ∀ x, x < f.bs.length → (x = 0 ∨ ¬ Reach (gN (gF f)) 0 x) → U x = none := fun x hx q => by rw [hU, hR1 x hx q]; rfl
  have hU2 : ∀ x, x < f.bs.length → x ≠ 0 → Reach (gN (gF f)) 0 x → ∃ d, d < f.bs.length ∧ U x = some d ∧ NId (gN (gF f)) 0 d x := fun x hx q1 q2 => by
    obtain ⟨d, h1, h2, h3⟩ := hR2 x hx q1 q2
    exact ⟨d, h1, by rw [hU, h2], h3⟩
  have hUs : ∀ x d, x < f.bs.length → U x = some d → x ≠ 0 ∧ Reach (gN (gF f)) 0 x ∧ d < f.bs.length ∧ NId (gN (gF f)) 0 d x := fun x d hx e => by
    by_cases q : x = 0 ∨ ¬ Reach (gN (gF f)) 0 x
    · rw [hU1 x hx q] at e; cases e
    · have q1 : x ≠ 0 := fun z => q (.inl z)
      have q2 : Reach (gN (gF f)) 0 x := Classical.byContradiction fun z => q (.inr z)
      obtain ⟨d', h1, h2, h3⟩ := hU2 x hx q1 q2
      rw [h2] at e
      cases e
      exact ⟨q1, q2, h1, h3⟩
  have hUR : upR f.bs.length U = Rv := by
    refine List.ext_getElem? fun i => ?_
    unfold upR
    rw [List.getElem?_map]
    by_cases c : i < f.bs.length
    · rw [List.getElem?_range c]
      by_cases q : i = 0 ∨ ¬ Reach (gN (gF f)) 0 i
      · rw [hR1 i c q, Option.map_some, hU1 i c q]
      · have q1 : i ≠ 0 := fun z => q (.inl z)
        have q2 : Reach (gN (gF f)) 0 i := Classical.byContradiction fun z => q (.inr z)
        obtain ⟨d, h1, h2, h3⟩ := hR2 i c q1 q2
        have e : U i = some d := by rw [hU, h2]
        rw [h2, Option.map_some, e]
    · rw [List.getElem?_eq_none (by simp; omega), List.getElem?_eq_none (by omega)]
      rfl
  obtain ⟨RD, hRD⟩ : ∃ x : PyData, x = .list (Rv.map .int) := ⟨_, rfl⟩
  rw [← hRD]
  have hRa : ∀ {x d : Nat}, x < f.bs.length → U x = some d → atI (Rv.map PyData.int) (x : Int) = some (.int (d : Int)) := fun {x d} hx e => by
    obtain ⟨q1, q2, _, _⟩ := hUs x d hx e
    obtain ⟨d', h1, h2, h3⟩ := hR2 x hx q1 q2
    have e2 : U x = some d' := by rw [hU, h2]
    rw [e] at e2
    cases e2
    exact int_at h2
  -- rows
  refine seq_op fun N hN => ?_
  unfold dAsgD ddOne
  simp
  refine ⟨fz3 (by decide), .inl 0, rfl, fun a => hN _ ?_⟩
  clear hN N
  have hE0 : RwE f [((.inl 0 : Key), PyData.list [.int 0])] [] := ⟨rfl, fun x hx => by
    rw [show x = 0 by simpa using hx, dmF_root hf]
    simp [getE, niD]⟩
  refine seq_by (fun δ => ∃ (F : List Nat) (es : List (Key × PyData)) (y4 : Option R), DnI f.bs.length U F [] ∧ RwE f es F ∧ δ = [some (.d FD), some (.d TD), some (.d RD), some (.dct a es), y4, none, none, none]) (fun δ hI => ?_) (fun N hN => ?_)
  rotate_left
  · refine dFor_via (Pre := fun xs => ∃ F : List Nat, DnI f.bs.length U F [] ∧ xs = niD F) (fun Ψ hΨ => ?_) fun xs ⟨F, hF, hxs⟩ => ?_
    · simp
      exact ⟨f.bs.length, U, by rw [hRD, hUR], hb0, hb1, hU1 0 hb0 (.inl rfl), fun x d hx e => (hUs x d hx e).2.2.1, fun F hF => ⟨_, rfl, hΨ _ ⟨F, hF, rfl⟩⟩⟩
    subst hxs
    have hFn : F.Nodup := by have := hF.nd; rwa [List.append_nil] at this
    have hFl : ∀ x ∈ F, x < f.bs.length := fun x hx => hF.lt x (List.mem_append_left _ hx)
    have hFc : F.length ≤ f.bs.length := by
      have := nodup_le hFn (B := List.range f.bs.length) fun x hx => List.mem_range.mpr (hFl x hx)
      rwa [List.length_range] at this
    obtain ⟨I, hI⟩ : ∃ I : Nat → Dl → Prop, ∀ k δ, I k δ ↔ ∃ (es : List (Key × PyData)) (y4 : Option R), RwE f es (F.take k) ∧ δ = [some (.d FD), some (.d TD), some (.d RD), some (.dct a es), y4, none, none, none] := ⟨_, fun _ _ => Iff.rfl⟩
    refine dFor_w (xs := niD F) (fun Ψ hΨ => hΨ) I ((hI _ _).mpr ⟨_, none, hE0, rfl⟩) (fun k y δ hy hJ => ?_) (fun δ hJ => ?_)
    · obtain ⟨es, y4, hE, rfl⟩ := (hI _ _).mp hJ
      unfold niD at hy
      rw [List.getElem?_map] at hy
      obtain ⟨x, hx, rfl⟩ := Option.map_eq_some_iff.mp hy
      have hkl : k < F.length := (List.getElem?_eq_some_iff.mp hx).1
      have hxl := hFl x (List.mem_of_getElem? hx)
      obtain ⟨d, hd, hdF⟩ := hF.od k x hx
      obtain ⟨q1, q2, q3, q4⟩ := hUs x d hxl hd
      have hdm := hE.at_ d (by rcases hdF with rfl | z; exact List.mem_cons_self; exact List.mem_cons_of_mem _ z)
      have hnew : x ∉ 0 :: F.take k := fun z => by
        rcases List.mem_cons.mp z with z | z
        · exact q1 z
        · obtain ⟨i, hi⟩ := List.getElem?_of_mem z
          rw [List.getElem?_take] at hi
          split at hi
          · obtain ⟨p1, e1⟩ := List.getElem?_eq_some_iff.mp hi
            obtain ⟨p2, e2⟩ := List.getElem?_eq_some_iff.mp hx
            have := (List.getElem_inj (h₀ := p1) (h₁ := p2) hFn).mp (e1.trans e2.symm)
            omega
          · cases hi
      obtain ⟨_, hE2⟩ := hE.put hnew
      have hdl := dmF_len f d
      have hel : es.length = (F.take k).length + 1 := by
        have := congrArg List.length hE.ks
        simpa using this
      rw [List.length_take] at hel
      have hpm := dmF_up hf q2 q4
      have ha := hRa hxl hd
      have hnl : (niD (dmF f d)).length = (dmF f d).length := by simp [niD]
      simp [hRD, ha]
      rw [← hRD]
      refine ⟨.inl (d : Int), rfl, _, hdm, fz3 (by decide), _, rfl, ?_, (dmF f d ++ [x]).map fun t : Nat => (t : Int), by rw [niD_cast, List.map_append, List.map_append]; rfl, fun ms hm hs => ?_⟩
      · rw [hnl]; exact fz3 (by omega)
      have e : ms = (dmF f x).map fun t : Nat => (t : Int) := sorted_eqI (hm.trans (hpm.map _)) hs (dmF_srt f x)
      subst e
      refine ⟨.inl (x : Int), rfl, fz4 (by omega), (hI _ _).mpr ⟨_, some (.d (.int (x : Int))), ?_, rfl⟩⟩
      rw [List.take_add_one, hx, ← niD_cast]
      exact hE2
    · obtain ⟨es, y4, hE, rfl⟩ := (hI _ _).mp hJ
      rw [show (niD F).length = F.length by simp [niD], List.take_length] at hE
      exact hN _ ⟨F, es, y4, hF, hE, rfl⟩
  obtain ⟨F, es, y4, hF, hE, rfl⟩ := hI
  have hFr : ∀ (n : Nat) (x : Nat), (dmF f x).length ≤ n → Reach (gN (gF f)) 0 x → x = 0 ∨ x ∈ F := fun n => by
    induction n with
    | zero =>
      intro x hl hx
      have : x ∈ dmF f x := dm_mem.mpr ⟨(knF_mem hf).mpr hx, fun q => rn_self q rfl⟩
      rw [List.length_eq_zero_iff.mp (by omega : (dmF f x).length = 0)] at this
      cases this
    | succ n ih =>
      intro x hl hx
      by_cases q : x = 0
      · exact .inl q
      · obtain ⟨d, h1, h2, h3⟩ := hU2 x (first_of hf hx).1 q hx
        have hp := (dmF_up hf hx h3).length_eq
        rw [List.length_append, List.length_singleton] at hp
        have := hF.cl x d (first_of hf hx).1 h2 (ih d (by omega) h3.rch)
        rw [List.append_nil] at this
        exact .inr this
  have hFn : F.Nodup := by have := hF.nd; rwa [List.append_nil] at this
  have hFp : (0 :: F).Perm (knF f) := perm_memN (List.nodup_cons.mpr ⟨fun z => by
    obtain ⟨d, hd, _⟩ := hF.up 0 (List.mem_append_left _ z)
    exact (hUs 0 d hb0 hd).1 rfl, hFn⟩) (knF_nd f) fun x => by
    rw [knF_mem hf, List.mem_cons]
    constructor
    · rintro (rfl | z)
      · exact .root
      · obtain ⟨d, hd, _⟩ := hF.up x (List.mem_append_left _ z)
        exact (hUs x d (hF.lt x (List.mem_append_left _ z)) hd).2.1
    · exact hFr _ x (Nat.le_refl _)
  -- labels
  refine seq_op fun N hN => ?_
  simp
  refine oLc_of f.bs Blk.D (fun b => .int b.lb) (by omega) (fun Ψ hΨ => by simpa [hFD, Fn.D] using hΨ) (fun j b Ψ hb hΨ => by simpa [Blk.D] using hΨ) ?_
  have e1 : f.bs.map (fun b => PyData.int b.lb) = (fnL f).map .int := by unfold fnL; rw [List.map_map]; rfl
  rw [e1]
  refine hN _ ?_
  clear hN N
  obtain ⟨LD, hLD⟩ : ∃ x : PyData, x = .list ((fnL f).map .int) := ⟨_, rfl⟩
  rw [← hLD]
  have hLa : ∀ {x : Nat}, x < f.bs.length → atI ((fnL f).map PyData.int) (x : Int) = some (.int (lbF f x)) := fun {x} hx => int_at (lbF_at hx)
  have hkl : (knF f).length ≤ f.bs.length := Nat.le_trans (List.length_filter_le _ _) (by simp)
  have hFl : F.length + 1 = (knF f).length := by have := hFp.length_eq; simpa using this
  simp
  unfold dD ddDC
  simp
  refine ⟨es, rfl, (0 :: F).map fun t : Nat => (t : Int), hE.ks, by simp; omega, fun ms hm hs => ?_⟩
  have e2 : ms = (knF f).map fun t : Nat => (t : Int) := sorted_eqI (hm.trans (hFp.map _)) hs (knF_srt f)
  subst e2
  obtain ⟨ze, hze⟩ : ∃ ze : Nat → Key × PyData, ∀ x, ze x = ((.inl (lbF f x) : Key), PyData.list ((dmF f x).map fun y => .int (lbF f y))) := ⟨_, fun _ => rfl⟩
  refine ⟨fun k acc => acc = ((knF f).take k).map ze, rfl, fun k y acc i hi ey hA => ?_, fun acc hA => ?_⟩
  · subst ey
    rw [List.getElem?_map] at hi
    obtain ⟨x, hx, rfl⟩ := Option.map_eq_some_iff.mp hi
    have hkl2 : k < (knF f).length := (List.getElem?_eq_some_iff.mp hx).1
    have hxr := (knF_mem hf).mp (List.mem_of_getElem? hx)
    have hxf := first_of hf hxr
    have hxa := hLa hxf.1
    have hxe := hE.at_ x (hFp.mem_iff.mpr (List.mem_of_getElem? hx))
    have hA : acc = ((knF f).take k).map ze := hA
    simp [hLD, hxa]
    rw [← hLD]
    refine oLc_of (dmF f x) (fun t : Nat => .int (t : Int)) (fun t => .int (lbF f t)) (by have := dmF_len f x; omega) (fun Ψ hΨ => ?_) (fun j t Ψ ht hΨ => ?_) ?_
    · simp
      exact ⟨_, rfl, .inl (x : Int), rfl, _, hxe, _, rfl, hΨ⟩
    · have htm := List.mem_of_getElem? ht
      have htr := (knF_mem hf).mp (dm_mem.mp htm).1
      have hta := hLa (first_of hf htr).1
      simp [hLD, hta]
      exact hΨ
    · have hno : getE acc (.inl (lbF f x)) = none := getE_no (by
        rw [hA, List.map_map]
        intro z
        obtain ⟨u, hu, e⟩ := List.mem_map.mp z
        have e : (Sum.inl (lbF f u) : Key) = .inl (lbF f x) := by rw [← e]; show _ = (ze u).1; rw [hze]
        injection e with e
        have hur := (knF_mem hf).mp (List.mem_of_mem_take hu)
        have e2 := (first_of hf hur).2
        rw [e, hxf.2] at e2
        subst e2
        obtain ⟨i, hi2⟩ := List.getElem?_of_mem hu
        rw [List.getElem?_take] at hi2
        split at hi2
        · obtain ⟨p1, f1⟩ := List.getElem?_eq_some_iff.mp hi2
          obtain ⟨p2, f2⟩ := List.getElem?_eq_some_iff.mp hx
          have := (List.getElem_inj (h₀ := p1) (h₁ := p2) (knF_nd f)).mp (f1.trans f2.symm)
          omega
        · cases hi2)
      refine ⟨.inl (lbF f x), rfl, ?_, ?_⟩
      · rw [hA, List.length_map, List.length_take]
        exact fz4 (by omega)
      · rw [putE_new _ hno, hA, List.take_add_one, List.getElem?_map, hx, ← List.map_take]
        show _ = _ ++ [ze x]
        rw [hze]
  · have hA : acc = ((knF f).take ((knF f).map fun t : Nat => (t : Int)).length).map ze := hA
    rw [List.length_map, List.take_length] at hA
    rw [hA]
    have : ze = fun x => ((.inl (lbF f x) : Key), PyData.list ((dmF f x).map fun y => .int (lbF f y))) := funext hze
    rw [this]
    exact h


/-! ### the law's own walk -/
def vp__law_edge_list : VSp := fun rs Φ => ∃ e : End, rs = [.d e.D] ∧ e.es.length ≤ 1000 ∧ Φ (.own (e.es.map Edg.D))
theorem len__law_edge_list : ∀ rs Φ, vp__law_edge_list rs Φ → rs.length = 1 := fun rs Φ ⟨_, e, _⟩ => by rw [e]; rfl
theorem G__law_edge_list (T : Txt K mg) : FnOk P w K mg base CX0 1 T.f__law_edge_list T.fd__law_edge_list ["end"] (toSp K 1 vp__law_edge_list) := by
  refine fn_ok T.F__law_edge_list sc__law_edge_list fun cdv A outer s H E hr => ⟨_, (pss_cons (ps_if (pt_cmpR op_eq (pe_ix (kx_seq (K := K) rfl) (pv 0) pe_int (fun _ _ => rfl)) pe_str (nomark _)) (pss_one (ps_ret (pe_lst (pa_cons (pe_ix (kx_seq (K := K) rfl) (pv 0) pe_int (fun _ _ => rfl)) pa_nil)))) pss_nil)
 (pss_cons (ps_if (pt_cmpR op_eq (pe_ix (kx_seq (K := K) rfl) (pv 0) pe_int (fun _ _ => rfl)) pe_str (nomark _)) (pss_one (ps_ret (pe_lst (pa_cons (pe_ix (kx_seq (K := K) rfl) (pv 0) pe_int (fun _ _ => rfl)) (pa_cons (pe_ix (kx_seq (K := K) rfl) (pv 0) pe_int (fun _ _ => rfl)) pa_nil))))) pss_nil)
 (pss_cons (ps_if (pt_cmpR op_eq (pe_ix (kx_seq (K := K) rfl) (pv 0) pe_int (fun _ _ => rfl)) pe_str (nomark _)) (pss_one (ps_ret (pe_op op_cat (pe_lc (own := [("case", 1)]) (g := gName 1) (tt := tYes) rfl sc__law_edge_list.nd ((kpi_tup (K := K) rfl (pe_ix (kx_seq (K := K) rfl) (pv 0) pe_int (fun _ _ => rfl)))) (blkOk_by (N := ["end", "case"]) (sc := defScope s_law_edge_list) (by decide +kernel)) (fun _ _ _ _ _ => pg_name (i := 1) sc__law_edge_list.nd rfl (Or.inl rfl)) (fun _ _ _ _ _ => pts_nil) (fun _ _ _ _ _ => (pe_ix (kx_seq (K := K) rfl) (pv 1) pe_int (fun _ _ => rfl)))) (pe_lst (pa_cons (pe_ix (kx_seq (K := K) rfl) (pv 0) pe_int (fun _ _ => rfl)) pa_nil))))) pss_nil)
 (pss_one (ps_ret (pe_lst pa_nil)))))), _, fun ex He Hf => (sms_seq (sms_if (smt_t (f1 := false) (sm_op (f1 := false) (f2 := false) opd_eq (sm_ix (f2 := false) (sm_var 0) (sm_int _)) (sm_str _)))
 (sms_retNew (smo_lst (sma_cons (sm_ix (f2 := false) (sm_var 0) (sm_int _)) sma_nil)))
 sms_next)
 (sms_seq (sms_if (smt_t (f1 := false) (sm_op (f1 := false) (f2 := false) opd_eq (sm_ix (f2 := false) (sm_var 0) (sm_int _)) (sm_str _)))
 (sms_retNew (smo_lst (sma_cons (sm_ix (f2 := false) (sm_var 0) (sm_int _)) (sma_cons (sm_ix (f2 := false) (sm_var 0) (sm_int _)) sma_nil))))
 sms_next)
 (sms_seq (sms_if (smt_t (f1 := false) (sm_op (f1 := false) (f2 := false) opd_eq (sm_ix (f2 := false) (sm_var 0) (sm_int _)) (sm_str _)))
 (sms_retNew (smo_cat (SmO.sm (smo_lc (i := 1) (smi_tup (sm_ix (f2 := false) (sm_var 0) (sm_int _))) smt_yes (sm_ix (f2 := false) (sm_var 1) (sm_int _)))) (SmO.sm (smo_lst (sma_cons (sm_ix (f2 := false) (sm_var 0) (sm_int _)) sma_nil)))))
 sms_next)
 (sms_retNew (smo_lst sma_nil))))), ?_⟩
  rintro rs Φ ⟨e, rfl, hl, h⟩
  cases e with
  | sw o cs d =>
    simp [End.es] at hl
    simp [End.D, le_size, lt_size, cmul_l, cpow_l, cdiv_l]
    refine oLc_of cs caseD (fun c => c.2.D) (by omega) (fun Ψ hΨ => by simpa using hΨ) (fun k c Ψ hc hΨ => ?_) ?_
    · simpa [caseD] using hΨ
    · simp [End.es] at h
      simp
      exact ⟨fz3 (by omega), h⟩
  | _ => simpa [End.D, End.es, le_size, lt_size, cmul_l, cpow_l, cdiv_l] using h

def tgI (ls : List Int) (x : Int) : Int := if x ∈ ls then ((ls.idxOf x : Nat) : Int) else -1
def vp__law_target : VSp := fun rs Φ => ∃ (f : Fn) (x : Int), rs = [.d f.D, .d (.int x)] ∧ f.bs.length ≤ 1000 ∧ Φ (.d (.int (tgI (fnL f) x)))
theorem len__law_target : ∀ rs Φ, vp__law_target rs Φ → rs.length = 2 := fun rs Φ ⟨_, _, e, _⟩ => by rw [e]; rfl
theorem G__law_target (T : Txt K mg) : FnOk P w K mg base CX0 1 T.f__law_target T.fd__law_target ["function", "label"] (toSp K 2 vp__law_target) := by
  refine fn_ok T.F__law_target sc__law_target fun cdv A outer s H E hr => ⟨_, (pss_cons (ps_for PassesOwn.never rfl (pi_range1 rfl T.range (pa_cons (pe_callB (kx_len (K := K) rfl) (by rfl) T.len PySem.boot_len (pa_cons (pe_ix (kx_seq (K := K) rfl) (pv 0) pe_int (fun _ _ => rfl)) pa_nil)) pa_nil)) (pg_name (i := 2) sc__law_target.nd rfl (Or.inl rfl)) (pss_one (ps_if (pt_cmpR op_eq (pe_ix (kx_seq (K := K) rfl) (pe_ix (kx_seq (K := K) rfl) (pe_ix (kx_seq (K := K) rfl) (pv 0) pe_int (fun _ _ => rfl)) (pv 2) (fun _ _ => rfl)) pe_int (fun _ _ => rfl)) (pv 1) (nomark _)) (pss_one (ps_ret (pv 2))) pss_nil)))
 (pss_one (ps_ret (pe_un un_neg pe_int)))), _, fun ex He Hf => (sms_seq (sms_for (smi_rng1 (f1 := false) (sm_cb (f1 := false) cbd_len (sma_cons (sm_ix (f2 := false) (sm_var 0) (sm_int _)) sma_nil))) (smg_name 2)
 (sms_if (smt_t (f1 := false) (sm_op (f1 := false) (f2 := false) opd_eq (sm_ix (f2 := false) (sm_ix (f2 := false) (sm_ix (f2 := false) (sm_var 0) (sm_int _)) (sm_var 2)) (sm_int _)) (sm_var 1)))
 (sms_ret (sm_var 2))
 sms_next))
 (sms_ret (sm_un (f1 := false) (g' := fun i => .int (-i)) (fun _ => rfl) (sm_int _)))), ?_⟩
  rintro rs Φ ⟨f, x, rfl, hl, h⟩
  obtain ⟨FD, hFD⟩ : ∃ x : PyData, x = f.D := ⟨_, rfl⟩
  rw [← hFD]
  have hFa : FD = .tuple [.str f.nm, .str f.kd, .bool f.il, .tuple (f.bs.map Blk.D)] := hFD
  obtain ⟨I, hI⟩ : ∃ I : Nat → Dl → Prop, ∀ k δ, I k δ ↔ ∃ y2 : Option R, x ∉ (fnL f).take k ∧ δ = [some (.d FD), some (.d (.int x)), y2] := ⟨_, fun _ _ => Iff.rfl⟩
  refine seq_op fun N hN => ?_
  refine dFor_n (n := f.bs.length) (by omega) (fun Ψ hΨ => by simpa [hFa] using hΨ) I ((hI _ _).mpr ⟨none, by simp, rfl⟩) (fun k δ hk hJ => ?_) (fun δ hJ => ?_)
  · obtain ⟨y2, hx, rfl⟩ := (hI _ _).mp hJ
    obtain ⟨b, hb⟩ : ∃ b, f.bs[k]? = some b := ⟨_, List.getElem?_eq_getElem hk⟩
    have hba : atI (f.bs.map Blk.D) (k : Int) = some b.D := atI_nat (by rw [List.getElem?_map, hb]; rfl)
    have hlb : (fnL f)[k]? = some b.lb := by unfold fnL; rw [List.getElem?_map, hb]; rfl
    have hbD : b.D = .tuple [.int b.lb, .tuple (b.ps.map parD), .tuple (b.bd.map Ins.D), b.en.D] := rfl
    have hlen : ((fnL f).take k).length = k := by rw [List.length_take, fnL_len]; omega
    simp [hFa, hba]
    rw [← hFa]
    simp [hbD]
    by_cases c : b.lb = x
    · subst c
      have hm : b.lb ∈ fnL f := List.mem_of_getElem? hlb
      have e : (fnL f).idxOf b.lb = k := by
        conv => lhs; rw [← List.take_append_drop k (fnL f)]
        rw [List.idxOf_append, if_neg hx, hlen, List.drop_eq_getElem_cons (by rw [fnL_len]; exact hk)]
        have : (fnL f)[k]'(by rw [fnL_len]; exact hk) = b.lb := by
          rw [List.getElem?_eq_getElem (by rw [fnL_len]; exact hk)] at hlb
          exact Option.some.inj hlb
        rw [this, List.idxOf_cons_self]
        simp
      unfold tgI at h
      rw [if_pos hm, e] at h
      simp
      exact h
    · simp [c]
      refine (hI _ _).mpr ⟨_, ?_, rfl⟩
      rw [List.take_add_one, hlb]
      intro z
      rcases List.mem_append.mp z with z | z
      · exact hx z
      · have z : x = b.lb := by simpa using z
        exact c z.symm
  · obtain ⟨y2, hx, rfl⟩ := (hI _ _).mp hJ
    rw [List.take_of_length_le (by rw [fnL_len]; exact Nat.le_refl _)] at hx
    refine hN _ ?_
    unfold tgI at h
    rw [if_neg hx] at h
    simp
    exact h

/-! ### what the walk without a block finds -/
inductive RW (G : Nat → List Nat) (w : Int) : Nat → Prop
  | root : w ≠ 0 → RW G w 0
  | step {u v : Nat} : RW G w u → v ∈ G u → w ≠ (v : Int) → RW G w v
theorem rw_rn {G : Nat → List Nat} {c x : Nat} : RW G (c : Int) x ↔ RN G 0 c x := by
  constructor
  · intro h
    induction h with
    | root h => exact .root (by omega)
    | step _ e n ih => exact .step ih e (by omega)
  · intro h
    induction h with
    | root h => exact .root (by omega)
    | step _ e n ih => exact .step ih e (by omega)
theorem rw_all {G : Nat → List Nat} {x : Nat} : RW G (-2) x ↔ Reach G 0 x := by
  constructor
  · intro h
    induction h with
    | root _ => exact .root
    | step _ e _ ih => exact .next ih e
  · intro h
    induction h with
    | root => exact .root (by omega)
    | next _ e ih => exact .step ih e (by omega)
theorem rw_rch {G : Nat → List Nat} {w : Int} {x : Nat} (h : RW G w x) : Reach G 0 x := by
  induction h with
  | root _ => exact .root
  | step _ e _ ih => exact .next ih e
structure VsI (G : Nat → List Nat) (w : Int) (V : List Nat) (Q : List Int) : Prop where
  nd : V.Nodup
  rc : ∀ x ∈ V, RW G w x
  wt : ∀ z ∈ Q, z = -1 ∨ ∃ u : Nat, z = (u : Int) ∧ (w = (u : Int) ∨ RW G w u) ∧ Reach G 0 u
  cl : ∀ x ∈ V, ∀ y ∈ G x, w = (y : Int) ∨ y ∈ V ∨ (y : Int) ∈ Q
  r0 : w = 0 ∨ 0 ∈ V ∨ (0 : Int) ∈ Q
theorem VsI.done {G : Nat → List Nat} {w : Int} {V : List Nat} (h : VsI G w V []) (x : Nat) : x ∈ V ↔ RW G w x := by
  refine ⟨h.rc x, fun hx => ?_⟩
  induction hx with
  | root q =>
    rcases h.r0 with z | z | z
    · exact absurd z q
    · exact z
    · cases z
  | step _ e q ih =>
    rcases h.cl _ ih _ e with z | z | z
    · exact absurd z q
    · exact z
    · cases z
/-- a thing that is left out -/
theorem VsI.skip {G : Nat → List Nat} {w z : Int} {V : List Nat} {Q : List Int} (h : VsI G w V (Q ++ [z])) (hz : z = -1 ∨ z = w ∨ ∃ u : Nat, z = (u : Int) ∧ u ∈ V) : VsI G w V Q := by
  have key : ∀ y : Nat, (y : Int) ∈ Q ++ [z] → w = (y : Int) ∨ y ∈ V ∨ (y : Int) ∈ Q := fun y hy => by
    rcases List.mem_append.mp hy with hy | hy
    · exact .inr (.inr hy)
    · rw [List.mem_singleton] at hy
      rcases hz with e | e | ⟨u, e, hu⟩
      · omega
      · exact .inl (by omega)
      · exact .inr (.inl (by rw [show y = u by omega]; exact hu))
  refine ⟨h.nd, h.rc, fun y hy => h.wt y (List.mem_append_left _ hy), fun x hx y hy => ?_, ?_⟩
  · rcases h.cl x hx y hy with q | q | q
    · exact .inl q
    · exact .inr (.inl q)
    · exact key y q
  · rcases h.r0 with q | q | q
    · exact .inl q
    · exact .inr (.inl q)
    · exact key 0 q
theorem VsI.add {G : Nat → List Nat} {w : Int} {u : Nat} {V : List Nat} {Q ts : List Int} (h : VsI G w V (Q ++ [(u : Int)])) (h1 : u ∉ V) (h2 : w ≠ (u : Int)) (ht : ∀ y ∈ G u, (y : Int) ∈ ts) (ht2 : ∀ z ∈ ts, z = -1 ∨ ∃ y : Nat, z = (y : Int) ∧ y ∈ G u) : VsI G w (V ++ [u]) (Q ++ ts) := by
  have hu : RW G w u := by
    rcases h.wt (u : Int) (by simp) with z | ⟨v, e, q, _⟩
    · omega
    · rw [show u = v by omega]
      rcases q with q | q
      · exact absurd (show w = (u : Int) by omega) h2
      · exact q
  have key : ∀ y : Nat, (y : Int) ∈ Q ++ [(u : Int)] → y ∈ V ++ [u] ∨ (y : Int) ∈ Q ++ ts := fun y hy => by
    rcases List.mem_append.mp hy with hy | hy
    · exact .inr (List.mem_append_left _ hy)
    · rw [List.mem_singleton] at hy
      exact .inl (by rw [show y = u by omega]; simp)
  refine ⟨?_, fun x hx => ?_, fun z hz => ?_, fun x hx y hy => ?_, ?_⟩
  · rw [List.nodup_append]
    exact ⟨h.nd, by simp, fun a ha b hb e => by rw [List.mem_singleton] at hb; subst e hb; exact h1 ha⟩
  · rcases List.mem_append.mp hx with hx | hx
    · exact h.rc x hx
    · rw [List.mem_singleton.mp hx]; exact hu
  · rcases List.mem_append.mp hz with hz | hz
    · exact h.wt z (List.mem_append_left _ hz)
    · rcases ht2 z hz with q | ⟨y, e, hy⟩
      · exact .inl q
      · refine .inr ⟨y, e, ?_, .next (rw_rch hu) hy⟩
        by_cases c : w = (y : Int)
        · exact .inl c
        · exact .inr (.step hu hy c)
  · rcases List.mem_append.mp hx with hx | hx
    · rcases h.cl x hx y hy with q | q | q
      · exact .inl q
      · exact .inr (.inl (List.mem_append_left _ q))
      · exact .inr (key y q)
    · rw [List.mem_singleton.mp hx] at hy
      exact .inr (.inr (List.mem_append_right _ (ht y hy)))
  · rcases h.r0 with q | q | q
    · exact .inl q
    · exact .inr (.inl (List.mem_append_left _ q))
    · exact .inr (key 0 q)
theorem inD_int (v : Int) : ∀ vs : List Int, inD (.int v) (vs.map PyData.int) = decide (v ∈ vs)
  | [] => by simp [inD]
  | u :: vs => by
    have ih := inD_int v vs
    have e : inD (.int v) ((u :: vs).map PyData.int) = (PyData.eqv (.int u) (.int v) || inD (.int v) (vs.map PyData.int)) := rfl
    have inj : (u = v) = (v = u) := propext eq_comm
    rw [e, ih, Bool.eq_iff_iff]
    simp [inj]
theorem inD_niD {u : Nat} {V : List Nat} : inD (.int (u : Int)) (niD V) = decide (u ∈ V) := by
  rw [niD_cast, inD_int]
  refine decide_eq_decide.mpr ⟨fun h => ?_, fun h => List.mem_map.mpr ⟨u, h, rfl⟩⟩
  obtain ⟨v, hv, e⟩ := List.mem_map.mp h
  rw [show u = v by omega]
  exact hv
theorem gN_at {f : Fn} {u : Nat} {b : Blk} (hb : f.bs[u]? = some b) : gN (gF f) u = tgR (fnL f) (b.en.es.map (·.lb)) := by
  unfold gN gF
  rw [List.getD_eq_getElem?_getD, List.getElem?_map, hb]
  rfl
def vp__law_visited : VSp := fun rs Φ => ∃ (f : Fn) (w : Int), rs = [.d f.D, .d (.int w)] ∧ FnE f ∧ f.bs.length ≤ 18 ∧ (∀ b ∈ f.bs, b.en.es.length ≤ 5) ∧ w ≠ -1 ∧ ∀ V : List Nat, V.Nodup → (∀ x, x ∈ V ↔ RW (gN (gF f)) w x) → Φ (.own (niD V))
theorem len__law_visited : ∀ rs Φ, vp__law_visited rs Φ → rs.length = 2 := fun rs Φ ⟨_, _, e, _⟩ => by rw [e]; rfl
theorem G__law_visited (T : Txt K mg) : FnOk P w K mg base CX0 2 T.f__law_visited T.fd__law_visited ["function", "without"] (toSp K 2 vp__law_visited) := by
  refine fn_ok T.F__law_visited sc__law_visited fun cdv A outer s H E hr => ⟨_, (pss_cons (ps_set (i := 2) sc__law_visited.nd rfl (Or.inl rfl) (pe_lst pa_nil))
 (pss_cons (ps_set (i := 3) sc__law_visited.nd rfl (Or.inl rfl) (pe_lst (pa_cons pe_int pa_nil)))
 (pss_cons (ps_for PassesOwn.never rfl (pi_range1 rfl T.range (pa_cons pe_int pa_nil)) (pg_name (i := 4) sc__law_visited.nd rfl (Or.inl rfl)) (pss_cons (ps_if (pt_cmpR op_eq (pe_callB (kx_len (K := K) rfl) (by rfl) T.len PySem.boot_len (pa_cons (pv 3) pa_nil)) pe_int (nomark _)) (pss_one (ps_ret (pv 2))) pss_nil)
 (pss_cons (ps_set (i := 5) sc__law_visited.nd rfl (Or.inl rfl) (pe_bm0 PySem.F.plainAttrs_list PySem.F.slot_list_pop PySem.F.type_list_pop mt_pop (pv 3)))
 (pss_cons (ps_if (PW.pt (pw_or (pt_cmpR op_eq (pv 5) (pe_un un_neg pe_int) (nomark _)) (pw_or (pt_cmpR (kx_in (K := K) rfl) (pv 5) (pv 2) (by rfl)) (pw_or1 (pt_cmpR op_eq (pv 5) (pv 1) (nomark _)))))) (pss_one ps_continue) pss_nil)
 (pss_cons (ps_expr (pe_bm PySem.F.plainAttrs_list PySem.F.slot_list_append PySem.F.type_list_append mt_append (pv 2) (pa_cons (pv 5) pa_nil)))
 (pss_one (ps_for PassesOwn.never rfl ((kpi_list (K := K) rfl (pe_call (G__law_edge_list T) hr (by rfl) T.g__law_edge_list T.F__law_edge_list.kp T.b__law_edge_list .nil pass0 (pa_cons (pe_ix (kx_seq (K := K) rfl) (pe_ix (kx_seq (K := K) rfl) (pe_ix (kx_seq (K := K) rfl) (pv 0) pe_int (fun _ _ => rfl)) (pv 5) (fun _ _ => rfl)) pe_int (fun _ _ => rfl)) pa_nil)))) (pg_name (i := 6) sc__law_visited.nd rfl (Or.inl rfl)) (pss_one (ps_expr (pe_bm PySem.F.plainAttrs_list PySem.F.slot_list_append PySem.F.type_list_append mt_append (pv 3) (pa_cons (pe_call (G__law_target T) hr (by rfl) T.g__law_target T.F__law_target.kp T.b__law_target .nil pass0 (pa_cons (pv 0) (pa_cons (pe_ix (kx_seq (K := K) rfl) (pv 6) pe_int (fun _ _ => rfl)) pa_nil))) pa_nil)))))))))))
 (pss_one (ps_ret (pv 2)))))), _, fun ex He Hf => (sms_seq (sms_setO 2 (smo_lst sma_nil))
 (sms_seq (sms_setO 3 (smo_lst (sma_cons (sm_int _) sma_nil)))
 (sms_seq (sms_for (smi_rng1 (f1 := false) (sm_int _)) (smg_name 4)
 (sms_seq (sms_if (smt_t (f1 := false) (sm_op (f1 := false) (f2 := false) opd_eq (sm_cb (f1 := false) cbd_len (sma_cons (sm_varO 3) sma_nil)) (sm_int _)))
 (sms_retO 2)
 sms_next)
 (sms_seq (sms_pop 3 (smg_name 5))
 (sms_seq (sms_if (smt_or (smt_t (f1 := false) (sm_op (f1 := false) (f2 := false) opd_eq (sm_var 5) (sm_un (f1 := false) (g' := fun i => .int (-i)) (fun _ => rfl) (sm_int _)))) (smt_or (smt_t (f1 := false) (sm_op (f1 := false) (f2 := false) (opd_in false) (sm_var 5) (sm_varO 2))) (smt_t (f1 := false) (sm_op (f1 := false) (f2 := false) opd_eq (sm_var 5) (sm_var 1)))))
 sms_cont
 sms_next)
 (sms_seq (sms_app 2 (sm_var 5))
 (sms_for (smi_list (SmO.sm (smo_call len__law_edge_list (smq_cons (sm_ix (f2 := false) (sm_ix (f2 := false) (sm_ix (f2 := false) (sm_var 0) (sm_int _)) (sm_var 5)) (sm_int _)) smq_nil)))) (smg_name 6)
 (sms_app 3 (sm_call len__law_target (smq_cons (sm_var 0) (smq_cons (sm_ix (f2 := false) (sm_var 6) (sm_int _)) smq_nil))))))))))
 (sms_retO 2)))), ?_⟩
  rintro rs Φ ⟨f, c, rfl, hf, hb18, he5, hc1, h⟩
  obtain ⟨FD, hFD⟩ : ∃ x : PyData, x = f.D := ⟨_, rfl⟩
  rw [← hFD]
  have hFa : FD = .tuple [.str f.nm, .str f.kd, .bool f.il, .tuple (f.bs.map Blk.D)] := hFD
  have hlt : ∀ {V : List Nat}, V.Nodup → (∀ x ∈ V, RW (gN (gF f)) c x) → V.length ≤ 18 := fun {V} nd hV => by
    have := nodup_le nd (B := List.range f.bs.length) fun x hx => List.mem_range.mpr (first_of hf (rw_rch (hV x hx))).1
    rw [List.length_range] at this
    omega
  refine seq_op fun N hN => ?_
  simp
  intro o
  refine hN _ ?_
  clear hN N
  refine seq_op fun N hN => ?_
  simp [le_size, lt_size, cmul_l, cpow_l, cdiv_l]
  intro o2
  refine hN _ ?_
  clear hN N
  obtain ⟨I, hI⟩ : ∃ I : Nat → Dl → Prop, ∀ k δ, I k δ ↔ ∃ (V : List Nat) (Q : List Int) (y4 y5 y6 : Option R), VsI (gN (gF f)) c V Q ∧ k + Q.length ≤ 1 + 5 * V.length ∧ δ = [some (.d FD), some (.d (.int c)), some (.own o (niD V)), some (.own o2 (Q.map .int)), y4, y5, y6] := ⟨_, fun _ _ => Iff.rfl⟩
  refine seq_op fun N hN => ?_
  refine dFor_n (n := 200) (by omega) (fun Ψ hΨ => by simpa using hΨ) I ((hI _ _).mpr ⟨[], [0], none, none, none, ⟨by simp, fun _ h => (nomatch h), fun z hz => .inr ⟨0, by simpa using hz, ?_, .root⟩, fun _ h => (nomatch h), .inr (.inr (by simp))⟩, by simp, rfl⟩) (fun k δ hk hJ => ?_) (fun δ hJ => ?_)
  · by_cases q : c = 0
    · exact .inl (by omega)
    · exact .inr (.root q)
  rotate_left
  · obtain ⟨V, Q, y4, y5, y6, hV, hct, rfl⟩ := (hI _ _).mp hJ
    have := hlt hV.nd hV.rc
    omega
  obtain ⟨V, Q, y4, y5, y6, hV, hct, rfl⟩ := (hI _ _).mp hJ
  have hVl := hlt hV.nd hV.rc
  rcases List.eq_nil_or_concat Q with rfl | ⟨Q', z, hQ⟩
  · refine seq_op fun N2 hN2 => ?_
    simp
    exact h V hV.nd fun x => hV.done x
  have hQ : Q = Q' ++ [z] := by simpa using hQ
  subst hQ
  rw [List.length_append, List.length_singleton] at hct
  refine seq_op fun N2 hN2 => ?_
  simp
  refine hN2 _ ?_
  clear hN2 N2
  refine seq_op fun N2 hN2 => ?_
  simp
  refine ⟨_, _, _, ⟨rfl, rfl, rfl⟩, hN2 _ ?_⟩
  clear hN2 N2
  rcases hV.wt z (by simp) with rfl | ⟨u, rfl, hwu, hur⟩
  · refine seq_op fun N2 hN2 => ?_
    simp
    exact (hI _ _).mpr ⟨V, Q', _, _, _, hV.skip (.inl rfl), by omega, rfl⟩
  have hul := (first_of hf hur).1
  obtain ⟨b, hb⟩ : ∃ b, f.bs[u]? = some b := ⟨_, List.getElem?_eq_getElem hul⟩
  have hba : atI (f.bs.map Blk.D) (u : Int) = some (.tuple [.int b.lb, .tuple (b.ps.map parD), .tuple (b.bd.map Ins.D), b.en.D]) := atI_nat (by rw [List.getElem?_map, hb]; rfl)
  have hbm := List.mem_of_getElem? hb
  have he5 := he5 b hbm
  have hum1 : ¬ (u : Int) = -1 := by omega
  refine seq_op fun N2 hN2 => ?_
  refine dIfS_two (fun q => q = decide (u ∈ V ∨ (u : Int) = c)) (fun Ψ hΨ => ?_) (fun hq => ?_) (fun hq => ?_)
  · rw [niD_cast]
    simp [hum1]
    have hin : inD (PyData.int (u : Int)) (List.map (PyData.int ∘ fun t : Nat => (t : Int)) V) = decide (u ∈ V) := inD_niD
    rw [hin]
    by_cases q1 : u ∈ V
    · have := hΨ true (by simp [q1])
      simp [q1]
      exact this
    · have := hΨ (decide ((u : Int) = c)) (by simp [q1])
      simp [q1]
      exact this
  · have hq := of_decide_eq_true hq.symm
    simp
    refine (hI _ _).mpr ⟨V, Q', _, _, _, hV.skip (.inr ?_), by omega, rfl⟩
    rcases hq with hq | hq
    · exact .inr ⟨u, rfl, hq⟩
    · exact .inl hq
  have hq := of_decide_eq_false hq.symm
  simp
  refine hN2 _ ?_
  clear hN2 N2
  have hadd := hV.add (ts := b.en.es.map fun e => tgI (fnL f) e.lb) (fun z => hq (.inl z)) (fun z => hq (.inr z.symm)) (fun y hy => by
    rw [gN_at hb] at hy
    obtain ⟨_, l, hl, hl2, rfl⟩ := tgR_lt hy
    obtain ⟨e, he, rfl⟩ := List.mem_map.mp hl2
    refine List.mem_map.mpr ⟨e, he, ?_⟩
    unfold tgI
    rw [if_pos hl]) (fun z hz => by
    obtain ⟨e, he, rfl⟩ := List.mem_map.mp hz
    unfold tgI
    by_cases q : e.lb ∈ fnL f
    · rw [if_pos q]
      refine .inr ⟨_, rfl, ?_⟩
      rw [gN_at hb]
      unfold tgR
      exact List.mem_map.mpr ⟨e.lb, List.mem_filter.mpr ⟨List.mem_map.mpr ⟨e, he, rfl⟩, by simp [q]⟩, rfl⟩
    · rw [if_neg q]; exact .inl rfl)
  refine seq_op fun N2 hN2 => ?_
  simp
  refine ⟨by rw [show (niD V).length = V.length by simp [niD]]; exact fz4 (by omega), hN2 _ ?_⟩
  clear hN2 N2
  have e3 : niD V ++ [PyData.int (u : Int)] = niD (V ++ [u]) := by simp [niD]
  rw [e3]
  obtain ⟨J, hJ2⟩ : ∃ J : Nat → Dl → Prop, ∀ j δ, J j δ ↔ ∃ y6 : Option R, δ = [some (.d FD), some (.d (.int c)), some (.own o (niD (V ++ [u]))), some (.own o2 ((Q' ++ (b.en.es.take j).map fun e => tgI (fnL f) e.lb).map .int)), some (.d (.int (k : Int))), some (.d (.int (u : Int))), y6] := ⟨_, fun _ _ => Iff.rfl⟩
  refine dFor_w (xs := b.en.es.map Edg.D) (fun Ψ hΨ => ?_) J ((hJ2 _ _).mpr ⟨y6, by simp⟩) (fun j y δ hy hJ3 => ?_) (fun δ hJ3 => ?_)
  · simp [hFa, hba]
    exact ⟨b.en, rfl, by omega, _, rfl, hΨ⟩
  · obtain ⟨y6, rfl⟩ := (hJ2 _ _).mp hJ3
    rw [List.getElem?_map] at hy
    obtain ⟨e, he, rfl⟩ := Option.map_eq_some_iff.mp hy
    have hjl : j < b.en.es.length := (List.getElem?_eq_some_iff.mp he).1
    simp [Edg.D]
    refine ⟨f, e.lb, by rw [hFD], hf.b1, ?_⟩
    simp
    have fin : ∀ y6 : Option R, J (j + 1) [some (.d FD), some (.d (.int c)), some (.own o (niD (V ++ [u]))), some (.own o2 (List.map PyData.int Q' ++ (List.take j (List.map (PyData.int ∘ fun e => tgI (fnL f) e.lb) b.en.es) ++ [PyData.int (tgI (fnL f) e.lb)]))), some (.d (.int (k : Int))), some (.d (.int (u : Int))), y6] := fun y6 => (hJ2 _ _).mpr ⟨y6, by
      rw [List.take_add_one, he, List.map_append, List.map_append, List.map_append, List.map_map, ← List.map_take]
      rfl⟩
    exact ⟨fz4 (by omega), fin _⟩
  · obtain ⟨y6, rfl⟩ := (hJ2 _ _).mp hJ3
    rw [List.length_map, List.take_length]
    refine (hI _ _).mpr ⟨V ++ [u], _, _, _, _, hadd, ?_, rfl⟩
    rw [List.length_append, List.length_append, List.length_map, List.length_singleton]
    omega


/-! ### the law -/
theorem okd_intsN {α : Type} {g : α → Int} {xs : List α} (h : xs.length ≤ 1000000) : Okd 1 (.list (xs.map fun x => .int (g x))) := .list (fun y hy => by obtain ⟨i, _, rfl⟩ := List.mem_map.mp hy; exact .int _) (by rw [List.length_map]; exact h)
theorem getE_map {k : Nat → Int} {v : Nat → PyData} {x : Nat} : ∀ {l : List Nat}, (∀ a ∈ l, k a = k x → a = x) → x ∈ l → getE (l.map fun x => ((.inl (k x) : Key), v x)) (.inl (k x)) = some (v x)
  | [], _, h => nomatch h
  | a :: l, inj, h => by
    rw [List.map_cons, getE_cons]
    by_cases e : k a = k x
    · rw [inj a List.mem_cons_self e, if_pos rfl]
    · rw [if_neg (fun z => e (by injection z))]
      rcases List.mem_cons.mp h with z | z
      · exact absurd (by rw [z]) e
      · exact getE_map (fun b hb => inj b (List.mem_cons_of_mem _ hb)) z
theorem ok_law (T : Txt K mg) : FnOk P w K mg base CX0 13 T.f_law T.fd_law ["script"] (spLaw K) := by
  refine T.F_law.ok sc_law (fun vs H Q E h => ?_) (fun cdv A outer s H vs Q E hr h => ?_)
  · obtain ⟨a, ns, rfl, _⟩ := h
    rfl
  obtain ⟨a, ns, rfl, hS, hlen, k⟩ := h
  refine ⟨_, (pss_cons (ps_set (i := 1) sc_law.nd rfl (Or.inl rfl) (pe_call (G__law_stream T) (hr.mono (by decide)) (by rfl) T.g__law_stream T.F__law_stream.kp T.b__law_stream .nil pass0 (pa_cons (pv 0) (pa_cons pe_int pa_nil))))
 (pss_cons (ps_set (i := 2) sc_law.nd rfl (Or.inl rfl) (pe_call (G__law_free_function T) (hr.mono (by decide)) (by rfl) T.g__law_free_function T.F__law_free_function.kp T.b__law_free_function .nil pass0 (pa_cons (pv 1) (pa_cons pe_int (pa_cons pe_str pa_nil)))))
 (pss_cons (ps_set (i := 3) sc_law.nd rfl (Or.inl rfl) (pe_call (G__law_visited T) (hr.mono (by decide)) (by rfl) T.g__law_visited T.F__law_visited.kp T.b__law_visited .nil pass0 (pa_cons (pv 2) (pa_cons (pe_un un_neg pe_int) pa_nil))))
 (pss_cons (ps_set (i := 4) sc_law.nd rfl (Or.inl rfl) (pe_lst pa_nil))
 (pss_cons (ps_for PassesOwn.never rfl (pi_range1 rfl T.range (pa_cons (pe_callB (kx_len (K := K) rfl) (by rfl) T.len PySem.boot_len (pa_cons (pe_ix (kx_seq (K := K) rfl) (pv 2) pe_int (fun _ _ => rfl)) pa_nil)) pa_nil)) (pg_name (i := 5) sc_law.nd rfl (Or.inl rfl)) (pss_one (ps_if (pt_cmpR (kx_in (K := K) rfl) (pv 5) (pv 3) (by rfl)) (pss_one (ps_expr (pe_bm PySem.F.plainAttrs_list PySem.F.slot_list_append PySem.F.type_list_append mt_append (pv 4) (pa_cons (pe_ix (kx_seq (K := K) rfl) (pe_ix (kx_seq (K := K) rfl) (pe_ix (kx_seq (K := K) rfl) (pv 2) pe_int (fun _ _ => rfl)) (pv 5) (fun _ _ => rfl)) pe_int (fun _ _ => rfl)) pa_nil)))) pss_nil)))
 (pss_cons (ps_if (pt_not (pt_val (pe_call (G__law_same T) hr (by rfl) T.g__law_same T.F__law_same.kp T.b__law_same .nil pass0 (pa_cons (pe_call (G_reached T) (hr.mono (by decide)) (by rfl) T.g_reached T.F_reached.kp T.b_reached .nil pass0 (pa_cons (pv 2) pa_nil)) (pa_cons (pv 4) pa_nil))))) (pss_one (ps_ret pe_bl)) pss_nil)
 (pss_cons (ps_set (i := 6) sc_law.nd rfl (Or.inl rfl) (pe_call (G_dominating T) (hr.mono (by decide)) (by rfl) T.g_dominating T.F_dominating.kp T.b_dominating .nil pass0 (pa_cons (pv 2) pa_nil)))
 (pss_cons (ps_if (PW.pt (pw_or (pt_not (pt_val (pe_callB (kx_isi (K := K) rfl) (by rfl) T.isinstance (by decide +kernel) (pa_cons (pv 6) (pa_cons (pe_bltn (v := .ty "dict") (by rfl) T.dict (by decide +kernel) rfl) pa_nil))))) (pw_or1 (pt_cmpR op_ne (pe_callB call_lenDR (by rfl) T.len PySem.boot_len (pa_cons (pv 6) pa_nil)) (pe_callB (kx_len (K := K) rfl) (by rfl) T.len PySem.boot_len (pa_cons (pv 4) pa_nil)) (nomark _))))) (pss_one (ps_ret pe_bl)) pss_nil)
 (pss_cons (ps_for PassesOwn.never rfl ((kpi_list (K := K) rfl (pe_callB (kx_sortedI (K := K) rfl) (by rfl) T.sorted (by decide +kernel) (pa_cons (pv 3) pa_nil)))) (pg_name (i := 5) sc_law.nd rfl (Or.inl rfl)) (pss_cons (ps_set (i := 7) sc_law.nd rfl (Or.inl rfl) (pe_lst pa_nil))
 (pss_cons (ps_for PassesOwn.never rfl ((kpi_list (K := K) rfl (pe_callB (kx_sortedI (K := K) rfl) (by rfl) T.sorted (by decide +kernel) (pa_cons (pv 3) pa_nil)))) (pg_name (i := 8) sc_law.nd rfl (Or.inl rfl)) (pss_one (ps_if (pt_cmpR (kx_notIn (K := K) rfl) (pv 5) (pe_call (G__law_visited T) (hr.mono (by decide)) (by rfl) T.g__law_visited T.F__law_visited.kp T.b__law_visited .nil pass0 (pa_cons (pv 2) (pa_cons (pv 8) pa_nil))) (by rfl)) (pss_one (ps_expr (pe_bm PySem.F.plainAttrs_list PySem.F.slot_list_append PySem.F.type_list_append mt_append (pv 7) (pa_cons (pe_ix (kx_seq (K := K) rfl) (pe_ix (kx_seq (K := K) rfl) (pe_ix (kx_seq (K := K) rfl) (pv 2) pe_int (fun _ _ => rfl)) (pv 8) (fun _ _ => rfl)) pe_int (fun _ _ => rfl)) pa_nil)))) pss_nil)))
 (pss_cons (ps_set (i := 9) sc_law.nd rfl (Or.inl rfl) (pe_ix (kx_seq (K := K) rfl) (pe_ix (kx_seq (K := K) rfl) (pe_ix (kx_seq (K := K) rfl) (pv 2) pe_int (fun _ _ => rfl)) (pv 5) (fun _ _ => rfl)) pe_int (fun _ _ => rfl)))
 (pss_one (ps_if (PW.pt (pw_or (pt_cmp (pc_dnotin (hu_of hr) (pv 9) (pv 6))) (pw_or1 (pt_not (pt_val (pe_call (G__law_same T) hr (by rfl) T.g__law_same T.F__law_same.kp T.b__law_same .nil pass0 (pa_cons (pe_dget (hu_of hr) (pv 6) (pv 9) (fun _ _ => rfl)) (pa_cons (pv 7) pa_nil)))))))) (pss_one (ps_ret pe_bl)) pss_nil))))))
 (pss_one (ps_ret (pe_call (G__law_same T) hr (by rfl) T.g__law_same T.F__law_same.kp T.b__law_same .nil pass0 (pa_cons (pe_call (G_reached T) (hr.mono (by decide)) (by rfl) T.g_reached T.F_reached.kp T.b_reached .nil pass0 (pa_cons (pv 2) pa_nil)) (pa_cons (pv 4) pa_nil)))))))))))))), ?_⟩
  refine law_plain (n := 9) hS k (fun ex He Hf => (sms_seq (sms_asg (SmO.sm (smo_call len__law_stream (smq_scr 0 (smq_cons (sm_int _) smq_nil)))) (smg_name 1))
 (sms_seq (sms_asg (sm_call len__law_free_function (smq_cons (sm_var 1) (smq_cons (sm_int _) (smq_cons (sm_str _) smq_nil)))) (smg_name 2))
 (sms_seq (sms_asg (SmO.sm (smo_call len__law_visited (smq_cons (sm_var 2) (smq_cons (sm_un (f1 := false) (g' := fun i => .int (-i)) (fun _ => rfl) (sm_int _)) smq_nil)))) (smg_name 3))
 (sms_seq (sms_setO 4 (smo_lst sma_nil))
 (sms_seq (sms_for (smi_rng1 (f1 := false) (sm_cb (f1 := false) cbd_len (sma_cons (sm_ix (f2 := false) (sm_var 2) (sm_int _)) sma_nil))) (smg_name 5)
 (sms_if (smt_t (f1 := false) (sm_op (f1 := false) (f2 := false) (opd_in false) (sm_var 5) (sm_var 3)))
 (sms_app 4 (sm_ix (f2 := false) (sm_ix (f2 := false) (sm_ix (f2 := false) (sm_var 2) (sm_int _)) (sm_var 5)) (sm_int _)))
 sms_next))
 (sms_seq (sms_frz 4 (sms_if (smt_not (smt_b (f1 := false) (sm_call len__law_same (smq_cons (SmO.sm (smo_call len_reached (smq_cons (sm_var 2) smq_nil))) (smq_cons (sm_var 4) smq_nil)))))
 (sms_ret (sm_bl _))
 sms_next))
 (sms_seq (sms_asg (sm_call len_dominating (smq_cons (sm_var 2) smq_nil)) (smg_name 6))
 (sms_seq (sms_if (smt_or (smt_not (smt_b (f1 := false) (sm_isi (f1 := false) "dict" (sm_var 6)))) (smt_t (f1 := false) (sm_op (f1 := false) (f2 := false) opd_ne (sm_cb (f1 := false) cbd_lenF (sma_cons (sm_var 6) sma_nil)) (sm_cb (f1 := false) cbd_len (sma_cons (sm_var 4) sma_nil)))))
 (sms_ret (sm_bl _))
 sms_next)
 (sms_seq (sms_for (smi_list (SmO.sm (smo_sorted (sm_var 3)))) (smg_name 5)
 (sms_seq (sms_setO 7 (smo_lst sma_nil))
 (sms_seq (sms_for (smi_list (SmO.sm (smo_sorted (sm_var 3)))) (smg_name 8)
 (sms_if (smt_t (f1 := false) (sm_op (f1 := false) (f2 := false) (opd_in true) (sm_var 5) (SmO.sm (smo_call len__law_visited (smq_cons (sm_var 2) (smq_cons (sm_var 8) smq_nil))))))
 (sms_app 7 (sm_ix (f2 := false) (sm_ix (f2 := false) (sm_ix (f2 := false) (sm_var 2) (sm_int _)) (sm_var 8)) (sm_int _)))
 sms_next))
 (sms_seq (sms_asg (sm_ix (f2 := false) (sm_ix (f2 := false) (sm_ix (f2 := false) (sm_var 2) (sm_int _)) (sm_var 5)) (sm_int _)) (smg_name 9))
 (sms_frz 7 (sms_if (smt_or (smt_b (f1 := false) (sm_ninF (f1 := false) (f2 := false) (sm_var 9) (sm_var 6))) (smt_not (smt_b (f1 := false) (sm_call len__law_same (smq_cons (sm_getF (f2 := false) (sm_var 6) (sm_var 9)) (smq_cons (sm_var 7) smq_nil))))))
 (sms_ret (sm_bl _))
 sms_next))))))
 (sms_ret (sm_call len__law_same (smq_cons (SmO.sm (smo_call len_reached (smq_cons (sm_var 2) smq_nil))) (smq_cons (sm_var 4) smq_nil)))))))))))))) ?_
  refine seq_op fun N hN => ?_
  simp
  refine ⟨ns, 580, rfl, hlen, by decide, fun row h1 h2 h3 => ⟨_, rfl, hN _ ?_⟩⟩
  clear hN N
  refine seq_op fun N hN => ?_
  simp
  refine ⟨row, 0, _, rfl, h3, by omega, by omega, fun f hf1 hf => ?_⟩
  refine hN _ ?_
  clear hN N
  simp only [data_d]
  have hb1 := hf.b1
  have hes : ∀ b ∈ f.bs, b.en.es.length ≤ 5 := fun b hb => by
    obtain ⟨_, _, _, _, _, _, hbs⟩ := hf.bs
    have := (hbs b hb).en
    cases e : b.en with
    | sw o cs d =>
      rw [e] at this
      have := this.2.2.1
      simp [End.es]
      omega
    | _ => simp [End.es]
  have hE : FnE f := ⟨hf.b0, by omega, fun b hb => Nat.le_trans (hes b hb) (by decide)⟩
  have hkl : (knF f).length ≤ f.bs.length := Nat.le_trans (List.length_filter_le _ _) (by simp)
  obtain ⟨RW, hRW⟩ : ∃ x : PyData, x = .list (row.map .int) := ⟨_, rfl⟩
  obtain ⟨FD, hFD⟩ : ∃ x : PyData, x = f.D := ⟨_, rfl⟩
  rw [← hRW, ← hFD]
  have hFa : FD = .tuple [.str f.nm, .str f.kd, .bool f.il, .tuple (f.bs.map Blk.D)] := hFD
  have hba : ∀ {x : Nat}, x < f.bs.length → ∃ p1 p2 p3, atI (f.bs.map Blk.D) (x : Int) = some (.tuple [.int (lbF f x), p1, p2, p3]) := fun {x} hx => by
    obtain ⟨b, hb⟩ : ∃ b, f.bs[x]? = some b := ⟨_, List.getElem?_eq_getElem hx⟩
    have hlb : lbF f x = b.lb := by
      have h1 := lbF_at hx
      unfold fnL at h1
      rw [List.getElem?_map, hb] at h1
      exact (Option.some.inj h1).symm
    exact ⟨_, _, _, atI_nat (by rw [List.getElem?_map, hb, hlb]; rfl)⟩
  have hsimp : ∀ (V : List Nat) (x : PyData), x ∈ niD V → (match x with
      | PyData.none => true
      | PyData.bool b => true
      | PyData.int i => true
      | PyData.str s => true
      | x => false) = true := fun V x hx => by
    unfold niD at hx
    obtain ⟨t, _, rfl⟩ := List.mem_map.mp hx
    rfl
  -- found
  refine seq_op fun N hN => ?_
  simp
  refine ⟨f, -2, by rw [hFD], hE, hb1, hes, by omega, fun V hVn hV => ?_⟩
  refine ⟨_, rfl, hN _ ?_⟩
  clear hN N
  have hVp : V.Perm (knF f) := perm_memN hVn (knF_nd f) fun x => by rw [hV, rw_all, knF_mem hE]
  obtain ⟨VD, hVD⟩ : ∃ x : PyData, x = .list (niD V) := ⟨_, rfl⟩
  rw [← hVD]
  refine seq_op fun N hN => ?_
  simp
  intro o
  refine hN _ ?_
  clear hN N
  -- labels
  refine seq_by (fun δ => ∃ y5 : Option R, δ = [some (.scr ns), some (.d RW), some (.d FD), some (.d VD), some (.own o ((knF f).map fun x => .int (lbF f x))), y5, none, none, none, none]) (fun δ hI => ?_) (fun N hN => ?_)
  rotate_left
  · obtain ⟨cz, hcz⟩ : ∃ cz : Nat → List PyData, ∀ j, cz j = ((List.range j).filter (rchT f)).map fun x => .int (lbF f x) := ⟨_, fun _ => rfl⟩
    obtain ⟨I, hI⟩ : ∃ I : Nat → Dl → Prop, ∀ k δ, I k δ ↔ ∃ y5 : Option R, δ = [some (.scr ns), some (.d RW), some (.d FD), some (.d VD), some (.own o (cz k)), y5, none, none, none, none] := ⟨_, fun _ _ => Iff.rfl⟩
    refine dFor_n (n := f.bs.length) (by omega) (fun Ψ hΨ => by simpa [hFa] using hΨ) I ((hI _ _).mpr ⟨none, by rw [hcz]; rfl⟩) (fun k δ hk hJ => ?_) (fun δ hJ => ?_)
    · obtain ⟨y5, rfl⟩ := (hI _ _).mp hJ
      obtain ⟨p1, p2, p3, ha⟩ := hba hk
      have hnx : cz (k + 1) = if rchT f k = true then cz k ++ [.int (lbF f k)] else cz k := by
        rw [hcz, hcz, List.range_succ, List.filter_append, List.map_append]
        by_cases q : rchT f k = true
        · rw [if_pos q]; simp [q]
        · rw [if_neg q]; simp [q]
      have hcl : (cz k).length ≤ k := by
        rw [hcz, List.length_map]
        exact Nat.le_trans (List.length_filter_le _ _) (by simp)
      refine dIfS_two (fun b => b = rchT f k) (fun Ψ hΨ => ?_) (fun hb => ?_) (fun hb => ?_)
      · have hin : inD (.int (k : Int)) (niD V) = rchT f k := by
          rw [inD_niD, Bool.eq_iff_iff, decide_eq_true_iff, rchT_iff, hV, rw_all]
        simp [hVD]
        rw [hin]
        exact ⟨hsimp V, hΨ _ rfl⟩
      · rw [if_pos hb.symm] at hnx
        simp [hFa, ha]
        exact ⟨fz4 (by omega), (hI _ _).mpr ⟨some (.d (.int (k : Int))), by rw [hnx, hFa]⟩⟩
      · rw [if_neg (by rw [← hb]; exact Bool.false_ne_true)] at hnx
        simp
        exact (hI _ _).mpr ⟨some (.d (.int (k : Int))), by rw [hnx]⟩
    · obtain ⟨y5, rfl⟩ := (hI _ _).mp hJ
      refine hN _ ⟨y5, ?_⟩
      rw [hcz]
      rfl
  obtain ⟨y5, rfl⟩ := hI
  have okl : Okd 1 (.list ((knF f).map fun x => .int (lbF f x))) := okd_intsN (by omega)
  obtain ⟨KD, hKD⟩ : ∃ x : PyData, x = .list ((knF f).map fun x => .int (lbF f x)) := ⟨_, rfl⟩
  have once : ∀ Ψ : RX → Prop, Ψ (.own ((knF f).map fun x => .int (lbF f x))) → vp_reached [.d FD] Ψ := fun Ψ hΨ => ⟨f, by rw [hFD], hE, fun T hT => by
    have : (List.range f.bs.length).filter T = knF f := by
      unfold knF
      exact List.filter_congr fun x _ => by rw [Bool.eq_iff_iff, hT, rchT_iff]
    rw [this]
    exact hΨ⟩
  refine seq_op fun N hN => ?_
  simp
  refine once _ ?_
  refine ⟨_, rfl, ?_⟩
  refine ⟨_, rfl, ⟨1, by decide, okl⟩, ?_⟩
  simp
  refine hN _ ?_
  clear hN N
  rw [← hKD]
  -- the table
  refine seq_op fun N hN => ?_
  simp
  refine ⟨f, by rw [hFD], hE, hN _ ?_⟩
  clear hN N
  simp only [data_d]
  obtain ⟨TE, hTE⟩ : ∃ e : List (Key × PyData), e = (knF f).map fun x => ((.inl (lbF f x) : Key), PyData.list ((dmF f x).map fun y => .int (lbF f y))) := ⟨_, rfl⟩
  rw [← hTE]
  obtain ⟨TD, hTD⟩ : ∃ x : PyData, x = .dict (entD TE) := ⟨_, rfl⟩
  rw [← hTD]
  refine seq_op fun N hN => ?_
  refine dIfS_two (fun b => b = false) (fun Ψ hΨ => ?_) (fun hb => nomatch hb) (fun _ => ?_)
  · simp [hTD, tyD, kitB, hKD]
    refine ⟨TE, rfl, .inl ⟨by rw [hTE, List.length_map], hΨ _ rfl⟩⟩
  simp
  refine hN _ ?_
  clear hN N
  have hsrt : ∀ Ψ : List PyData → Prop, Ψ (niD (knF f)) → ∃ ns, VD = PyData.list (ns.map PyData.int) ∧ ∀ ms : List Int, ms.Perm ns → ms.Pairwise (· ≤ ·) → Ψ (ms.map PyData.int) := fun Ψ hΨ => ⟨V.map fun t : Nat => (t : Int), by rw [hVD, niD_cast], fun ms h1 h2 => by
    rw [sorted_eqI (h1.trans (hVp.map _)) h2 (knF_srt f), ← niD_cast]
    exact hΨ⟩
  have hnl : (niD (knF f)).length = (knF f).length := by simp [niD]
  refine seq_op fun N hN => ?_
  obtain ⟨I, hI⟩ : ∃ I : Nat → Dl → Prop, ∀ k δ, I k δ ↔ ∃ y5 y7 y8 y9 : Option R, δ = [some (.scr ns), some (.d RW), some (.d FD), some (.d VD), some (.d KD), y5, some (.d TD), y7, y8, y9] := ⟨_, fun _ _ => Iff.rfl⟩
  refine dFor_w (xs := niD (knF f)) (fun Ψ hΨ => ?_) I ((hI _ _).mpr ⟨_, _, _, _, rfl⟩) (fun k y δ hy hJ => ?_) (fun δ hJ => ?_)
  · simp
    exact hsrt Ψ hΨ
  rotate_left
  · obtain ⟨y5, y7, y8, y9, rfl⟩ := (hI _ _).mp hJ
    refine hN _ ?_
    simp
    refine once _ ⟨_, rfl, ?_⟩
    rw [hKD]
    exact ⟨_, rfl, ⟨1, by decide, okl⟩, rfl⟩
  obtain ⟨y5, y7, y8, y9, rfl⟩ := (hI _ _).mp hJ
  unfold niD at hy
  rw [List.getElem?_map] at hy
  obtain ⟨x, hx, rfl⟩ := Option.map_eq_some_iff.mp hy
  have hxm := List.mem_of_getElem? hx
  have hxr := (knF_mem hE).mp hxm
  have hxf := first_of hE hxr
  refine seq_op fun N2 hN2 => ?_
  simp
  intro o2
  refine hN2 _ ?_
  clear hN2 N2
  refine seq_by (fun δ => ∃ y8 : Option R, δ = [some (.scr ns), some (.d RW), some (.d FD), some (.d VD), some (.d KD), some (.d (.int (x : Int))), some (.d TD), some (.own o2 ((dmF f x).map fun y => .int (lbF f y))), y8, y9]) (fun δ hK => ?_) (fun N2 hN2 => ?_)
  rotate_left
  · obtain ⟨cw, hcw⟩ : ∃ cw : Nat → List PyData, ∀ j, cw j = (((knF f).take j).filter fun y => dmT (gN (gF f)) 0 y x).map fun y => .int (lbF f y) := ⟨_, fun _ => rfl⟩
    obtain ⟨J, hJ2⟩ : ∃ J : Nat → Dl → Prop, ∀ j δ, J j δ ↔ ∃ y8 : Option R, δ = [some (.scr ns), some (.d RW), some (.d FD), some (.d VD), some (.d KD), some (.d (.int (x : Int))), some (.d TD), some (.own o2 (cw j)), y8, y9] := ⟨_, fun _ _ => Iff.rfl⟩
    refine dFor_w (xs := niD (knF f)) (fun Ψ hΨ => ?_) J ((hJ2 _ _).mpr ⟨y8, by rw [hcw]; rfl⟩) (fun j y δ hy hJ3 => ?_) (fun δ hJ3 => ?_)
    · simp
      exact hsrt Ψ hΨ
    · obtain ⟨y8, rfl⟩ := (hJ2 _ _).mp hJ3
      unfold niD at hy
      rw [List.getElem?_map] at hy
      obtain ⟨u, hu, rfl⟩ := Option.map_eq_some_iff.mp hy
      have hjl : j < (knF f).length := (List.getElem?_eq_some_iff.mp hu).1
      have hur := (knF_mem hE).mp (List.mem_of_getElem? hu)
      obtain ⟨p1, p2, p3, ha⟩ := hba (first_of hE hur).1
      have hnx : cw (j + 1) = if dmT (gN (gF f)) 0 u x = true then cw j ++ [.int (lbF f u)] else cw j := by
        rw [hcw, hcw, List.take_add_one, hu, List.filter_append, List.map_append]
        by_cases q : dmT (gN (gF f)) 0 u x = true
        · rw [if_pos q]; simp [q]
        · rw [if_neg q]; simp [q]
      have hcl : (cw j).length ≤ j := by
        rw [hcw, List.length_map]
        exact Nat.le_trans (List.length_filter_le _ _) (by rw [List.length_take]; omega)
      refine dIfS_two (fun b => b = dmT (gN (gF f)) 0 u x) (fun Ψ hΨ => ?_) (fun hb => ?_) (fun hb => ?_)
      · simp
        refine ⟨f, (u : Int), by rw [hFD], hE, hb1, hes, by omega, fun V2 hVn2 hV2 => ?_⟩
        have hin : (!inD (.int (x : Int)) (niD V2)) = dmT (gN (gF f)) 0 u x := by
          rw [inD_niD, Bool.eq_iff_iff, dmT_iff, ← rw_rn, ← hV2]
          simp
        refine ⟨_, rfl, hsimp V2, ?_⟩
        cases e : inD (.int (x : Int)) (niD V2) with
        | true => rw [e] at hin; exact .inl ⟨rfl, hΨ _ hin⟩
        | false => rw [e] at hin; exact .inr ⟨rfl, hΨ _ hin⟩
      · rw [if_pos hb.symm] at hnx
        simp [hFa, ha]
        exact ⟨fz4 (by omega), (hJ2 _ _).mpr ⟨some (.d (.int (u : Int))), by rw [hnx, hFa]⟩⟩
      · rw [if_neg (by rw [← hb]; exact Bool.false_ne_true)] at hnx
        simp
        exact (hJ2 _ _).mpr ⟨some (.d (.int (u : Int))), by rw [hnx]⟩
    · obtain ⟨y8, rfl⟩ := (hJ2 _ _).mp hJ3
      rw [hnl, hcw, List.take_length]
      exact hN2 _ ⟨y8, rfl⟩
  obtain ⟨y8, rfl⟩ := hK
  obtain ⟨p1, p2, p3, ha⟩ := hba hxf.1
  have hdl := dmF_len f x
  have hge : getE TE (.inl (lbF f x)) = some (.list ((dmF f x).map fun y => .int (lbF f y))) := by
    rw [hTE]
    exact getE_map (fun a ha e => by
      have h1 := (first_of hE ((knF_mem hE).mp ha)).2
      rw [e, hxf.2] at h1
      exact h1.symm) hxm
  refine seq_op fun N2 hN2 => ?_
  simp [hFa, ha]
  refine hN2 _ ?_
  clear hN2 N2
  rw [← hFa]
  simp
  refine ⟨TE, hTD, .inl (lbF f x), rfl, by rw [hge]; rfl, TE, hTD, .inl (lbF f x), rfl, _, hge, _, rfl, ⟨1, by decide, okd_intsN (by omega)⟩, rfl, (hI _ _).mpr ⟨_, _, _, _, rfl⟩⟩


end
theorem all_mk {l : PySem.W.OpenLaw} {w : World} {K : PySem.W.Frag} {h : Heap} {mg : Str → Option Value} {fa : Addr} (X : K.In h) (G : h.Ns mainGlobals mg) (hfa : mg "law" = some (.ref fa))
    {f0 : Addr} {od0 an0 : Option Addr} {sl0 : Array (Option Value)} {oc0 kV0 dc0 pm0 cd0 ct0 : Value}
    {f1 : Addr} {od1 an1 : Option Addr} {sl1 : Array (Option Value)} {oc1 kV1 dc1 pm1 cd1 ct1 : Value}
    {f2 : Addr} {od2 an2 : Option Addr} {sl2 : Array (Option Value)} {oc2 kV2 dc2 pm2 cd2 ct2 : Value}
    {f3 : Addr} {od3 an3 : Option Addr} {sl3 : Array (Option Value)} {oc3 kV3 dc3 pm3 cd3 ct3 : Value}
    {f4 : Addr} {od4 an4 : Option Addr} {sl4 : Array (Option Value)} {oc4 kV4 dc4 pm4 cd4 ct4 : Value}
    {f5 : Addr} {od5 an5 : Option Addr} {sl5 : Array (Option Value)} {oc5 kV5 dc5 pm5 cd5 ct5 : Value}
    {f6 : Addr} {od6 an6 : Option Addr} {sl6 : Array (Option Value)} {oc6 kV6 dc6 pm6 cd6 ct6 : Value}
    {f7 : Addr} {od7 an7 : Option Addr} {sl7 : Array (Option Value)} {oc7 kV7 dc7 pm7 cd7 ct7 : Value}
    {f8 : Addr} {od8 an8 : Option Addr} {sl8 : Array (Option Value)} {oc8 kV8 dc8 pm8 cd8 ct8 : Value}
    {f9 : Addr} {od9 an9 : Option Addr} {sl9 : Array (Option Value)} {oc9 kV9 dc9 pm9 cd9 ct9 : Value}
    {f10 : Addr} {od10 an10 : Option Addr} {sl10 : Array (Option Value)} {oc10 kV10 dc10 pm10 cd10 ct10 : Value}
    {f11 : Addr} {od11 an11 : Option Addr} {sl11 : Array (Option Value)} {oc11 kV11 dc11 pm11 cd11 ct11 : Value}
    {f12 : Addr} {od12 an12 : Option Addr} {sl12 : Array (Option Value)} {oc12 kV12 dc12 pm12 cd12 ct12 : Value}
    {f13 : Addr} {od13 an13 : Option Addr} {sl13 : Array (Option Value)} {oc13 kV13 dc13 pm13 cd13 ct13 : Value}
    {f14 : Addr} {od14 an14 : Option Addr} {sl14 : Array (Option Value)} {oc14 kV14 dc14 pm14 cd14 ct14 : Value}
    {f15 : Addr} {od15 an15 : Option Addr} {sl15 : Array (Option Value)} {oc15 kV15 dc15 pm15 cd15 ct15 : Value}
    {f16 : Addr} {od16 an16 : Option Addr} {sl16 : Array (Option Value)} {oc16 kV16 dc16 pm16 cd16 ct16 : Value}
    {f17 : Addr} {od17 an17 : Option Addr} {sl17 : Array (Option Value)} {oc17 kV17 dc17 pm17 cd17 ct17 : Value}
    {f18 : Addr} {od18 an18 : Option Addr} {sl18 : Array (Option Value)} {oc18 kV18 dc18 pm18 cd18 ct18 : Value}
    {f19 : Addr} {od19 an19 : Option Addr} {sl19 : Array (Option Value)} {oc19 kV19 dc19 pm19 cd19 ct19 : Value}
    {f20 : Addr} {od20 an20 : Option Addr} {sl20 : Array (Option Value)} {oc20 kV20 dc20 pm20 cd20 ct20 : Value}
    {f21 : Addr} {od21 an21 : Option Addr} {sl21 : Array (Option Value)} {oc21 kV21 dc21 pm21 cd21 ct21 : Value}
    {f22 : Addr} {od22 an22 : Option Addr} {sl22 : Array (Option Value)} {oc22 kV22 dc22 pm22 cd22 ct22 : Value}
    {f23 : Addr} {od23 an23 : Option Addr} {sl23 : Array (Option Value)} {oc23 kV23 dc23 pm23 cd23 ct23 : Value}
    {f24 : Addr} {od24 an24 : Option Addr} {sl24 : Array (Option Value)} {oc24 kV24 dc24 pm24 cd24 ct24 : Value}
    {f25 : Addr} {od25 an25 : Option Addr} {sl25 : Array (Option Value)} {oc25 kV25 dc25 pm25 cd25 ct25 : Value}
    {f26 : Addr} {od26 an26 : Option Addr} {sl26 : Array (Option Value)} {oc26 kV26 dc26 pm26 cd26 ct26 : Value}
    {f27 : Addr} {od27 an27 : Option Addr} {sl27 : Array (Option Value)} {oc27 kV27 dc27 pm27 cd27 ct27 : Value}
    {C_Forest : Addr} (aC_Forest : PySem.W.nsIn K mainGlobals "Forest" = some (some (.ref C_Forest))) (pg_Forest : PySem.W.plainGet K C_Forest Str.empty = true) (hd_Forest : PySem.W.hasDictIn K C_Forest = true) (po_Forest : PySem.W.plainOver K C_Forest = true) (sa_Forest : PySem.W.findIn K (.ref C_Forest) "__setattr__" = some (some (.builtin "object.__setattr__"))) (mk_Forest : PySem.W.makesIn K C_Forest = true) (kc_Forest : PySem.W.keepIn K (.ref C_Forest) = true) (nf_Forest_semi : PySem.W.findIn K (.ref C_Forest) "semi" = some none) (nf_Forest_above : PySem.W.findIn K (.ref C_Forest) "above" = some none) (nf_Forest_best : PySem.W.findIn K (.ref C_Forest) "best" = some none)
    (a0 : PySem.W.nsIn K mainGlobals "walk" = some (some (.ref f0))) (l0 : K.lookup f0 = some ⟨oc0, od0, .func (PySem.W.fnOf "walk" "walk" (defArgs swalk) (defBody swalk) (defScope swalk) .none kV0 dc0 pm0 an0 cd0 ct0), sl0⟩) (c0 : PySem.W.codeIn K cd0 "walk" = true) (k0 : PySem.W.keepIn K (.ref f0) = true)
    (a1 : PySem.W.nsIn K mainGlobals "reached_nodes" = some (some (.ref f1))) (l1 : K.lookup f1 = some ⟨oc1, od1, .func (PySem.W.fnOf "reached_nodes" "reached_nodes" (defArgs sreached_nodes) (defBody sreached_nodes) (defScope sreached_nodes) .none kV1 dc1 pm1 an1 cd1 ct1), sl1⟩) (c1 : PySem.W.codeIn K cd1 "reached_nodes" = true) (k1 : PySem.W.keepIn K (.ref f1) = true)
    (a2 : PySem.W.findIn K (.ref C_Forest) "__init__" = some (some (.ref f2))) (i2 : PySem.W.isFn K (.ref f2) = true) (l2 : K.lookup f2 = some ⟨oc2, od2, .func (PySem.W.fnOf "__init__" "Forest.__init__" (defArgs sForest___init__) (defBody sForest___init__) (defScope sForest___init__) .none kV2 dc2 pm2 an2 cd2 ct2), sl2⟩) (c2 : PySem.W.codeIn K cd2 "Forest.__init__" = true) (k2 : PySem.W.keepIn K (.ref f2) = true)
    (a3 : PySem.W.findIn K (.ref C_Forest) "shorten" = some (some (.ref f3))) (i3 : PySem.W.isFn K (.ref f3) = true) (l3 : K.lookup f3 = some ⟨oc3, od3, .func (PySem.W.fnOf "shorten" "Forest.shorten" (defArgs sForest_shorten) (defBody sForest_shorten) (defScope sForest_shorten) .none kV3 dc3 pm3 an3 cd3 ct3), sl3⟩) (c3 : PySem.W.codeIn K cd3 "Forest.shorten" = true) (k3 : PySem.W.keepIn K (.ref f3) = true)
    (a4 : PySem.W.findIn K (.ref C_Forest) "lowest" = some (some (.ref f4))) (i4 : PySem.W.isFn K (.ref f4) = true) (l4 : K.lookup f4 = some ⟨oc4, od4, .func (PySem.W.fnOf "lowest" "Forest.lowest" (defArgs sForest_lowest) (defBody sForest_lowest) (defScope sForest_lowest) .none kV4 dc4 pm4 an4 cd4 ct4), sl4⟩) (c4 : PySem.W.codeIn K cd4 "Forest.lowest" = true) (k4 : PySem.W.keepIn K (.ref f4) = true)
    (a5 : PySem.W.nsIn K mainGlobals "_dominating_places" = some (some (.ref f5))) (l5 : K.lookup f5 = some ⟨oc5, od5, .func (PySem.W.fnOf "_dominating_places" "_dominating_places" (defArgs s_dominating_places) (defBody s_dominating_places) (defScope s_dominating_places) .none kV5 dc5 pm5 an5 cd5 ct5), sl5⟩) (c5 : PySem.W.codeIn K cd5 "_dominating_places" = true) (k5 : PySem.W.keepIn K (.ref f5) = true)
    (a6 : PySem.W.nsIn K mainGlobals "immediate" = some (some (.ref f6))) (l6 : K.lookup f6 = some ⟨oc6, od6, .func (PySem.W.fnOf "immediate" "immediate" (defArgs simmediate) (defBody simmediate) (defScope simmediate) .none kV6 dc6 pm6 an6 cd6 ct6), sl6⟩) (c6 : PySem.W.codeIn K cd6 "immediate" = true) (k6 : PySem.W.keepIn K (.ref f6) = true)
    (a7 : PySem.W.nsIn K mainGlobals "edges" = some (some (.ref f7))) (l7 : K.lookup f7 = some ⟨oc7, od7, .func (PySem.W.fnOf "edges" "edges" (defArgs sedges) (defBody sedges) (defScope sedges) .none kV7 dc7 pm7 an7 cd7 ct7), sl7⟩) (c7 : PySem.W.codeIn K cd7 "edges" = true) (k7 : PySem.W.keepIn K (.ref f7) = true)
    (a8 : PySem.W.nsIn K mainGlobals "block_numbers" = some (some (.ref f8))) (l8 : K.lookup f8 = some ⟨oc8, od8, .func (PySem.W.fnOf "block_numbers" "block_numbers" (defArgs sblock_numbers) (defBody sblock_numbers) (defScope sblock_numbers) .none kV8 dc8 pm8 an8 cd8 ct8), sl8⟩) (c8 : PySem.W.codeIn K cd8 "block_numbers" = true) (k8 : PySem.W.keepIn K (.ref f8) = true)
    (a9 : PySem.W.nsIn K mainGlobals "block_targets" = some (some (.ref f9))) (l9 : K.lookup f9 = some ⟨oc9, od9, .func (PySem.W.fnOf "block_targets" "block_targets" (defArgs sblock_targets) (defBody sblock_targets) (defScope sblock_targets) .none kV9 dc9 pm9 an9 cd9 ct9), sl9⟩) (c9 : PySem.W.codeIn K cd9 "block_targets" = true) (k9 : PySem.W.keepIn K (.ref f9) = true)
    (a10 : PySem.W.nsIn K mainGlobals "reached" = some (some (.ref f10))) (l10 : K.lookup f10 = some ⟨oc10, od10, .func (PySem.W.fnOf "reached" "reached" (defArgs sreached) (defBody sreached) (defScope sreached) .none kV10 dc10 pm10 an10 cd10 ct10), sl10⟩) (c10 : PySem.W.codeIn K cd10 "reached" = true) (k10 : PySem.W.keepIn K (.ref f10) = true)
    (a11 : PySem.W.nsIn K mainGlobals "dominating" = some (some (.ref f11))) (l11 : K.lookup f11 = some ⟨oc11, od11, .func (PySem.W.fnOf "dominating" "dominating" (defArgs sdominating) (defBody sdominating) (defScope sdominating) .none kV11 dc11 pm11 an11 cd11 ct11), sl11⟩) (c11 : PySem.W.codeIn K cd11 "dominating" = true) (k11 : PySem.W.keepIn K (.ref f11) = true)
    (a12 : PySem.W.nsIn K mainGlobals "_downwards" = some (some (.ref f12))) (l12 : K.lookup f12 = some ⟨oc12, od12, .func (PySem.W.fnOf "_downwards" "_downwards" (defArgs s_downwards) (defBody s_downwards) (defScope s_downwards) .none kV12 dc12 pm12 an12 cd12 ct12), sl12⟩) (c12 : PySem.W.codeIn K cd12 "_downwards" = true) (k12 : PySem.W.keepIn K (.ref f12) = true)
    (a13 : PySem.W.nsIn K mainGlobals "_law_stream" = some (some (.ref f13))) (l13 : K.lookup f13 = some ⟨oc13, od13, .func (PySem.W.fnOf "_law_stream" "_law_stream" (defArgs s_law_stream) (defBody s_law_stream) (defScope s_law_stream) .none kV13 dc13 pm13 an13 cd13 ct13), sl13⟩) (c13 : PySem.W.codeIn K cd13 "_law_stream" = true) (k13 : PySem.W.keepIn K (.ref f13) = true)
    (a14 : PySem.W.nsIn K mainGlobals "_law_same" = some (some (.ref f14))) (l14 : K.lookup f14 = some ⟨oc14, od14, .func (PySem.W.fnOf "_law_same" "_law_same" (defArgs s_law_same) (defBody s_law_same) (defScope s_law_same) .none kV14 dc14 pm14 an14 cd14 ct14), sl14⟩) (c14 : PySem.W.codeIn K cd14 "_law_same" = true) (k14 : PySem.W.keepIn K (.ref f14) = true)
    (a15 : PySem.W.nsIn K mainGlobals "_law_free_operand" = some (some (.ref f15))) (l15 : K.lookup f15 = some ⟨oc15, od15, .func (PySem.W.fnOf "_law_free_operand" "_law_free_operand" (defArgs s_law_free_operand) (defBody s_law_free_operand) (defScope s_law_free_operand) .none kV15 dc15 pm15 an15 cd15 ct15), sl15⟩) (c15 : PySem.W.codeIn K cd15 "_law_free_operand" = true) (k15 : PySem.W.keepIn K (.ref f15) = true)
    (a16 : PySem.W.nsIn K mainGlobals "_law_free_kind" = some (some (.ref f16))) (l16 : K.lookup f16 = some ⟨oc16, od16, .func (PySem.W.fnOf "_law_free_kind" "_law_free_kind" (defArgs s_law_free_kind) (defBody s_law_free_kind) (defScope s_law_free_kind) .none kV16 dc16 pm16 an16 cd16 ct16), sl16⟩) (c16 : PySem.W.codeIn K cd16 "_law_free_kind" = true) (k16 : PySem.W.keepIn K (.ref f16) = true)
    (a17 : PySem.W.nsIn K mainGlobals "_law_free_count" = some (some (.ref f17))) (l17 : K.lookup f17 = some ⟨oc17, od17, .func (PySem.W.fnOf "_law_free_count" "_law_free_count" (defArgs s_law_free_count) (defBody s_law_free_count) (defScope s_law_free_count) .none kV17 dc17 pm17 an17 cd17 ct17), sl17⟩) (c17 : PySem.W.codeIn K cd17 "_law_free_count" = true) (k17 : PySem.W.keepIn K (.ref f17) = true)
    (a18 : PySem.W.nsIn K mainGlobals "_law_free_data" = some (some (.ref f18))) (l18 : K.lookup f18 = some ⟨oc18, od18, .func (PySem.W.fnOf "_law_free_data" "_law_free_data" (defArgs s_law_free_data) (defBody s_law_free_data) (defScope s_law_free_data) .none kV18 dc18 pm18 an18 cd18 ct18), sl18⟩) (c18 : PySem.W.codeIn K cd18 "_law_free_data" = true) (k18 : PySem.W.keepIn K (.ref f18) = true)
    (a19 : PySem.W.nsIn K mainGlobals "_law_free_instruction" = some (some (.ref f19))) (l19 : K.lookup f19 = some ⟨oc19, od19, .func (PySem.W.fnOf "_law_free_instruction" "_law_free_instruction" (defArgs s_law_free_instruction) (defBody s_law_free_instruction) (defScope s_law_free_instruction) .none kV19 dc19 pm19 an19 cd19 ct19), sl19⟩) (c19 : PySem.W.codeIn K cd19 "_law_free_instruction" = true) (k19 : PySem.W.keepIn K (.ref f19) = true)
    (a20 : PySem.W.nsIn K mainGlobals "_law_free_edge" = some (some (.ref f20))) (l20 : K.lookup f20 = some ⟨oc20, od20, .func (PySem.W.fnOf "_law_free_edge" "_law_free_edge" (defArgs s_law_free_edge) (defBody s_law_free_edge) (defScope s_law_free_edge) .none kV20 dc20 pm20 an20 cd20 ct20), sl20⟩) (c20 : PySem.W.codeIn K cd20 "_law_free_edge" = true) (k20 : PySem.W.keepIn K (.ref f20) = true)
    (a21 : PySem.W.nsIn K mainGlobals "_law_free_end" = some (some (.ref f21))) (l21 : K.lookup f21 = some ⟨oc21, od21, .func (PySem.W.fnOf "_law_free_end" "_law_free_end" (defArgs s_law_free_end) (defBody s_law_free_end) (defScope s_law_free_end) .none kV21 dc21 pm21 an21 cd21 ct21), sl21⟩) (c21 : PySem.W.codeIn K cd21 "_law_free_end" = true) (k21 : PySem.W.keepIn K (.ref f21) = true)
    (a22 : PySem.W.nsIn K mainGlobals "_law_free_block" = some (some (.ref f22))) (l22 : K.lookup f22 = some ⟨oc22, od22, .func (PySem.W.fnOf "_law_free_block" "_law_free_block" (defArgs s_law_free_block) (defBody s_law_free_block) (defScope s_law_free_block) .none kV22 dc22 pm22 an22 cd22 ct22), sl22⟩) (c22 : PySem.W.codeIn K cd22 "_law_free_block" = true) (k22 : PySem.W.keepIn K (.ref f22) = true)
    (a23 : PySem.W.nsIn K mainGlobals "_law_free_function" = some (some (.ref f23))) (l23 : K.lookup f23 = some ⟨oc23, od23, .func (PySem.W.fnOf "_law_free_function" "_law_free_function" (defArgs s_law_free_function) (defBody s_law_free_function) (defScope s_law_free_function) .none kV23 dc23 pm23 an23 cd23 ct23), sl23⟩) (c23 : PySem.W.codeIn K cd23 "_law_free_function" = true) (k23 : PySem.W.keepIn K (.ref f23) = true)
    (a24 : PySem.W.nsIn K mainGlobals "_law_edge_list" = some (some (.ref f24))) (l24 : K.lookup f24 = some ⟨oc24, od24, .func (PySem.W.fnOf "_law_edge_list" "_law_edge_list" (defArgs s_law_edge_list) (defBody s_law_edge_list) (defScope s_law_edge_list) .none kV24 dc24 pm24 an24 cd24 ct24), sl24⟩) (c24 : PySem.W.codeIn K cd24 "_law_edge_list" = true) (k24 : PySem.W.keepIn K (.ref f24) = true)
    (a25 : PySem.W.nsIn K mainGlobals "_law_target" = some (some (.ref f25))) (l25 : K.lookup f25 = some ⟨oc25, od25, .func (PySem.W.fnOf "_law_target" "_law_target" (defArgs s_law_target) (defBody s_law_target) (defScope s_law_target) .none kV25 dc25 pm25 an25 cd25 ct25), sl25⟩) (c25 : PySem.W.codeIn K cd25 "_law_target" = true) (k25 : PySem.W.keepIn K (.ref f25) = true)
    (a26 : PySem.W.nsIn K mainGlobals "_law_visited" = some (some (.ref f26))) (l26 : K.lookup f26 = some ⟨oc26, od26, .func (PySem.W.fnOf "_law_visited" "_law_visited" (defArgs s_law_visited) (defBody s_law_visited) (defScope s_law_visited) .none kV26 dc26 pm26 an26 cd26 ct26), sl26⟩) (c26 : PySem.W.codeIn K cd26 "_law_visited" = true) (k26 : PySem.W.keepIn K (.ref f26) = true)
    (a27 : PySem.W.nsIn K mainGlobals "law" = some (some (.ref f27))) (l27 : K.lookup f27 = some ⟨oc27, od27, .func (PySem.W.fnOf "law" "law" (defArgs slaw) (defBody slaw) (defScope slaw) .none kV27 dc27 pm27 an27 cd27 ct27), sl27⟩) (c27 : PySem.W.codeIn K cd27 "law" = true) (k27 : PySem.W.keepIn K (.ref f27) = true)
    (z_len : PySem.W.nsIn K mainGlobals "len" = some none)
    (z_list : PySem.W.nsIn K mainGlobals "list" = some none)
    (z_range : PySem.W.nsIn K mainGlobals "range" = some none)
    (z_min : PySem.W.nsIn K mainGlobals "min" = some none)
    (z_enumerate : PySem.W.nsIn K mainGlobals "enumerate" = some none)
    (z_zip : PySem.W.nsIn K mainGlobals "zip" = some none)
    (z_sorted : PySem.W.nsIn K mainGlobals "sorted" = some none)
    (z_abs : PySem.W.nsIn K mainGlobals "abs" = some none)
    (z_isinstance : PySem.W.nsIn K mainGlobals "isinstance" = some none)
    (z_tuple : PySem.W.nsIn K mainGlobals "tuple" = some none)
    (z_bool : PySem.W.nsIn K mainGlobals "bool" = some none)
    (z_int : PySem.W.nsIn K mainGlobals "int" = some none)
    (z_str : PySem.W.nsIn K mainGlobals "str" = some none)
    (z_dict : PySem.W.nsIn K mainGlobals "dict" = some none)
    : ∃ fd : FuncData, (∀ (s : Shared) (v : Value), BindsTo s fd ⟨[v], []⟩ [("script", v)]) ∧ ∀ base : Heap, K.In base → base.Ns mainGlobals mg → FnOk l.prog w K mg base CX0 13 fa fd ["script"] (spLaw K) := by
  have e := hfa.symm.trans (PySem.W.mg_of X G a27)
  cases e
  have F0 := fun_mk (st := swalk) l0 c0 k0
  have b0 := F0.binds (ps := ["targets"]) fun _ _ _ _ _ _ us hl => match us, hl with | [_], _ => rfl
  have F1 := fun_mk (st := sreached_nodes) l1 c1 k1
  have b1 := F1.binds (ps := ["targets"]) fun _ _ _ _ _ _ us hl => match us, hl with | [_], _ => rfl
  have F2 := fun_mk (st := sForest___init__) l2 c2 k2
  have b2 := F2.binds (ps := ["self", "count"]) fun _ _ _ _ _ _ us hl => match us, hl with | [_, _], _ => rfl
  have F3 := fun_mk (st := sForest_shorten) l3 c3 k3
  have b3 := F3.binds (ps := ["self", "place"]) fun _ _ _ _ _ _ us hl => match us, hl with | [_, _], _ => rfl
  have F4 := fun_mk (st := sForest_lowest) l4 c4 k4
  have b4 := F4.binds (ps := ["self", "place"]) fun _ _ _ _ _ _ us hl => match us, hl with | [_, _], _ => rfl
  have F5 := fun_mk (st := s_dominating_places) l5 c5 k5
  have b5 := F5.binds (ps := ["parents", "sources"]) fun _ _ _ _ _ _ us hl => match us, hl with | [_, _], _ => rfl
  have F6 := fun_mk (st := simmediate) l6 c6 k6
  have b6 := F6.binds (ps := ["targets"]) fun _ _ _ _ _ _ us hl => match us, hl with | [_], _ => rfl
  have F7 := fun_mk (st := sedges) l7 c7 k7
  have b7 := F7.binds (ps := ["end"]) fun _ _ _ _ _ _ us hl => match us, hl with | [_], _ => rfl
  have F8 := fun_mk (st := sblock_numbers) l8 c8 k8
  have b8 := F8.binds (ps := ["function"]) fun _ _ _ _ _ _ us hl => match us, hl with | [_], _ => rfl
  have F9 := fun_mk (st := sblock_targets) l9 c9 k9
  have b9 := F9.binds (ps := ["function"]) fun _ _ _ _ _ _ us hl => match us, hl with | [_], _ => rfl
  have F10 := fun_mk (st := sreached) l10 c10 k10
  have b10 := F10.binds (ps := ["function"]) fun _ _ _ _ _ _ us hl => match us, hl with | [_], _ => rfl
  have F11 := fun_mk (st := sdominating) l11 c11 k11
  have b11 := F11.binds (ps := ["function"]) fun _ _ _ _ _ _ us hl => match us, hl with | [_], _ => rfl
  have F12 := fun_mk (st := s_downwards) l12 c12 k12
  have b12 := F12.binds (ps := ["uppers"]) fun _ _ _ _ _ _ us hl => match us, hl with | [_], _ => rfl
  have F13 := fun_mk (st := s_law_stream) l13 c13 k13
  have b13 := F13.binds (ps := ["script", "count"]) fun _ _ _ _ _ _ us hl => match us, hl with | [_, _], _ => rfl
  have F14 := fun_mk (st := s_law_same) l14 c14 k14
  have b14 := F14.binds (ps := ["actual", "expected"]) fun _ _ _ _ _ _ us hl => match us, hl with | [_, _], _ => rfl
  have F15 := fun_mk (st := s_law_free_operand) l15 c15 k15
  have b15 := F15.binds (ps := ["first", "second", "span"]) fun _ _ _ _ _ _ us hl => match us, hl with | [_, _, _], _ => rfl
  have F16 := fun_mk (st := s_law_free_kind) l16 c16 k16
  have b16 := F16.binds (ps := ["op", "number"]) fun _ _ _ _ _ _ us hl => match us, hl with | [_, _], _ => rfl
  have F17 := fun_mk (st := s_law_free_count) l17 c17 k17
  have b17 := F17.binds (ps := ["op", "number"]) fun _ _ _ _ _ _ us hl => match us, hl with | [_, _], _ => rfl
  have F18 := fun_mk (st := s_law_free_data) l18 c18 k18
  have b18 := F18.binds (ps := ["op", "row", "at", "count"]) fun _ _ _ _ _ _ us hl => match us, hl with | [_, _, _, _], _ => rfl
  have F19 := fun_mk (st := s_law_free_instruction) l19 c19 k19
  have b19 := F19.binds (ps := ["row", "at", "span"]) fun _ _ _ _ _ _ us hl => match us, hl with | [_, _, _], _ => rfl
  have F20 := fun_mk (st := s_law_free_edge) l20 c20 k20
  have b20 := F20.binds (ps := ["row", "at", "span", "labels"]) fun _ _ _ _ _ _ us hl => match us, hl with | [_, _, _, _], _ => rfl
  have F21 := fun_mk (st := s_law_free_end) l21 c21 k21
  have b21 := F21.binds (ps := ["row", "at", "span", "labels"]) fun _ _ _ _ _ _ us hl => match us, hl with | [_, _, _, _], _ => rfl
  have F22 := fun_mk (st := s_law_free_block) l22 c22 k22
  have b22 := F22.binds (ps := ["row", "at", "span", "labels"]) fun _ _ _ _ _ _ us hl => match us, hl with | [_, _, _, _], _ => rfl
  have F23 := fun_mk (st := s_law_free_function) l23 c23 k23
  have b23 := F23.binds (ps := ["row", "at", "name"]) fun _ _ _ _ _ _ us hl => match us, hl with | [_, _, _], _ => rfl
  have F24 := fun_mk (st := s_law_edge_list) l24 c24 k24
  have b24 := F24.binds (ps := ["end"]) fun _ _ _ _ _ _ us hl => match us, hl with | [_], _ => rfl
  have F25 := fun_mk (st := s_law_target) l25 c25 k25
  have b25 := F25.binds (ps := ["function", "label"]) fun _ _ _ _ _ _ us hl => match us, hl with | [_, _], _ => rfl
  have F26 := fun_mk (st := s_law_visited) l26 c26 k26
  have b26 := F26.binds (ps := ["function", "without"]) fun _ _ _ _ _ _ us hl => match us, hl with | [_, _], _ => rfl
  have F27 := fun_mk (st := slaw) l27 c27 k27
  have b27 := F27.binds (ps := ["script"]) fun _ _ _ _ _ _ us hl => match us, hl with | [_], _ => rfl
  exact ⟨PySem.W.fnOf "law" "law" (defArgs slaw) (defBody slaw) (defScope slaw) .none kV27 dc27 pm27 an27 cd27 ct27, fun s v => .of_eq rfl, fun base _ _ => ok_law ⟨f0, _, F0, PySem.W.mg_of X G a0, b0, f1, _, F1, PySem.W.mg_of X G a1, b1, f2, _, F2, b2, f3, _, F3, b3, f4, _, F4, b4, f5, _, F5, PySem.W.mg_of X G a5, b5, f6, _, F6, PySem.W.mg_of X G a6, b6, f7, _, F7, PySem.W.mg_of X G a7, b7, f8, _, F8, PySem.W.mg_of X G a8, b8, f9, _, F9, PySem.W.mg_of X G a9, b9, f10, _, F10, PySem.W.mg_of X G a10, b10, f11, _, F11, PySem.W.mg_of X G a11, b11, f12, _, F12, PySem.W.mg_of X G a12, b12, f13, _, F13, PySem.W.mg_of X G a13, b13, f14, _, F14, PySem.W.mg_of X G a14, b14, f15, _, F15, PySem.W.mg_of X G a15, b15, f16, _, F16, PySem.W.mg_of X G a16, b16, f17, _, F17, PySem.W.mg_of X G a17, b17, f18, _, F18, PySem.W.mg_of X G a18, b18, f19, _, F19, PySem.W.mg_of X G a19, b19, f20, _, F20, PySem.W.mg_of X G a20, b20, f21, _, F21, PySem.W.mg_of X G a21, b21, f22, _, F22, PySem.W.mg_of X G a22, b22, f23, _, F23, PySem.W.mg_of X G a23, b23, f24, _, F24, PySem.W.mg_of X G a24, b24, f25, _, F25, PySem.W.mg_of X G a25, b25, f26, _, F26, PySem.W.mg_of X G a26, b26, fa, _, F27, PySem.W.mg_of X G a27, b27, C_Forest, ⟨pg_Forest, hd_Forest, po_Forest, sa_Forest⟩, PySem.W.mg_of X G aC_Forest, ⟨mk_Forest, a2, i2, kc_Forest⟩, nf_Forest_semi, nf_Forest_above, nf_Forest_best, ⟨a3, i3, k3⟩, ⟨a4, i4, k4⟩, PySem.W.mg_none_of X G z_len, PySem.W.mg_none_of X G z_list, PySem.W.mg_none_of X G z_range, PySem.W.mg_none_of X G z_min, PySem.W.mg_none_of X G z_enumerate, PySem.W.mg_none_of X G z_zip, PySem.W.mg_none_of X G z_sorted, PySem.W.mg_none_of X G z_abs, PySem.W.mg_none_of X G z_isinstance, PySem.W.mg_none_of X G z_tuple, PySem.W.mg_none_of X G z_bool, PySem.W.mg_none_of X G z_int, PySem.W.mg_none_of X G z_str, PySem.W.mg_none_of X G z_dict⟩⟩
end Toy
open PySem PySem.W PyProof.Rows
set_option maxRecDepth 100000 in
set_option maxHeartbeats 0 in
theorem PySem.Challenge.cw_burnish_k10_reached_and_dominating_holds : PySem.Challenge.rw_burnish_k10_reached_and_dominating.Holds := by
  w_on; o_law; k_head; (case hw => w_witness2)
  k_fill
  refine L2.walk_of (l := PySem.Challenge.rw_burnish_k10_reached_and_dominating) (n := 63) (k := 13) (x := "script") (CX := fun _ => L2.CX0) (sp := fun w => VL.spLaw _) rfl (by decide) rfl ⟨rfl, by decide, by decide⟩ (fun w h Y => PySem.W.kIn_of Y) ?F (fun _ _ a ns hl _ hS => ⟨a, ns, rfl, hS, hl, fun _ => rfl⟩) (fun _ _ _ _ _ h => h)
  case F =>
    intro w mg fa h KX G hmg
    refine' Toy.all_mk KX G hmg ?aC_Forest ?pg_Forest ?hd_Forest ?po_Forest ?sa_Forest ?mk_Forest ?kc_Forest ?nf_Forest_semi ?nf_Forest_above ?nf_Forest_best ?a0 ?l0 ?c0 ?k0 ?a1 ?l1 ?c1 ?k1 ?a2 ?i2 ?l2 ?c2 ?k2 ?a3 ?i3 ?l3 ?c3 ?k3 ?a4 ?i4 ?l4 ?c4 ?k4 ?a5 ?l5 ?c5 ?k5 ?a6 ?l6 ?c6 ?k6 ?a7 ?l7 ?c7 ?k7 ?a8 ?l8 ?c8 ?k8 ?a9 ?l9 ?c9 ?k9 ?a10 ?l10 ?c10 ?k10 ?a11 ?l11 ?c11 ?k11 ?a12 ?l12 ?c12 ?k12 ?a13 ?l13 ?c13 ?k13 ?a14 ?l14 ?c14 ?k14 ?a15 ?l15 ?c15 ?k15 ?a16 ?l16 ?c16 ?k16 ?a17 ?l17 ?c17 ?k17 ?a18 ?l18 ?c18 ?k18 ?a19 ?l19 ?c19 ?k19 ?a20 ?l20 ?c20 ?k20 ?a21 ?l21 ?c21 ?k21 ?a22 ?l22 ?c22 ?k22 ?a23 ?l23 ?c23 ?k23 ?a24 ?l24 ?c24 ?k24 ?a25 ?l25 ?c25 ?k25 ?a26 ?l26 ?c26 ?k26 ?a27 ?l27 ?c27 ?k27 ?z_len ?z_list ?z_range ?z_min ?z_enumerate ?z_zip ?z_sorted ?z_abs ?z_isinstance ?z_tuple ?z_bool ?z_int ?z_str ?z_dict
    (case aC_Forest => k_is)
    (case pg_Forest => k_is)
    (case hd_Forest => k_is)
    (case po_Forest => k_is)
    (case sa_Forest => k_is)
    (case mk_Forest => k_is)
    (case kc_Forest => k_is)
    (case nf_Forest_semi => k_is)
    (case nf_Forest_above => k_is)
    (case nf_Forest_best => k_is)
    (case a0 => k_is)
    (case l0 => k_is)
    (case c0 => k_is)
    (case k0 => k_is)
    (case a1 => k_is)
    (case l1 => k_is)
    (case c1 => k_is)
    (case k1 => k_is)
    (case a2 => k_is)
    (case i2 => k_is)
    (case l2 => k_is)
    (case c2 => k_is)
    (case k2 => k_is)
    (case a3 => k_is)
    (case i3 => k_is)
    (case l3 => k_is)
    (case c3 => k_is)
    (case k3 => k_is)
    (case a4 => k_is)
    (case i4 => k_is)
    (case l4 => k_is)
    (case c4 => k_is)
    (case k4 => k_is)
    (case a5 => k_is)
    (case l5 => k_is)
    (case c5 => k_is)
    (case k5 => k_is)
    (case a6 => k_is)
    (case l6 => k_is)
    (case c6 => k_is)
    (case k6 => k_is)
    (case a7 => k_is)
    (case l7 => k_is)
    (case c7 => k_is)
    (case k7 => k_is)
    (case a8 => k_is)
    (case l8 => k_is)
    (case c8 => k_is)
    (case k8 => k_is)
    (case a9 => k_is)
    (case l9 => k_is)
    (case c9 => k_is)
    (case k9 => k_is)
    (case a10 => k_is)
    (case l10 => k_is)
    (case c10 => k_is)
    (case k10 => k_is)
    (case a11 => k_is)
    (case l11 => k_is)
    (case c11 => k_is)
    (case k11 => k_is)
    (case a12 => k_is)
    (case l12 => k_is)
    (case c12 => k_is)
    (case k12 => k_is)
    (case a13 => k_is)
    (case l13 => k_is)
    (case c13 => k_is)
    (case k13 => k_is)
    (case a14 => k_is)
    (case l14 => k_is)
    (case c14 => k_is)
    (case k14 => k_is)
    (case a15 => k_is)
    (case l15 => k_is)
    (case c15 => k_is)
    (case k15 => k_is)
    (case a16 => k_is)
    (case l16 => k_is)
    (case c16 => k_is)
    (case k16 => k_is)
    (case a17 => k_is)
    (case l17 => k_is)
    (case c17 => k_is)
    (case k17 => k_is)
    (case a18 => k_is)
    (case l18 => k_is)
    (case c18 => k_is)
    (case k18 => k_is)
    (case a19 => k_is)
    (case l19 => k_is)
    (case c19 => k_is)
    (case k19 => k_is)
    (case a20 => k_is)
    (case l20 => k_is)
    (case c20 => k_is)
    (case k20 => k_is)
    (case a21 => k_is)
    (case l21 => k_is)
    (case c21 => k_is)
    (case k21 => k_is)
    (case a22 => k_is)
    (case l22 => k_is)
    (case c22 => k_is)
    (case k22 => k_is)
    (case a23 => k_is)
    (case l23 => k_is)
    (case c23 => k_is)
    (case k23 => k_is)
    (case a24 => k_is)
    (case l24 => k_is)
    (case c24 => k_is)
    (case k24 => k_is)
    (case a25 => k_is)
    (case l25 => k_is)
    (case c25 => k_is)
    (case k25 => k_is)
    (case a26 => k_is)
    (case l26 => k_is)
    (case c26 => k_is)
    (case k26 => k_is)
    (case a27 => k_is)
    (case l27 => k_is)
    (case c27 => k_is)
    (case k27 => k_is)
    (case z_len => k_is)
    (case z_list => k_is)
    (case z_range => k_is)
    (case z_min => k_is)
    (case z_enumerate => k_is)
    (case z_zip => k_is)
    (case z_sorted => k_is)
    (case z_abs => k_is)
    (case z_isinstance => k_is)
    (case z_tuple => k_is)
    (case z_bool => k_is)
    (case z_int => k_is)
    (case z_str => k_is)
    (case z_dict => k_is)
