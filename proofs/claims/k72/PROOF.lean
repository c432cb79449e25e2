import PyProof.Rows.All
import Wide.All
import OpenK.AllK
import Wide.FinOn
import HandS.Base
import HandS.Call
import HandS.List
import HandS.Comp
import HandS.Ends
import HandS.Dict
import HandS.Iter
import HandS.Conv
import HandS.Words
import HandS.WordsList
import HandS.AnyAll
import HandS.EndTab
import HandS.TupAny
import HandS.TupMul
import HandS.IsInst
import HandS.Zip
import HandS.Flow
import HandS.Style
import KE.GoesEnum
import KE.GoesZip
import KE.GoesMore
import HandS.Zip0
import PyProof.ConsumeS
import HandS.SetFor
import HandS.Strs
import HandS.Deep
import HandS.Small
import KE.SortData
import KE.DataMinMax
import HandS.SortKw
import HandS.Gcd
import KE.KMathGC
import PyProof.DictDisplay
import PyProof.DictTable
import PyProof.DictFindH
import KE.KDictWalk
import HandS.TupLen
import HandS.WordsDict
import KE.DataFind
import PySem.Challenge.RW_bellcopies_k72_across_turned_rings
set_option Elab.async false
set_option linter.all false
set_option maxRecDepth 100000
set_option maxHeartbeats 2000000
namespace BC
open PySem PySem.Spec PyProof.Rows L2 GxR

/-! data as they lie in the heap: a tuple is always one of the objects told of -/
/-! keys that are tuples of ints -/
def intsD : List PyData → Option (List Int)
  | [] => some []
  | .int k :: r => (intsD r).map (k :: ·)
  | _ => none
def keyT : PyData → Option (List Int)
  | .tuple ds => intsD ds
  | _ => none
theorem intsD_eq : ∀ {ds : List PyData} {ns : List Int}, intsD ds = some ns → ds = ns.map PyData.int
  | [], _, h => by cases h; rfl
  | d :: r, ns, h => by
    cases d <;> simp only [intsD] at h <;> (try cases h)
    rename_i k
    rw [Option.map_eq_some_iff] at h
    obtain ⟨l, h1, rfl⟩ := h
    rw [intsD_eq h1]
    rfl
theorem keyT_eq {d : PyData} {ns : List Int} (h : keyT d = some ns) : d = .tuple (ns.map PyData.int) := by
  cases d <;> simp only [keyT] at h <;> (try cases h)
  rw [intsD_eq h]
/-- a locked dict's own keys are told of too -/
def KeysIn (M : Hp) (od : Obj) (ws : List (List Key × V)) : Prop :=
  ∃ es ep, od.data = .dict es ep ∧ ∀ (i : Nat) (k : List Key) (v : V), ws[i]? = some (k, v) → ∃ (en : DictEntry) (q : Addr), es[i]? = some en ∧ en.key = .ref q ∧ M q = some (.tup (k.map kV))
mutual
inductive Dp (F : PySem.W.Frag) (M : Hp) : V → PyData → Prop
  | non : Dp F M .non .none
  | bl (t : Bool) : Dp F M (.bl t) (.bool t)
  | int (n : Int) : Dp F M (.int n) (.int n)
  | str (z : Str) : Dp F M (.str z) (.str z)
  | lst {p : Addr} {vs : List V} {es : List PyData} (hs : SqL F M p vs) (hr : DpAll F M vs es) : Dp F M (.ref p) (.list es)
  | tup {p : Addr} {vs : List V} {es : List PyData} (hs : M p = some (.tup vs)) (hr : DpAll F M vs es) : Dp F M (.ref p) (.tuple es)
  | dit {p : Addr} {od : Obj} {ws : List (List Key × V)} {kvs : List (PyData × PyData)} (hs : M p = some (.frz od (.dT ws))) (hk : KeysIn M od ws) (hr : DpT F M ws kvs) : Dp F M (.ref p) (.dict kvs)
  | dik {p : Addr} {od : Obj} {ws : List (Key × V)} {kvs : List (PyData × PyData)} (hn : kvs ≠ []) (hs : M p = some (.frz od (.dK ws))) (hr : DpK F M ws kvs) : Dp F M (.ref p) (.dict kvs)
inductive DpAll (F : PySem.W.Frag) (M : Hp) : List V → List PyData → Prop
  | nil : DpAll F M [] []
  | cons {x : V} {vs : List V} {e : PyData} {es : List PyData} (hx : Dp F M x e) (hr : DpAll F M vs es) : DpAll F M (x :: vs) (e :: es)
inductive DpT (F : PySem.W.Frag) (M : Hp) : List (List Key × V) → List (PyData × PyData) → Prop
  | nil : DpT F M [] []
  | cons {k : List Key} {ns : List Int} {v : V} {kd d : PyData} {ws : List (List Key × V)} {kvs : List (PyData × PyData)} (hk : keyT kd = some ns) (hw : k = ns.map Sum.inl) (hv : Dp F M v d) (hr : DpT F M ws kvs) : DpT F M ((k, v) :: ws) ((kd, d) :: kvs)
inductive DpK (F : PySem.W.Frag) (M : Hp) : List (Key × V) → List (PyData × PyData) → Prop
  | nil : DpK F M [] []
  | cons {n : Int} {v : V} {d : PyData} {ws : List (Key × V)} {kvs : List (PyData × PyData)} (hv : Dp F M v d) (hr : DpK F M ws kvs) : DpK F M ((Sum.inl n, v) :: ws) ((.int n, d) :: kvs)
end
section
variable {X : Cx} {pins : List (Addr × Obj)} {σ : L2.St} {H : Hp} {s : Shared}
theorem vals_kV : ∀ (ns : List Int), (ns.map (Sum.inl : Int → Key)).map kV = ns.map V.int
  | [] => rfl
  | _ :: r => congrArg (_ :: ·) (vals_kV r)
theorem reads_ints : ∀ {ns : List Int} {us : List Value}, Vals (ns.map V.int) us → ∃ as, ReadsAll s.heap us (ns.map PyData.int) as
  | [], _, r => by cases r; exact ⟨_, .nil⟩
  | _ :: ns, _, r => by
    cases r with
    | cons r1 r2 =>
      obtain ⟨tk, rfl⟩ := r1
      obtain ⟨bs, q⟩ := reads_ints r2
      exact ⟨_, .cons (.int _ tk) q⟩
theorem reads_key (I : Inv X pins σ H s) {q : Addr} {ns : List Int} (h : H q = some (.tup ((ns.map (Sum.inl : Int → Key)).map kV))) : ∃ as, Reads s.heap (.ref q) (.tuple (ns.map PyData.int)) as := by
  rw [vals_kV] at h
  obtain ⟨us, ru, ⟨ob, g1, g2, k, g3⟩, _⟩ := I.tuple (.inl (.inl h))
  obtain ⟨as, z⟩ := reads_ints (s := s) ru
  exact ⟨_, .tuple g1 g2 g3 z⟩
theorem reads_keysT (I : Inv X pins σ H s) : ∀ {ws : List (List Key × V)} {kvs : List (PyData × PyData)} {xs : List (List Key × Addr × Value)}, DpT X.K H ws kvs →
    Paired (fun (p : List Key × V) (q : List Key × Addr × Value) => p.1 = q.1 ∧ H q.2.1 = some (.tup (p.1.map kV)) ∧ RelV p.2 q.2.2) ws xs → ∃ as, ReadsAll s.heap (xs.map fun x => Value.ref x.2.1) (kvs.map (·.1)) as
  | _, _, _, .nil, .nil => ⟨_, .nil⟩
  | _, _, _, .cons hk hw _ hr, .cons h t => by
    obtain ⟨as, z⟩ := reads_keysT I hr t
    obtain ⟨_, h2, _⟩ := h
    subst hw
    obtain ⟨bs, y⟩ := reads_key I h2
    rw [← keyT_eq hk] at y
    exact ⟨_, .cons y z⟩
theorem reads_keysK : ∀ {ws : List (Key × V)} {kvs : List (PyData × PyData)} {vs : List (Key × Value)} {l : List Value}, DpK X.K H ws kvs → KV ws vs → Paired (fun (p : Key × Value) (u : Value) => RelV (kV p.1) u) vs l → ∃ as, ReadsAll s.heap l (kvs.map (·.1)) as
  | _, _, _, _, .nil, .nil, .nil => ⟨_, .nil⟩
  | _, _, _, _, .cons _ hr, .cons h t, .cons z y => by
    obtain ⟨as, g⟩ := reads_keysK hr t y
    rw [← h.1] at z
    obtain ⟨tk, rfl⟩ := z
    exact ⟨_, .cons (.int _ tk) g⟩
theorem pairs_of {P : Program} {w : World} : ∀ {l : List DictEntry} {vs : List (Key × Value)}, Pairs (mixKind P w) l vs → l.map (·.val) = vs.map (·.2) ∧ Paired (fun (p : Key × Value) (u : Value) => RelV (kV p.1) u) vs (l.map (·.key))
  | _, _, .nil => ⟨rfl, .nil⟩
  | _, _, .cons h1 h2 t => by
    obtain ⟨g1, g2⟩ := pairs_of t
    exact ⟨by rw [List.map_cons, List.map_cons, g1]; exact congrArg (· :: _) h2, .cons (relV_key h1) g2⟩
mutual
theorem Dp.reads (I : Inv X pins σ H s) : ∀ {d : PyData} {v : V} {u : Value}, Dp X.K H v d → RelV v u → ∃ as, Reads s.heap u d as
  | _, _, _, .non, r => by cases r; exact ⟨_, .none⟩
  | _, _, _, .bl t, r => by cases r; exact ⟨_, .bool t⟩
  | _, _, _, .int n, r => by obtain ⟨tk, rfl⟩ := r; exact ⟨_, .int n tk⟩
  | _, _, _, .str z, r => by obtain ⟨tk, rfl⟩ := r; exact ⟨_, .str z tk⟩
  | _, _, _, .lst hs hr, r => by
    cases r
    obtain ⟨us, ru, ⟨ob, k, g1, g2, _, g3⟩, _⟩ := I.list hs
    obtain ⟨as, q⟩ := DpAll.reads I hr ru
    exact ⟨_, .list g1 g2 g3 q⟩
  | _, _, _, .tup hs hr, r => by
    cases r
    obtain ⟨us, ru, ⟨ob, g1, g2, k, g3⟩, _⟩ := I.tuple (.inl (.inl hs))
    obtain ⟨as, q⟩ := DpAll.reads I hr ru
    exact ⟨_, .tuple g1 g2 g3 q⟩
  | _, _, _, .dit hs _ hr, r => by
    cases r
    obtain ⟨hd, z, hs, xs, pr, ob, es, ep, ho, hx, hdt, he, _⟩ := I.hok _ _ hs
    obtain ⟨as, q1⟩ := reads_keysT I hr pr
    obtain ⟨bs, q2⟩ := DpT.reads I hr pr
    refine ⟨_, .dict ho hx.1 hdt (as := as) (bs := bs) ?_ ?_⟩
    · rw [he, List.map_map]; exact q1
    · rw [he, List.map_map]; exact q2
  | _, _, _, .dik _ hs hr, r => by
    cases r
    obtain ⟨hd, z, hs, vs, kv, o', es, ep, ho, hx, hdt, hpr⟩ := I.hok _ _ hs
    obtain ⟨bs, q2⟩ := DpK.reads I hr kv
    have pv := pairs_of hpr.2.1
    obtain ⟨as, q1⟩ := reads_keysK hr kv pv.2
    exact ⟨_, .dict ho hx.1 hdt (as := as) (bs := bs) q1 (by rw [pv.1]; exact q2)⟩
theorem DpAll.reads (I : Inv X pins σ H s) : ∀ {ds : List PyData} {vs : List V} {us : List Value}, DpAll X.K H vs ds → Vals vs us → ∃ as, ReadsAll s.heap us ds as
  | _, _, _, .nil, r => by cases r; exact ⟨_, .nil⟩
  | _, _, _, .cons hx hr, r => by
    cases r with
    | cons r1 r2 =>
      obtain ⟨as, q⟩ := Dp.reads I hx r1
      obtain ⟨bs, q2⟩ := DpAll.reads I hr r2
      exact ⟨_, .cons q q2⟩
theorem DpT.reads (I : Inv X pins σ H s) : ∀ {ws : List (List Key × V)} {kvs : List (PyData × PyData)} {xs : List (List Key × Addr × Value)}, DpT X.K H ws kvs →
    Paired (fun (p : List Key × V) (q : List Key × Addr × Value) => p.1 = q.1 ∧ H q.2.1 = some (.tup (p.1.map kV)) ∧ RelV p.2 q.2.2) ws xs → ∃ as, ReadsAll s.heap (xs.map fun x => x.2.2) (kvs.map (·.2)) as
  | _, _, _, .nil, .nil => ⟨_, .nil⟩
  | _, _, _, .cons _ _ hv hr, .cons h t => by
    obtain ⟨bs, q2⟩ := DpT.reads I hr t
    obtain ⟨as, q⟩ := Dp.reads I hv h.2.2
    exact ⟨_, .cons q q2⟩
theorem DpK.reads (I : Inv X pins σ H s) : ∀ {ws : List (Key × V)} {kvs : List (PyData × PyData)} {vs : List (Key × Value)}, DpK X.K H ws kvs → KV ws vs → ∃ as, ReadsAll s.heap (vs.map (·.2)) (kvs.map (·.2)) as
  | _, _, _, .nil, .nil => ⟨_, .nil⟩
  | _, _, _, .cons hv hr, .cons h t => by
    obtain ⟨bs, q2⟩ := DpK.reads I hr t
    obtain ⟨as, q⟩ := Dp.reads I hv h.2
    exact ⟨_, .cons q q2⟩
end
end
section
variable {X : Cx}
/-- == and != of two data -/
def rEqD (F : PySem.W.Frag) : R2 := fun x y M Q => ∃ d e, Dp F M x d ∧ Dp F M y e ∧ SeqAt.shaped d = true ∧ SeqAt.shaped e = true ∧ Q (.bl (PyData.eqv d e)) M
def rNeD (F : PySem.W.Frag) : R2 := fun x y M Q => ∃ d e, Dp F M x d ∧ Dp F M y e ∧ SeqAt.shaped d = true ∧ SeqAt.shaped e = true ∧ Q (.bl (!PyData.eqv d e)) M
theorem op_eqD (room : X.A.units + 64 < cLine) : OpR X (compareOp .Eq) (rEqD X.K) := by
  rintro pins s σ H x y v u Q I rx ry ⟨d, e, dx, dy, sd, se, q⟩
  obtain ⟨as, q1⟩ := dx.reads I rx
  obtain ⟨bs, q2⟩ := dy.reads I ry
  exact SeqAt.compareEq_shaped q1 q2 sd se room ⟨.bl _, H, I, rfl, q⟩
theorem op_neD (room : X.A.units + 64 < cLine) : OpR X (compareOp .NotEq) (rNeD X.K) := by
  rintro pins s σ H x y v u Q I rx ry ⟨d, e, dx, dy, sd, se, q⟩
  obtain ⟨as, q1⟩ := dx.reads I rx
  obtain ⟨bs, q2⟩ := dy.reads I ry
  exact SeqAt.compareNe_shaped q1 q2 sd se room ⟨.bl _, H, I, rfl, q⟩
end

abbrev D := PyData
/-- what a name's cell holds that only this def can change -/
inductive Cell where
  | lst (ds : List D)
  | dic (kvs : List (List Int × D))
  | dik (kvs : List (Int × D))
inductive Slot where
  | no
  | val (d : D)
  | own (c : Cell)
abbrev SS := List Slot

def CellR (K : PySem.W.Frag) (B : Hp) : Cell → HO → Prop
  | .lst ds, o => ∃ vs, o = .lst vs ∧ DpAll K B vs ds
  | .dic kvs, o => ∃ ws, o = .dT ws ∧ Paired (fun (p : List Int × D) (q : List Key × V) => p.1.map Sum.inl = q.1 ∧ Dp K B q.2 p.2) kvs ws
  | .dik kvs, o => ∃ ws, o = .dK ws ∧ Paired (fun (p : Int × D) (q : Key × V) => Sum.inl p.1 = q.1 ∧ Dp K B q.2 p.2) kvs ws

theorem same_seqT {K : PySem.W.Frag} {H H' : Hp} {a : Addr} {xs : List V} (e : Same H H') (h : H a = some (.tup xs)) : SqT K H' a xs := .inl (.inl (e _ _ h))
theorem keysIn_mono {B B' : Hp} (e : Same B B') {od : Obj} {ws : List (List Key × V)} (h : KeysIn B od ws) : KeysIn B' od ws := by
  obtain ⟨es, ep, h1, h2⟩ := h
  refine ⟨es, ep, h1, fun i k v hi => ?_⟩
  obtain ⟨en, q, g1, g2, g3⟩ := h2 i k v hi
  exact ⟨en, q, g1, g2, e _ _ g3⟩
mutual
theorem dp_mono {K : PySem.W.Frag} {B B' : Hp} (e : Same B B') : ∀ {v : V} {d : D}, Dp K B v d → Dp K B' v d
  | _, _, .non => .non
  | _, _, .bl b => .bl b
  | _, _, .int i => .int i
  | _, _, .str x => .str x
  | _, _, .lst h r => .lst (e.seq h) (dpAll_mono e r)
  | _, _, .tup h r => .tup (e _ _ h) (dpAll_mono e r)
  | _, _, .dit h k r => .dit (e _ _ h) (keysIn_mono e k) (dpT_mono e r)
  | _, _, .dik n h r => .dik n (e _ _ h) (dpK_mono e r)
theorem dpAll_mono {K : PySem.W.Frag} {B B' : Hp} (e : Same B B') : ∀ {vs : List V} {ds : List D}, DpAll K B vs ds → DpAll K B' vs ds
  | _, _, .nil => .nil
  | _, _, .cons h r => .cons (dp_mono e h) (dpAll_mono e r)
theorem dpT_mono {K : PySem.W.Frag} {B B' : Hp} (e : Same B B') : ∀ {ws : List (List Key × V)} {kvs : List (D × D)}, DpT K B ws kvs → DpT K B' ws kvs
  | _, _, .nil => .nil
  | _, _, .cons a b h r => .cons a b (dp_mono e h) (dpT_mono e r)
theorem dpK_mono {K : PySem.W.Frag} {B B' : Hp} (e : Same B B') : ∀ {ws : List (Key × V)} {kvs : List (D × D)}, DpK K B ws kvs → DpK K B' ws kvs
  | _, _, .nil => .nil
  | _, _, .cons h r => .cons (dp_mono e h) (dpK_mono e r)
end
theorem dpAll_len {K : PySem.W.Frag} {B : Hp} : ∀ {vs : List V} {ds : List D}, DpAll K B vs ds → vs.length = ds.length
  | _, _, .nil => rfl
  | _, _, .cons _ r => congrArg Nat.succ (dpAll_len r)
theorem dpAll_get {K : PySem.W.Frag} {B : Hp} : ∀ {vs : List V} {ds : List D} {i : Nat} {d : D}, DpAll K B vs ds → ds[i]? = some d → ∃ v, vs[i]? = some v ∧ Dp K B v d
  | _, _, _, _, .nil, h => by simp at h
  | _, _, 0, _, .cons h _, e => by simp at e; subst e; exact ⟨_, rfl, h⟩
  | _, _, i + 1, _, .cons _ r, e => by
    obtain ⟨v, h1, h2⟩ := dpAll_get (i := i) r (by simpa using e)
    exact ⟨v, by simpa using h1, h2⟩
theorem dpAll_app {K : PySem.W.Frag} {B : Hp} : ∀ {vs ws : List V} {ds es : List D}, DpAll K B vs ds → DpAll K B ws es → DpAll K B (vs ++ ws) (ds ++ es)
  | _, _, _, _, .nil, s => s
  | _, _, _, _, .cons h r, s => .cons h (dpAll_app r s)
theorem dpAll_take {K : PySem.W.Frag} {B : Hp} : ∀ {vs : List V} {ds : List D} (n : Nat), DpAll K B vs ds → DpAll K B (vs.take n) (ds.take n)
  | _, _, 0, _ => .nil
  | _, _, _ + 1, .nil => .nil
  | _, _, n + 1, .cons h r => .cons h (dpAll_take n r)
theorem dpAll_drop {K : PySem.W.Frag} {B : Hp} : ∀ {vs : List V} {ds : List D} (n : Nat), DpAll K B vs ds → DpAll K B (vs.drop n) (ds.drop n)
  | _, _, 0, r => r
  | _, _, _ + 1, .nil => .nil
  | _, _, n + 1, .cons _ r => dpAll_drop n r
theorem dpAll_set {K : PySem.W.Frag} {B : Hp} {v : V} {d : D} (h : Dp K B v d) : ∀ {vs : List V} {ds : List D} (n : Nat), DpAll K B vs ds → DpAll K B (vs.set n v) (ds.set n d)
  | _, _, _, .nil => .nil
  | _, _, 0, .cons _ r => .cons h r
  | _, _, n + 1, .cons q r => .cons q (dpAll_set h n r)
theorem dpAll_ints {K : PySem.W.Frag} {B : Hp} : ∀ (ns : List Int), DpAll K B (ns.map V.int) (ns.map PyData.int)
  | [] => .nil
  | _ :: r => .cons (.int _) (dpAll_ints r)
theorem cellR_mono {K : PySem.W.Frag} {B B' : Hp} (e : Same B B') {c : Cell} {o : HO} (h : CellR K B c o) : CellR K B' c o := by
  cases c with
  | lst ds => obtain ⟨vs, rfl, r⟩ := h; exact ⟨vs, rfl, dpAll_mono e r⟩
  | dic kvs => obtain ⟨ws, rfl, r⟩ := h; exact ⟨ws, rfl, Paired.mapP r fun p q z => ⟨z.1, dp_mono e z.2⟩⟩
  | dik kvs => obtain ⟨ws, rfl, r⟩ := h; exact ⟨ws, rfl, Paired.mapP r fun p q z => ⟨z.1, dp_mono e z.2⟩⟩

/-- fixed through a def's run -/
structure En where
  K : PySem.W.Frag
  B0 : Hp
  H0 : Hp
  T : List Addr
  pa : List (Nat × Addr)

def NoTbl (o : HO) : Prop := ∀ ps, o ≠ .tbl ps
structure Rep (E : En) (B H : Hp) (σ : L2.St) (S : SS) : Prop where
  base : Same E.B0 B
  sub : Same B H
  new : ∀ p, E.H0 p ≠ none → (∀ xs, H p ≠ some (.tup xs)) → B p = E.B0 p
  frame : ∀ p o, E.H0 p = some o → NoTbl o → (∀ j, (j, p) ∉ E.pa) → H p = some o
  keep : ∀ p, E.H0 p ≠ none → H p ≠ none
  tabs : ∀ P ∈ E.T, TabG H P ∧ B P = none
  par : ∀ q ∈ E.pa, σ[q.1]? = some (some (V.ref q.2)) ∧ ∃ c, S[q.1]? = some (Slot.own c)
  len : S.length = σ.length
  val : ∀ (i : Nat) d, S[i]? = some (Slot.val d) → ∃ v, σ[i]? = some (some v) ∧ Dp E.K B v d
  «own» : ∀ (i : Nat) c, S[i]? = some (Slot.own c) → ∃ a o, σ[i]? = some (some (V.ref a)) ∧ B a = none ∧ H a = some o ∧ CellR E.K B c o ∧ (E.H0 a = none ∨ (i, a) ∈ E.pa)
  sep : ∀ (i j : Nat) c c' a, i ≠ j → S[i]? = some (Slot.own c) → S[j]? = some (Slot.own c') → σ[i]? = some (some (V.ref a)) → σ[j]? ≠ some (some (V.ref a))

section
variable {E : En} {B B' H H' : Hp} {σ : L2.St} {S : SS} {p : Addr} {o : HO}
theorem same_upd {H : Hp} {p : Addr} {o : HO} (h : H p = none) : Same H (upd H p o) := fun b x e => by
  rw [upd_ne (ne_of_none e h)]
  exact e
/-- a new object that nothing will change -/
theorem Rep.laid (R : Rep E B H σ S) (hp : H p = none) (ho : NoTbl o) : Rep E (upd B p o) (upd H p o) σ S := by
  have hb : B p = none := R.sub.free hp
  have sB : Same B (upd B p o) := same_upd hb
  have h0 : E.H0 p = none := by
    cases q : E.H0 p with
    | none => rfl
    | some u => exact absurd hp (R.keep p (by rw [q]; simp))
  have ne0 : ∀ q, E.H0 q ≠ none → q ≠ p := fun q h z => h (by rw [z]; exact h0)
  refine ⟨R.base.trans sB, fun b x e => ?_, fun q h nt => ?_, fun q x h h1 h2 => ?_, fun q h => ?_, fun P hP => ?_, R.par, R.len, fun i d h => ?_, fun i c h => ?_, R.sep⟩
  · by_cases hb2 : b = p
    · rw [hb2, upd_same] at e; rw [hb2, upd_same]; exact e
    · rw [upd_ne hb2] at e; rw [upd_ne hb2]; exact R.sub _ _ e
  · rw [upd_ne (ne0 q h)]; exact R.new q h fun xs z => nt xs (by rw [upd_ne (ne0 q h)]; exact z)
  · rw [upd_ne (ne0 q (by rw [h]; simp))]; exact R.frame q x h h1 h2
  · rw [upd_ne (ne0 q h)]; exact R.keep q h
  · obtain ⟨⟨ps, e, t⟩, n⟩ := R.tabs P hP
    have hne : P ≠ p := ne_of_none e hp
    exact ⟨⟨ps, by rw [upd_ne hne]; exact e, t⟩, by rw [upd_ne hne]; exact n⟩
  · obtain ⟨v, e, r⟩ := R.val i d h
    exact ⟨v, e, dp_mono sB r⟩
  · obtain ⟨a, u, e, n, h1, r⟩ := R.own i c h
    have hne : a ≠ p := ne_of_none h1 hp
    exact ⟨a, u, e, by rw [upd_ne hne]; exact n, by rw [upd_ne hne]; exact h1, cellR_mono sB r.1, r.2⟩
/-- a new object, not (yet) of the fixed part -/
theorem Rep.fresh (R : Rep E B H σ S) (hp : H p = none) (ho : NoTbl o) : Rep E B (upd H p o) σ S := by
  have h0 : E.H0 p = none := by
    cases q : E.H0 p with
    | none => rfl
    | some u => exact absurd hp (R.keep p (by rw [q]; simp))
  have ne0 : ∀ q, E.H0 q ≠ none → q ≠ p := fun q h z => h (by rw [z]; exact h0)
  refine ⟨R.base, R.sub.trans (same_upd hp), fun q h nt => R.new q h fun xs z => nt xs (by rw [upd_ne (ne0 q h)]; exact z), fun q x h h1 h2 => ?_, fun q h => ?_, fun P hP => ?_, R.par, R.len, R.val, fun i c h => ?_, R.sep⟩
  · rw [upd_ne (ne0 q (by rw [h]; simp))]; exact R.frame q x h h1 h2
  · rw [upd_ne (ne0 q h)]; exact R.keep q h
  · obtain ⟨⟨ps, e, t⟩, n⟩ := R.tabs P hP
    exact ⟨⟨ps, by rw [upd_ne (ne_of_none e hp)]; exact e, t⟩, n⟩
  · obtain ⟨a, u, e, n, h1, r⟩ := R.own i c h
    exact ⟨a, u, e, n, by rw [upd_ne (ne_of_none h1 hp)]; exact h1, r⟩
/-- a free object of ours that stands in no slot is fixed -/
theorem Rep.fix (R : Rep E B H σ S) (hp : H p = some o) (hb : B p = none) (h0 : E.H0 p = none) (ho : NoTbl o) (hs : ∀ (i : Nat) c, S[i]? = some (Slot.own c) → σ[i]? ≠ some (some (V.ref p))) : Rep E (upd B p o) H σ S := by
  have sB : Same B (upd B p o) := same_upd hb
  have ne0 : ∀ q, E.H0 q ≠ none → q ≠ p := fun q h z => h (by rw [z]; exact h0)
  refine ⟨R.base.trans sB, fun b x e => ?_, fun q h nt => ?_, R.frame, R.keep, fun P hP => ?_, R.par, R.len, fun i d h => ?_, fun i c h => ?_, R.sep⟩
  · by_cases hb2 : b = p
    · rw [hb2, upd_same] at e; rw [hb2, ← e]; exact hp
    · rw [upd_ne hb2] at e; exact R.sub _ _ e
  · rw [upd_ne (ne0 q h)]; exact R.new q h nt
  · obtain ⟨⟨ps, e, t⟩, n⟩ := R.tabs P hP
    have hne : P ≠ p := fun z => by
      rw [z, hp] at e; exact ho ps (Option.some.inj e)
    exact ⟨⟨ps, e, t⟩, by rw [upd_ne hne]; exact n⟩
  · obtain ⟨v, e, r⟩ := R.val i d h
    exact ⟨v, e, dp_mono sB r⟩
  · obtain ⟨a, u, e, n, h1, r⟩ := R.own i c h
    have hne : a ≠ p := fun z => hs i c h (by rw [e, z])
    exact ⟨a, u, e, by rw [upd_ne hne]; exact n, h1, cellR_mono sB r.1, r.2⟩
/-- a name is given a value -/
theorem Rep.set (R : Rep E B H σ S) {i : Nat} {v : V} {d : D} (hd : Dp E.K B v d) (hi : ∀ q ∈ E.pa, q.1 ≠ i) (hl : i < S.length) : Rep E B H (σ.set i (some v)) (S.set i (Slot.val d)) := by
  have hl' : i < σ.length := by rw [← R.len]; exact hl
  have nS : ∀ (j : Nat), j ≠ i → (S.set i (Slot.val d))[j]? = S[j]? := fun (j : Nat) h => List.getElem?_set_ne (Ne.symm h)
  have nσ : ∀ (j : Nat), j ≠ i → (σ.set i (some v))[j]? = σ[j]? := fun (j : Nat) h => List.getElem?_set_ne (Ne.symm h)
  have oi : ∀ {j : Nat} {c}, (S.set i (Slot.val d))[j]? = some (Slot.own c) → j ≠ i ∧ S[j]? = some (Slot.own c) := fun {j : Nat} {c} h => by
    by_cases hj : j = i
    · rw [hj, List.getElem?_set_self hl] at h; cases h
    · rw [nS j hj] at h; exact ⟨hj, h⟩
  refine ⟨R.base, R.sub, R.new, R.frame, R.keep, R.tabs, fun q hq => ?_, by simp [R.len], fun j e h => ?_, fun j c h => ?_, fun j k c c' a hjk h1 h2 => ?_⟩
  · obtain ⟨h1, c, h2⟩ := R.par q hq
    exact ⟨by rw [nσ _ (hi q hq)]; exact h1, c, by rw [nS _ (hi q hq)]; exact h2⟩
  · by_cases hj : j = i
    · rw [hj, List.getElem?_set_self hl] at h
      cases h
      exact ⟨v, by rw [hj, List.getElem?_set_self hl'], hd⟩
    · rw [nS j hj] at h
      obtain ⟨u, e1, r⟩ := R.val j e h
      exact ⟨u, by rw [nσ j hj]; exact e1, r⟩
  · obtain ⟨hj, h⟩ := oi h
    obtain ⟨a, u, e1, r⟩ := R.own j c h
    exact ⟨a, u, by rw [nσ j hj]; exact e1, r⟩
  · obtain ⟨hj, h1⟩ := oi h1
    obtain ⟨hk, h2⟩ := oi h2
    rw [nσ j hj, nσ k hk]
    exact R.sep j k c c' a hjk h1 h2
/-- a name is given an object of its own -/
theorem Rep.setOwn (R : Rep E B H σ S) {i : Nat} {a : Addr} {c : Cell} (h0 : E.H0 a = none) (hb : B a = none) (ha : H a = some o) (hc : CellR E.K B c o) (hs : ∀ (j : Nat) c, S[j]? = some (Slot.own c) → σ[j]? ≠ some (some (V.ref a))) (hi : ∀ q ∈ E.pa, q.1 ≠ i) (hl : i < S.length) :
    Rep E B H (σ.set i (some (V.ref a))) (S.set i (Slot.own c)) := by
  have hl' : i < σ.length := by rw [← R.len]; exact hl
  have nS : ∀ (j : Nat), j ≠ i → (S.set i (Slot.own c))[j]? = S[j]? := fun (j : Nat) h => List.getElem?_set_ne (Ne.symm h)
  have nσ : ∀ (j : Nat), j ≠ i → (σ.set i (some (V.ref a)))[j]? = σ[j]? := fun (j : Nat) h => List.getElem?_set_ne (Ne.symm h)
  refine ⟨R.base, R.sub, R.new, R.frame, R.keep, R.tabs, fun q hq => ?_, by simp [R.len], fun j e h => ?_, fun j c' h => ?_, fun j k c1 c2 x hjk h1 h2 h3 => ?_⟩
  · obtain ⟨h1, c, h2⟩ := R.par q hq
    exact ⟨by rw [nσ _ (hi q hq)]; exact h1, c, by rw [nS _ (hi q hq)]; exact h2⟩
  · by_cases hj : j = i
    · rw [hj, List.getElem?_set_self hl] at h
      cases h
    · rw [nS j hj] at h
      obtain ⟨u, e1, r⟩ := R.val j e h
      exact ⟨u, by rw [nσ j hj]; exact e1, r⟩
  · by_cases hj : j = i
    · rw [hj, List.getElem?_set_self hl] at h
      cases h
      exact ⟨a, o, by rw [hj, List.getElem?_set_self hl'], hb, ha, hc, .inl h0⟩
    · rw [nS j hj] at h
      obtain ⟨x, u, e1, r⟩ := R.own j c' h
      exact ⟨x, u, by rw [nσ j hj]; exact e1, r⟩
  · by_cases hj : j = i
    · have hk : k ≠ i := fun z => hjk (hj.trans z.symm)
      rw [nS k hk] at h2
      rw [hj, List.getElem?_set_self hl'] at h3
      rw [nσ k hk]
      cases h3
      exact hs k c2 h2
    · rw [nS j hj] at h1
      rw [nσ j hj] at h3
      by_cases hk : k = i
      · rw [hk, List.getElem?_set_self hl']
        intro z
        cases z
        exact hs j c1 h1 h3
      · rw [nS k hk] at h2
        rw [nσ k hk]
        exact R.sep j k c1 c2 x hjk h1 h2 h3
theorem cellR_no {K : PySem.W.Frag} {B : Hp} {c : Cell} {o : HO} (h : CellR K B c o) : NoTbl o := fun ps z => by
  cases c with
  | lst ds => obtain ⟨vs, e, r⟩ := h; rw [e] at z; cases z
  | dic kvs => obtain ⟨ws, e, r⟩ := h; rw [e] at z; cases z
  | dik kvs => obtain ⟨ws, e, r⟩ := h; rw [e] at z; cases z
theorem cellR_nt {K : PySem.W.Frag} {B : Hp} {c : Cell} {o : HO} (h : CellR K B c o) : ∀ xs, o ≠ .tup xs := fun ps z => by
  cases c with
  | lst ds => obtain ⟨vs, e, r⟩ := h; rw [e] at z; cases z
  | dic kvs => obtain ⟨ws, e, r⟩ := h; rw [e] at z; cases z
  | dik kvs => obtain ⟨ws, e, r⟩ := h; rw [e] at z; cases z
/-- what stands in an own cell is changed -/
theorem Rep.write (R : Rep E B H σ S) {i : Nat} {a : Addr} {c c' : Cell} (hi : S[i]? = some (Slot.own c)) (hσ : σ[i]? = some (some (V.ref a))) (hc : CellR E.K B c' o) :
    Rep E B (upd H a o) σ (S.set i (Slot.own c')) := by
  obtain ⟨a', u, e, hb, hH, hcu, hfr⟩ := R.own i c hi
  rw [hσ] at e
  cases e
  have hl : i < S.length := (List.getElem?_eq_some_iff.mp hi).1
  have nS : ∀ (j : Nat), j ≠ i → (S.set i (Slot.own c'))[j]? = S[j]? := fun (j : Nat) h => List.getElem?_set_ne (Ne.symm h)
  have ho := cellR_no hc
  have hu := cellR_no hcu
  have inS : ∀ {j : Nat} {c1}, (S.set i (Slot.own c'))[j]? = some (Slot.own c1) → ∃ c2, S[j]? = some (Slot.own c2) := fun {j : Nat} {c1} h => by
    by_cases hj : j = i
    · exact ⟨c, by rw [hj]; exact hi⟩
    · rw [nS j hj] at h; exact ⟨c1, h⟩
  refine ⟨R.base, fun b x z => ?_, fun q h nt => R.new q h fun xs z => nt xs (by rw [upd_ne (fun w => by rw [w, hH] at z; exact cellR_nt hcu xs (Option.some.inj z))]; exact z), fun q x h h1 h2 => ?_, fun q h => ?_, fun P hP => ?_, fun q hq => ?_, by simp [R.len], fun j d h => ?_, fun j c1 h => ?_, fun j k c1 c2 x hjk h1 h2 h3 => ?_⟩
  · have hne : b ≠ a := fun w => by rw [w, hb] at z; cases z
    rw [upd_ne hne]; exact R.sub _ _ z
  · have hne : q ≠ a := fun w => by
      rcases hfr with z | z
      · rw [w, z] at h; cases h
      · exact h2 i (by rw [w]; exact z)
    rw [upd_ne hne]; exact R.frame q x h h1 h2
  · by_cases hq : q = a
    · rw [hq, upd_same]; simp
    · rw [upd_ne hq]; exact R.keep q h
  · obtain ⟨⟨ps, e1, t⟩, n⟩ := R.tabs P hP
    have hne : P ≠ a := fun z => by rw [z, hH] at e1; exact hu ps (Option.some.inj e1)
    exact ⟨⟨ps, by rw [upd_ne hne]; exact e1, t⟩, n⟩
  · obtain ⟨h1, c1, h2⟩ := R.par q hq
    refine ⟨h1, ?_⟩
    by_cases hj : q.1 = i
    · rw [hj, List.getElem?_set_self hl]; exact ⟨_, rfl⟩
    · rw [nS _ hj]; exact ⟨c1, h2⟩
  · by_cases hj : j = i
    · rw [hj, List.getElem?_set_self hl] at h; cases h
    · rw [nS j hj] at h; exact R.val j d h
  · by_cases hj : j = i
    · rw [hj, List.getElem?_set_self hl] at h
      cases h
      exact ⟨a, o, by rw [hj]; exact hσ, hb, upd_same, hc, by rw [hj]; exact hfr⟩
    · rw [nS j hj] at h
      obtain ⟨x, y, e1, n1, h1, r⟩ := R.own j c1 h
      have hne : x ≠ a := fun z => R.sep j i c1 c x hj h hi e1 (by rw [hσ, z])
      exact ⟨x, y, e1, n1, by rw [upd_ne hne]; exact h1, r⟩
  · obtain ⟨d1, g1⟩ := inS h1
    obtain ⟨d2, g2⟩ := inS h2
    exact R.sep j k d1 d2 x hjk g1 g2 h3
/-- an own cell's content is fixed: its name now has a value -/
theorem Rep.freeze (R : Rep E B H σ S) {i : Nat} {ds : List D} (hi : S[i]? = some (Slot.own (.lst ds))) (hp : ∀ q ∈ E.pa, q.1 ≠ i) :
    ∃ a vs, σ[i]? = some (some (V.ref a)) ∧ H a = some (.lst vs) ∧ DpAll E.K B vs ds ∧ B a = none ∧ Rep E (upd B a (.lst vs)) H σ (S.set i (Slot.val (.list ds))) := by
  obtain ⟨a, o, e, hb, hH, ⟨vs, rfl, r⟩, hor⟩ := R.own i _ hi
  have hl : i < S.length := (List.getElem?_eq_some_iff.mp hi).1
  have sB : Same B (upd B a (.lst vs)) := same_upd hb
  refine ⟨a, vs, e, hH, r, hb, ?_⟩
  have nS : ∀ (j : Nat), j ≠ i → (S.set i (Slot.val (.list ds)))[j]? = S[j]? := fun (j : Nat) h => List.getElem?_set_ne (Ne.symm h)
  have oi : ∀ {j : Nat} {c}, (S.set i (Slot.val (.list ds)))[j]? = some (Slot.own c) → j ≠ i ∧ S[j]? = some (Slot.own c) := fun {j : Nat} {c} h => by
    by_cases hj : j = i
    · rw [hj, List.getElem?_set_self hl] at h; cases h
    · rw [nS j hj] at h; exact ⟨hj, h⟩
  have h0a : E.H0 a = none := hor.elim id fun z => absurd rfl (hp _ z)
  have ne0 : ∀ q, E.H0 q ≠ none → q ≠ a := fun q h z => h (by rw [z]; exact h0a)
  refine ⟨R.base.trans sB, fun b x e1 => ?_, fun q h nt => ?_, R.frame, R.keep, fun P hP => ?_, fun q hq => ?_, by simp [R.len], fun j d h => ?_, fun j c h => ?_, fun j k c c' x hjk h1 h2 => ?_⟩
  · by_cases hb2 : b = a
    · rw [hb2, upd_same] at e1; rw [hb2, ← e1]; exact hH
    · rw [upd_ne hb2] at e1; exact R.sub _ _ e1
  · rw [upd_ne (ne0 q h)]; exact R.new q h nt
  · obtain ⟨⟨ps, e1, t⟩, n⟩ := R.tabs P hP
    have hne : P ≠ a := fun z => by rw [z, hH] at e1; cases e1
    exact ⟨⟨ps, e1, t⟩, by rw [upd_ne hne]; exact n⟩
  · obtain ⟨h1, c, h2⟩ := R.par q hq
    exact ⟨h1, c, by rw [nS _ (hp q hq)]; exact h2⟩
  · by_cases hj : j = i
    · rw [hj, List.getElem?_set_self hl] at h
      cases h
      exact ⟨_, by rw [hj]; exact e, .lst (.inl (.inl upd_same)) (dpAll_mono sB r)⟩
    · rw [nS j hj] at h
      obtain ⟨u, e1, r1⟩ := R.val j d h
      exact ⟨u, e1, dp_mono sB r1⟩
  · obtain ⟨hj, h⟩ := oi h
    obtain ⟨x, y, e1, n1, h1, r1⟩ := R.own j c h
    have hne : x ≠ a := fun z => R.sep j i c _ x hj h hi e1 (by rw [e, z])
    exact ⟨x, y, e1, by rw [upd_ne hne]; exact n1, h1, cellR_mono sB r1.1, r1.2⟩
  · obtain ⟨hj, h1⟩ := oi h1
    obtain ⟨hk, h2⟩ := oi h2
    exact R.sep j k c c' x hjk h1 h2
end

/-! ### readings by functions of the slots -/
abbrev DX := SS → Option (D × SS)
abbrev DA := SS → Option (List D × SS)
abbrev DT := SS → Option (Bool × SS)
def up (E : En) (f : DX) : TE := fun σ H Q => ∃ B S d S', Rep E B H σ S ∧ f S = some (d, S') ∧ ∀ v B' H', Same B B' → Rep E B' H' σ S' → Dp E.K B' v d → Q v H'
def upT (E : En) (f : DT) : TT := fun σ H Q => ∃ B S d S', Rep E B H σ S ∧ f S = some (d, S') ∧ ∀ B' H', Same B B' → Rep E B' H' σ S' → Q d H'
def upA (E : En) (f : DA) : TA := fun σ H Q => ∃ B S d S', Rep E B H σ S ∧ f S = some (d, S') ∧ ∀ vs B' H', Same B B' → Rep E B' H' σ S' → DpAll E.K B' vs d → Q vs H'
/-- an expression that makes a new list -/
def upL (E : En) (f : DA) : TE := fun σ H Q => ∃ B S ds S', Rep E B H σ S ∧ f S = some (ds, S') ∧ ∀ a vs B' H', Same B B' → Rep E B' H' σ S' → H' a = some (.lst vs) → B' a = none → E.H0 a = none → (∀ (i : Nat) c, S'[i]? = some (Slot.own c) → σ[i]? ≠ some (some (V.ref a))) → DpAll E.K B' vs ds → Q (V.ref a) H'
inductive Res where
  | nx (S : SS) | rt (d : D) (S : SS) | bk (S : SS) | ct (S : SS)
abbrev SX := SS → Option Res
def upS (E : En) (f : SX) : TS := fun G σ H => ∃ B S r, Rep E B H σ S ∧ f S = some r ∧ match r with
  | .nx S' => ∀ σ' B' H', Same B B' → Rep E B' H' σ' S' → G.nx σ' H'
  | .rt d S' => ∀ v σ' B' H', Same B B' → Rep E B' H' σ' S' → Dp E.K B' v d → G.rt v H'
  | .bk S' => ∀ σ' B' H', Same B B' → Rep E B' H' σ' S' → G.bk σ' H'
  | .ct S' => ∀ σ' B' H', Same B B' → Rep E B' H' σ' S' → G.ct σ' H'
theorem PE.imp {X : Cx} {e : Expr} {t t' : TE} (h : PE X e t) (i : ∀ σ H Q, t' σ H Q → t σ H Q) : PE X e t' := ⟨fun pins s σ H Q I q => h.run pins s σ H Q I (i σ H Q q)⟩
theorem PT.imp {X : Cx} {e : Expr} {t t' : TT} (h : PT X e t) (i : ∀ σ H Q, t' σ H Q → t σ H Q) : PT X e t' := ⟨fun pins s σ H Q I q => h.run pins s σ H Q I (i σ H Q q)⟩
theorem PA.imp {X : Cx} {e : List Expr} {t t' : TA} (h : PA X e t) (i : ∀ σ H Q, t' σ H Q → t σ H Q) : PA X e t' := ⟨fun pos pins s σ H Q I q => h.run pos pins s σ H Q I (i σ H Q q)⟩
theorem PS.imp {X : Cx} {e : Stmt} {t t' : TS} (h : PS X e t) (i : ∀ σ H Q, t' Q σ H → t Q σ H) : PS X e t' := ⟨fun pins s σ H Q I q => h.run pins s σ H Q I (i σ H Q q)⟩
theorem PSs.imp {X : Cx} {e : List Stmt} {t t' : TS} (h : PSs X e t) (i : ∀ σ H Q, t' Q σ H → t Q σ H) : PSs X e t' := ⟨fun pins s σ H Q I q => h.run pins s σ H Q I (i σ H Q q)⟩

section
variable {X : Cx} {E : En} {a b c : Expr} {fa fb fc : DX} {pos : Pos}

/-! ### names and constants -/
def xC (d : D) : DX := fun S => some (d, S)
def xV (i : Nat) : DX := fun S => match S[i]? with | some (Slot.val d) => some (d, S) | _ => none
theorem d_int {i j} : PE X (.Constant (.int i) j pos) (up E (xC (.int i))) := PE.imp pe_int fun σ H Q ⟨B, S, d, S', R, e, k⟩ => by
  cases e
  exact k _ B H (Same.refl B) R (.int i)
theorem d_bl {i j} : PE X (.Constant (.bool i) j pos) (up E (xC (.bool i))) := PE.imp pe_bl fun σ H Q ⟨B, S, d, S', R, e, k⟩ => by
  cases e
  exact k _ B H (Same.refl B) R (.bl i)
theorem d_str {i j} : PE X (.Constant (.str i) j pos) (up E (xC (.str i))) := PE.imp pe_str fun σ H Q ⟨B, S, d, S', R, e, k⟩ => by
  cases e
  exact k _ B H (Same.refl B) R (.str i)
theorem d_non {j} : PE X (.Constant .none j pos) (up E (xC .none)) := PE.imp pe_non fun σ H Q ⟨B, S, d, S', R, e, k⟩ => by
  cases e
  exact k _ B H (Same.refl B) R .non
theorem d_var {e : Expr} {i : Nat} (h : PE X e (tVar i)) : PE X e (up E (xV i)) := PE.imp h fun σ H Q ⟨B, S, d, S', R, e, k⟩ => by
  unfold xV at e
  split at e
  · rename_i d' hd
    cases e
    obtain ⟨v, hv, r⟩ := R.val i _ hd
    exact ⟨v, hv, k v B H (Same.refl B) R r⟩
  · cases e
/-- a name's own list is read off: from now on it is a value -/
def xF (i : Nat) : DX := fun S => match S[i]? with | some (Slot.val d) => some (d, S) | some (Slot.own (.lst ds)) => some (.list ds, S.set i (Slot.val (.list ds))) | _ => none
/-! ### two-place operations -/
def x2 (g : D → D → Option D) (fa fb : DX) : DX := fun S => (fa S).bind fun p => (fb p.2).bind fun q => (g p.1 q.1).map fun z => (z, q.2)
/-- an operation on values over data -/
def OpD (X : Cx) (E : En) (f : Value → Value → Sem Value) (g : D → D → Option D) : Prop :=
  ∀ (σ : L2.St) (S : SS) (B H : Hp) (x y : V) (d e z : D) (Q : VK), Rep E B H σ S → Dp E.K B x d → Dp E.K B y e → g d e = some z → (∀ v B' H', Same B B' → Rep E B' H' σ S → Dp E.K B' v z → Q v H') →
    ∃ r, OpR X f r ∧ r x y H Q
theorem d_op {op : Operator} {g : D → D → Option D} (ho : OpD X E (binaryOp op) g) (ha : PE X a (up E fa)) (hb : PE X b (up E fb)) : PE X (.BinOp a op b pos) (up E (x2 g fa fb)) := by
  refine ⟨fun pins s σ H Q I ⟨B, S, d, S', R, e, k⟩ => ?_⟩
  unfold x2 at e
  simp only [Option.bind_eq_some_iff, Option.map_eq_some_iff] at e
  obtain ⟨⟨d1, S1⟩, e1, ⟨d2, S2⟩, e2, z, e3, e4⟩ := e
  cases e4
  refine wpAny_BinOp (binT ha hb (R := fun x y H2 => ∃ B2, Same B B2 ∧ Rep E B2 H2 σ S2 ∧ Dp E.K B2 x d1 ∧ Dp E.K B2 y d2) I ?_ fun v u s2 x y H2 I2 rx ry ⟨B2, hS, R2, dx, dy⟩ => ?_)
  · exact ⟨B, S, d1, S1, R, e1, fun x B1 H1 s1 R1 dx => ⟨B1, S1, d2, S2, R1, e2, fun y B2 H2 s2 R2 dy => ⟨B2, s1.trans s2, R2, dp_mono s2 dx, dy⟩⟩⟩
  · obtain ⟨r, hr, q⟩ := ho σ S2 B2 H2 x y d1 d2 d Q R2 dx dy e3 fun v B' H' s' R' dv => k v B' H' (hS.trans s') R' dv
    exact hr pins s2 σ H2 x y v u Q I2 rx ry q
theorem d_cmp {op : CmpOp} {g : D → D → Option D} (ho : OpD X E (compareOp op) g) (ha : PE X a (up E fa)) (hb : PE X b (up E fb)) (hm : behindInMarks op b = false) : PE X (.Compare a [op] [b] pos) (up E (x2 g fa fb)) := by
  refine ⟨fun pins s σ H Q I ⟨B, S, d, S', R, e, k⟩ => ?_⟩
  unfold x2 at e
  simp only [Option.bind_eq_some_iff, Option.map_eq_some_iff] at e
  obtain ⟨⟨d1, S1⟩, e1, ⟨d2, S2⟩, e2, z, e3, e4⟩ := e
  cases e4
  refine wpAny_Compare1 (binT ha hb (R := fun x y H2 => ∃ B2, Same B B2 ∧ Rep E B2 H2 σ S2 ∧ Dp E.K B2 x d1 ∧ Dp E.K B2 y d2) I ?_ fun v u s2 x y H2 I2 rx ry ⟨B2, hS, R2, dx, dy⟩ => ?_) hm
  · exact ⟨B, S, d1, S1, R, e1, fun x B1 H1 s1 R1 dx => ⟨B1, S1, d2, S2, R1, e2, fun y B2 H2 s2 R2 dy => ⟨B2, s1.trans s2, R2, dp_mono s2 dx, dy⟩⟩⟩
  · obtain ⟨r, hr, q⟩ := ho σ S2 B2 H2 x y d1 d2 d Q R2 dx dy e3 fun v B' H' s' R' dv => k v B' H' (hS.trans s') R' dv
    exact hr pins s2 σ H2 x y v u Q I2 rx ry q
end
end BC
set_option Elab.async false
set_option linter.all false
set_option maxRecDepth 100000
set_option maxHeartbeats 2000000
namespace BC
open PySem PySem.Spec PyProof.Rows L2 GxR

section
variable {X : Cx} {E : En} {a b c : Expr} {fa fb fc : DX} {pos : Pos}
def rAny (X : Cx) (f : Value → Value → Sem Value) : R2 := fun x y H Q => ∃ r, OpR X f r ∧ r x y H Q
theorem opR_any {f : Value → Value → Sem Value} : OpR X f (rAny X f) := fun pins s σ H x y v u Q I rx ry ⟨r, hr, q⟩ => hr pins s σ H x y v u Q I rx ry q
theorem up2 {f : Value → Value → Sem Value} {g : D → D → Option D} (ho : OpD X E f g) {σ : L2.St} {H : Hp} {Q : VK} (h : up E (x2 g fa fb) σ H Q) : tOp (rAny X f) (up E fa) (up E fb) σ H Q := by
  obtain ⟨B, S, d, S', R, e, k⟩ := h
  unfold x2 at e
  simp only [Option.bind_eq_some_iff, Option.map_eq_some_iff] at e
  obtain ⟨⟨d1, S1⟩, e1, ⟨d2, S2⟩, e2, z, e3, e4⟩ := e
  cases e4
  exact ⟨B, S, d1, S1, R, e1, fun x B1 H1 s1 R1 dx => ⟨B1, S1, d2, S2, R1, e2, fun y B2 H2 s2 R2 dy =>
    ho σ S2 B2 H2 x y d1 d2 d Q R2 (dp_mono s2 dx) dy e3 fun v B' H' s' R' dv => k v B' H' ((s1.trans s2).trans s') R' dv⟩⟩
def xT (f : DX) : DT := fun S => (f S).bind fun p => match p.1 with | .bool b => some (b, p.2) | _ => none
theorem upT_up {f : DX} {σ : L2.St} {H : Hp} {Q : Bool → Hp → Prop} (h : upT E (xT f) σ H Q) : up E f σ H fun x H' => ∃ k, x = .bl k ∧ Q k H' := by
  obtain ⟨B, S, d, S', R, e, k⟩ := h
  unfold xT at e
  simp only [Option.bind_eq_some_iff] at e
  obtain ⟨⟨d1, S1⟩, e1, e2⟩ := e
  cases d1 <;> simp at e2
  obtain ⟨rfl, rfl⟩ := e2
  exact ⟨B, S, _, _, R, e1, fun v B' H' s' R' dv => by cases dv; exact ⟨_, rfl, k B' H' s' R'⟩⟩
theorem t_cmp {op : CmpOp} {g : D → D → Option D} (ho : OpD X E (compareOp op) g) (ha : PE X a (up E fa)) (hb : PE X b (up E fb)) (hm : behindInMarks op b = false) : PT X (.Compare a [op] [b] pos) (upT E (xT (x2 g fa fb))) :=
  PT.imp (pt_cmpR opR_any ha hb hm) fun σ H Q h => up2 ho (upT_up h)
/-- any expression as a test: a name, a call -/
theorem t_val {e : Expr} {f : DX} (h : PE X e (up E f)) (he : ∀ whole, isTrue e X.env whole = (do let v ← whole; standAt e.pos; holding [v] (truthy v)) := by intro _; rfl) : PT X e (upT E (xT f)) :=
  PT.imp (pt_val h he) fun σ H Q h => upT_up h
/-! ### chains -/
def xCh (g g' : D → D → Option D) (fa fb fc : DX) : DX := fun S => (fa S).bind fun p => (fb p.2).bind fun q => (g p.1 q.1).bind fun z => match z with
  | .bool true => (fc q.2).bind fun r => (g' q.1 r.1).map fun y => (y, r.2)
  | .bool false => some (.bool false, q.2)
  | _ => none
theorem upCh {f f' : Value → Value → Sem Value} {g g' : D → D → Option D} (ho : OpD X E f g) (ho' : OpD X E f' g') {σ : L2.St} {H : Hp} {Q : VK} (h : up E (xCh g g' fa fb fc) σ H Q) : tChain (rAny X f) (rAny X f') (up E fa) (up E fb) (up E fc) σ H Q := by
  obtain ⟨B, S, d, S', R, e, k⟩ := h
  unfold xCh at e
  simp only [Option.bind_eq_some_iff] at e
  obtain ⟨⟨d1, S1⟩, e1, ⟨d2, S2⟩, e2, z, e3, e4⟩ := e
  refine ⟨B, S, d1, S1, R, e1, fun x B1 H1 s1 R1 dx => ⟨B1, S1, d2, S2, R1, e2, fun y B2 H2 s2 R2 dy => ?_⟩⟩
  refine ho σ S2 B2 H2 x y d1 d2 z _ R2 (dp_mono s2 dx) dy e3 fun v B3 H3 s3 R3 dv => ?_
  cases z <;> (try (simp at e4; done))
  rename_i bb
  cases dv
  refine ⟨bb, rfl, ?_⟩
  cases bb with
  | false =>
    simp at e4
    obtain ⟨rfl, rfl⟩ := e4
    exact iteF (k _ B3 H3 ((s1.trans s2).trans s3) R3 (.bl false))
  | true =>
    simp only [Option.bind_eq_some_iff, Option.map_eq_some_iff] at e4
    obtain ⟨⟨d3, S3⟩, e5, z', e6, e7⟩ := e4
    cases e7
    exact iteT ⟨B3, S2, d3, S3, R3, e5, fun w B4 H4 s4 R4 dw => ho' σ S3 B4 H4 y w d2 d3 d Q R4 (dp_mono (s3.trans s4) dy) dw e6 fun v B' H' s' R' dv => k v B' H' ((((s1.trans s2).trans s3).trans s4).trans s') R' dv⟩
theorem d_chain {op op' : CmpOp} {g g' : D → D → Option D} (ho : OpD X E (compareOp op) g) (ho' : OpD X E (compareOp op') g') (ha : PE X a (up E fa)) (hb : PE X b (up E fb)) (hc : PE X c (up E fc))
    (hm : lastMarks [op, op'] [b, c] = false := by with_unfolding_all rfl) : PE X (.Compare a [op, op'] [b, c] pos) (up E (xCh g g' fa fb fc)) :=
  PE.imp (pe_chain opR_any opR_any ha hb hc hm) fun σ H Q h => upCh ho ho' h
theorem t_chain {op op' : CmpOp} {g g' : D → D → Option D} (ho : OpD X E (compareOp op) g) (ho' : OpD X E (compareOp op') g') (ha : PE X a (up E fa)) (hb : PE X b (up E fb)) (hc : PE X c (up E fc))
    (hm : lastMarks [op, op'] [b, c] = false := by with_unfolding_all rfl) : PT X (.Compare a [op, op'] [b, c] pos) (upT E (xT (xCh g g' fa fb fc))) :=
  PT.imp (pt_chain opR_any opR_any ha hb hc hm) fun σ H Q h => upCh ho ho' (upT_up h)
/-! ### and, or, not, if else -/
def xAnd (fa fb : DX) : DX := fun S => (fa S).bind fun p => match p.1 with | .bool true => fb p.2 | .bool false => some (.bool false, p.2) | _ => none
def xOr (fa fb : DX) : DX := fun S => (fa S).bind fun p => match p.1 with | .bool false => fb p.2 | .bool true => some (.bool true, p.2) | _ => none
def xNot (fa : DX) : DX := fun S => (fa S).bind fun p => match p.1 with | .bool b => some (.bool (!b), p.2) | _ => none
theorem d_and {rest : List Expr} (ha : PE X a (up E fa)) (hb : PE X (.BoolOp .And (b :: rest) pos) (up E fb)) : PE X (.BoolOp .And (a :: b :: rest) pos) (up E (xAnd fa fb)) :=
  PE.imp (pe_and ha hb) fun σ H Q ⟨B, S, d, S', R, e, k⟩ => by
    unfold xAnd at e
    simp only [Option.bind_eq_some_iff] at e
    obtain ⟨⟨d1, S1⟩, e1, e2⟩ := e
    refine ⟨B, S, d1, S1, R, e1, fun x B1 H1 s1 R1 dx => ?_⟩
    cases d1 <;> (try (simp at e2; done))
    rename_i bb
    cases dx
    refine ⟨bb, rfl, ?_⟩
    cases bb with
    | false => cases e2; exact iteF (k _ B1 H1 s1 R1 (.bl false))
    | true => exact iteT ⟨B1, S1, d, S', R1, e2, fun v B' H' s' R' dv => k v B' H' (s1.trans s') R' dv⟩
theorem d_or {rest : List Expr} (ha : PE X a (up E fa)) (hb : PE X (.BoolOp .Or (b :: rest) pos) (up E fb)) : PE X (.BoolOp .Or (a :: b :: rest) pos) (up E (xOr fa fb)) :=
  PE.imp (pe_or ha hb) fun σ H Q ⟨B, S, d, S', R, e, k⟩ => by
    unfold xOr at e
    simp only [Option.bind_eq_some_iff] at e
    obtain ⟨⟨d1, S1⟩, e1, e2⟩ := e
    refine ⟨B, S, d1, S1, R, e1, fun x B1 H1 s1 R1 dx => ?_⟩
    cases d1 <;> (try (simp at e2; done))
    rename_i bb
    cases dx
    refine ⟨bb, rfl, ?_⟩
    cases bb with
    | true => cases e2; exact iteT (k _ B1 H1 s1 R1 (.bl true))
    | false => exact iteF ⟨B1, S1, d, S', R1, e2, fun v B' H' s' R' dv => k v B' H' (s1.trans s') R' dv⟩
theorem d_one {op} (ha : PE X a (up E fa)) : PE X (.BoolOp op [a] pos) (up E fa) := pe_one ha
theorem d_not (ha : PE X a (up E fa)) : PE X (.UnaryOp .Not a pos) (up E (xNot fa)) :=
  PE.imp (pe_not ha) fun σ H Q ⟨B, S, d, S', R, e, k⟩ => by
    unfold xNot at e
    simp only [Option.bind_eq_some_iff] at e
    obtain ⟨⟨d1, S1⟩, e1, e2⟩ := e
    refine ⟨B, S, d1, S1, R, e1, fun x B1 H1 s1 R1 dx => ?_⟩
    cases d1 <;> (try (simp at e2; done))
    cases dx
    cases e2
    exact ⟨_, rfl, k _ B1 H1 s1 R1 (.bl _)⟩
def yAnd (ta tb : DT) : DT := fun S => (ta S).bind fun p => if p.1 = true then tb p.2 else some (false, p.2)
def yOr (ta tb : DT) : DT := fun S => (ta S).bind fun p => if p.1 = true then some (true, p.2) else tb p.2
def yNot (ta : DT) : DT := fun S => (ta S).map fun p => (!p.1, p.2)
variable {ya yb : DT}
theorem w_and {rest : List Expr} (ha : PT X a (upT E ya)) (hb : PW X (.BoolOp .And (b :: rest) pos) (upT E yb)) : PW X (.BoolOp .And (a :: b :: rest) pos) (upT E (yAnd ya yb)) :=
  ⟨fun wh pins s σ H Q I ⟨B, S, d, S', R, e, k⟩ => (pw_and ha hb).run wh pins s σ H Q I (by
    unfold yAnd at e
    simp only [Option.bind_eq_some_iff] at e
    obtain ⟨⟨d1, S1⟩, e1, e2⟩ := e
    refine ⟨B, S, d1, S1, R, e1, fun B1 H1 s1 R1 => ?_⟩
    cases d1 with
    | false => simp at e2; obtain ⟨rfl, rfl⟩ := e2; exact iteF (k B1 H1 s1 R1)
    | true => simp at e2; exact iteT ⟨B1, S1, d, S', R1, e2, fun B' H' s' R' => k B' H' (s1.trans s') R'⟩)⟩
theorem w_or {rest : List Expr} (ha : PT X a (upT E ya)) (hb : PW X (.BoolOp .Or (b :: rest) pos) (upT E yb)) : PW X (.BoolOp .Or (a :: b :: rest) pos) (upT E (yOr ya yb)) :=
  ⟨fun wh pins s σ H Q I ⟨B, S, d, S', R, e, k⟩ => (pw_or ha hb).run wh pins s σ H Q I (by
    unfold yOr at e
    simp only [Option.bind_eq_some_iff] at e
    obtain ⟨⟨d1, S1⟩, e1, e2⟩ := e
    refine ⟨B, S, d1, S1, R, e1, fun B1 H1 s1 R1 => ?_⟩
    cases d1 with
    | true => simp at e2; obtain ⟨rfl, rfl⟩ := e2; exact iteT (k B1 H1 s1 R1)
    | false => simp at e2; exact iteF ⟨B1, S1, d, S', R1, e2, fun B' H' s' R' => k B' H' (s1.trans s') R'⟩)⟩
theorem w_and1 (ha : PT X a (upT E ya)) : PW X (.BoolOp .And [a] pos) (upT E ya) := pw_and1 ha
theorem w_or1 (ha : PT X a (upT E ya)) : PW X (.BoolOp .Or [a] pos) (upT E ya) := pw_or1 ha
theorem t_not (ha : PT X a (upT E ya)) : PT X (.UnaryOp .Not a pos) (upT E (yNot ya)) :=
  PT.imp (pt_not ha) fun σ H Q ⟨B, S, d, S', R, e, k⟩ => by
    unfold yNot at e
    simp only [Option.map_eq_some_iff] at e
    obtain ⟨⟨d1, S1⟩, e1, e2⟩ := e
    cases e2
    exact ⟨B, S, d1, _, R, e1, fun B1 H1 s1 R1 => k B1 H1 s1 R1⟩
def xIf (y : DT) (fa fb : DX) : DX := fun S => (y S).bind fun p => if p.1 = true then fa p.2 else fb p.2
theorem d_if (hc : PT X c (upT E ya)) (ha : PE X a (up E fa)) (hb : PE X b (up E fb)) : PE X (.IfExp c a b pos) (up E (xIf ya fa fb)) :=
  PE.imp (pe_ifExp hc ha hb) fun σ H Q ⟨B, S, d, S', R, e, k⟩ => by
    unfold xIf at e
    simp only [Option.bind_eq_some_iff] at e
    obtain ⟨⟨d1, S1⟩, e1, e2⟩ := e
    refine ⟨B, S, d1, S1, R, e1, fun B1 H1 s1 R1 => ?_⟩
    cases d1 with
    | false => exact iteF ⟨B1, S1, d, S', R1, by simpa using e2, fun v B' H' s' R' dv => k v B' H' (s1.trans s') R' dv⟩
    | true => exact iteT ⟨B1, S1, d, S', R1, by simpa using e2, fun v B' H' s' R' dv => k v B' H' (s1.trans s') R' dv⟩
/-! ### one-place -/
def x1 (g : D → Option D) (fa : DX) : DX := fun S => (fa S).bind fun p => (g p.1).map fun z => (z, p.2)
def gNeg : D → Option D
  | .int i => some (.int (-i))
  | _ => none
theorem d_neg (ha : PE X a (up E fa)) : PE X (.UnaryOp .USub a pos) (up E (x1 gNeg fa)) :=
  PE.imp (pe_un un_neg ha) fun σ H Q ⟨B, S, d, S', R, e, k⟩ => by
    unfold x1 at e
    simp only [Option.bind_eq_some_iff, Option.map_eq_some_iff] at e
    obtain ⟨⟨d1, S1⟩, e1, z, e2, e3⟩ := e
    cases e3
    refine ⟨B, S, d1, _, R, e1, fun x B1 H1 s1 R1 dx => ?_⟩
    cases d1 <;> (try (simp [gNeg] at e2; done))
    cases dx
    cases e2
    exact ⟨_, rfl, k _ B1 H1 s1 R1 (.int _)⟩
/-! ### operators on data -/
def gAdd : D → D → Option D
  | .int i, .int j => some (.int (i + j))
  | .tuple xs, .tuple ys => if xs.length + ys.length ≤ 100000 then some (.tuple (xs ++ ys)) else none
  | _, _ => none
theorem line_le {n : Nat} (h : n ≤ 100000) : n ≤ sizeLine := Nat.le_trans h (by decide)
theorem line_lt {n : Nat} (h : n ≤ 100000) : n < sizeLine := Nat.lt_of_le_of_lt h (by decide)
theorem ntTup {xs : List V} : NoTbl (.tup xs) := fun _ z => by cases z
theorem ntLst {xs : List V} : NoTbl (.lst xs) := fun _ z => by cases z
variable {σ : L2.St} {S : SS} {B H : Hp}
theorem new_tup {p : Addr} {vs : List V} {ds : List D} (R : Rep E B H σ S) (hp : H p = none) (h : DpAll E.K B vs ds) :
    Same B (upd B p (.tup vs)) ∧ Rep E (upd B p (.tup vs)) (upd H p (.tup vs)) σ S ∧ Dp E.K (upd B p (.tup vs)) (.ref p) (.tuple ds) :=
  have s := same_upd (R.sub.free hp)
  ⟨s, R.laid hp ntTup, .tup upd_same (dpAll_mono s h)⟩
theorem new_lst {p : Addr} {vs : List V} {ds : List D} (R : Rep E B H σ S) (hp : H p = none) (h : DpAll E.K B vs ds) :
    Same B (upd B p (.lst vs)) ∧ Rep E (upd B p (.lst vs)) (upd H p (.lst vs)) σ S ∧ Dp E.K (upd B p (.lst vs)) (.ref p) (.list ds) :=
  have s := same_upd (R.sub.free hp)
  ⟨s, R.laid hp ntLst, .lst (.inl (.inl upd_same)) (dpAll_mono s h)⟩
theorem o_add (hK : X.K = E.K) : OpD X E (binaryOp .Add) gAdd := by
  intro σ S B H x y d e z Q R dx dy hz k
  cases dx with
  | int i =>
    cases dy with
    | int j => cases hz; exact ⟨_, op_add, i, j, rfl, rfl, k _ B H (Same.refl B) R (.int _)⟩
    | _ => simp [gAdd] at hz
  | @tup a1 xs ds h1 r1 =>
    cases dy with
    | @tup a2 ys es h2 r2 =>
      unfold gAdd at hz
      simp only at hz
      split at hz
      · rename_i hl
        cases hz
        have l1 := dpAll_len r1
        have l2 := dpAll_len r2
        refine ⟨_, op_catA, a1, a2, xs, ys, rfl, rfl, by rw [hK]; exact same_seqT R.sub h1, by rw [hK]; exact same_seqT R.sub h2, by rw [l1, l2]; exact line_le hl, fun e => ?_, fun e1 e => ?_, fun e1 e2 p hp => ?_⟩
        · subst e
          cases r1
          exact k _ B H (Same.refl B) R (.tup h2 r2)
        · subst e
          cases r2
          rw [List.append_nil] at k
          exact k _ B H (Same.refl B) R (.tup h1 r1)
        · obtain ⟨s1, R1, d1⟩ := new_tup R hp (dpAll_app r1 r2)
          exact k _ _ _ s1 R1 d1
      · cases hz
    | _ => simp [gAdd] at hz
  | _ => simp [gAdd] at hz
def gSub : D → D → Option D
  | .int i, .int j => some (.int (i - j))
  | _, _ => none
def gMul : D → D → Option D
  | .int i, .int j => if (-(2 ^ 64) < i ∧ i < 2 ^ 64) ∨ (-(2 ^ 64) < j ∧ j < 2 ^ 64) then some (.int (i * j)) else none
  | .tuple xs, .int k => if xs ≠ [] ∧ 2 ≤ k ∧ k ≤ 1000 ∧ xs.length ≤ 1000 then some (.tuple (List.replicate k.toNat xs).flatten) else none
  | _, _ => none
def gDiv : D → D → Option D
  | .int i, .int j => if 0 < j ∧ j < 1073741824 then some (.int (i / j)) else none
  | _, _ => none
def gMod : D → D → Option D
  | .int i, .int j => if 0 < j then some (.int (i % j)) else none
  | _, _ => none
def gPow : D → D → Option D
  | .int i, .int j => if 0 ≤ j ∧ j ≤ 1000000 ∧ i.natAbs < 2 ^ 64 then some (.int (i ^ j.toNat)) else none
  | _, _ => none
theorem o_sub : OpD X E (binaryOp .Sub) gSub := by
  intro σ S B H x y d e z Q R dx dy hz k
  cases dx <;> cases dy <;> (try (simp [gSub] at hz; done))
  rename_i i j
  cases hz
  exact ⟨_, op_sub, i, j, rfl, rfl, k _ B H (Same.refl B) R (.int _)⟩
theorem o_div : OpD X E (binaryOp .FloorDiv) gDiv := by
  intro σ S B H x y d e z Q R dx dy hz k
  cases dx <;> cases dy <;> (try (simp [gDiv] at hz; done))
  rename_i i j
  unfold gDiv at hz
  simp only at hz
  split at hz
  · rename_i h
    cases hz
    exact ⟨_, op_fdiv, i, j, rfl, rfl, h, k _ B H (Same.refl B) R (.int _)⟩
  · cases hz
theorem o_mod : OpD X E (binaryOp .Mod) gMod := by
  intro σ S B H x y d e z Q R dx dy hz k
  cases dx <;> cases dy <;> (try (simp [gMod] at hz; done))
  rename_i i j
  unfold gMod at hz
  simp only at hz
  split at hz
  · rename_i h
    cases hz
    exact ⟨_, op_mod, i, j, rfl, rfl, h, k _ B H (Same.refl B) R (.int _)⟩
  · cases hz
theorem o_pow : OpD X E (binaryOp .Pow) gPow := by
  intro σ S B H x y d e z Q R dx dy hz k
  cases dx <;> cases dy <;> (try (simp [gPow] at hz; done))
  rename_i i j
  unfold gPow at hz
  simp only at hz
  split at hz
  · rename_i h
    cases hz
    exact ⟨_, op_pow, i, j, rfl, rfl, h, k _ B H (Same.refl B) R (.int _)⟩
  · cases hz
theorem dpAll_rep {K : PySem.W.Frag} {vs : List V} {ds : List D} (h : DpAll K B vs ds) : ∀ n : Nat, DpAll K B (List.replicate n vs).flatten (List.replicate n ds).flatten
  | 0 => .nil
  | n + 1 => by
    rw [List.replicate_succ, List.replicate_succ, List.flatten_cons, List.flatten_cons]
    exact dpAll_app h (dpAll_rep h n)
theorem o_mul (hK : X.K = E.K) : OpD X E (binaryOp .Mult) gMul := by
  intro σ S B H x y d e z Q R dx dy hz k
  cases dx with
  | int i =>
    cases dy with
    | int j =>
      unfold gMul at hz
      simp only at hz
      split at hz
      · rename_i h
        cases hz
        exact ⟨_, op_mul, i, j, rfl, rfl, h, k _ B H (Same.refl B) R (.int _)⟩
      · cases hz
    | _ => simp [gMul] at hz
  | @tup a1 xs ds h1 r1 =>
    cases dy with
    | int j =>
      unfold gMul at hz
      simp only at hz
      split at hz
      · rename_i h
        cases hz
        have l1 := dpAll_len r1
        refine ⟨_, op_repT, a1, j, xs, rfl, rfl, by rw [hK]; exact same_seqT R.sub h1, fun e => h.1 (List.eq_nil_of_length_eq_zero (by rw [← l1, e]; rfl)), h.2.1, h.2.2.1, by rw [l1]; exact h.2.2.2, fun p hp => ?_⟩
        obtain ⟨s1, R1, d1⟩ := new_tup R hp (dpAll_rep r1 j.toNat)
        exact k _ _ _ s1 R1 d1
      · cases hz
    | _ => simp [gMul] at hz
  | _ => simp [gMul] at hz
/-! comparisons -/
def gI (p : Int → Int → Bool) : D → D → Option D
  | .int i, .int j => some (.bool (p i j))
  | _, _ => none
abbrev gLt := gI fun i j => decide (i < j)
abbrev gLe := gI fun i j => decide (i ≤ j)
abbrev gGt := gI fun i j => decide (j < i)
abbrev gGe := gI fun i j => decide (j ≤ i)
theorem o_I {op : CmpOp} {p : Int → Int → Bool} (h : OpR X (compareOp op) (rI0 fun i j => .bl (p i j))) : OpD X E (compareOp op) (gI p) := by
  intro σ S B H x y d e z Q R dx dy hz k
  cases dx <;> cases dy <;> (try (simp [gI] at hz; done))
  rename_i i j
  cases hz
  exact ⟨_, h, i, j, rfl, rfl, k _ B H (Same.refl B) R (.bl _)⟩
theorem o_lt : OpD X E (compareOp .Lt) gLt := o_I op_lt
theorem o_le : OpD X E (compareOp .LtE) gLe := o_I op_le
theorem o_gt : OpD X E (compareOp .Gt) gGt := o_I op_gt
theorem o_ge : OpD X E (compareOp .GtE) gGe := o_I op_ge
/-- data that == may be asked of -/
def gEq : D → D → Option D := fun d e => if SeqAt.shaped d = true ∧ SeqAt.shaped e = true then some (.bool (PyData.eqv d e)) else none
def gNe : D → D → Option D := fun d e => if SeqAt.shaped d = true ∧ SeqAt.shaped e = true then some (.bool (!PyData.eqv d e)) else none
mutual
theorem dp_H {K : PySem.W.Frag} {B H : Hp} (e : Same B H) {v : V} {d : D} (h : Dp K B v d) : Dp K H v d := dp_mono e h
end
theorem o_eq (hK : X.K = E.K) (hu : X.A.units + 64 < cLine) : OpD X E (compareOp .Eq) gEq := by
  intro σ S B H x y d e z Q R dx dy hz k
  unfold gEq at hz
  split at hz
  · rename_i h
    cases hz
    exact ⟨_, op_eqD hu, d, e, by rw [hK]; exact dp_mono R.sub dx, by rw [hK]; exact dp_mono R.sub dy, h.1, h.2, k _ B H (Same.refl B) R (.bl _)⟩
  · cases hz
theorem o_ne (hK : X.K = E.K) (hu : X.A.units + 64 < cLine) : OpD X E (compareOp .NotEq) gNe := by
  intro σ S B H x y d e z Q R dx dy hz k
  unfold gNe at hz
  split at hz
  · rename_i h
    cases hz
    exact ⟨_, op_neD hu, d, e, by rw [hK]; exact dp_mono R.sub dx, by rw [hK]; exact dp_mono R.sub dy, h.1, h.2, k _ B H (Same.refl B) R (.bl _)⟩
  · cases hz
def isNo : D → Bool
  | .none => true
  | _ => false
def gIsN : D → D → Option D
  | d, .none => some (.bool (isNo d))
  | _, _ => none
def gNotN : D → D → Option D
  | d, .none => some (.bool (!isNo d))
  | _, _ => none
theorem dp_non {K : PySem.W.Frag} {x : V} {d : D} (h : Dp K B x d) : decide (x = .non) = isNo d := by
  cases h <;> rfl
theorem o_isN : OpD X E (compareOp .Is) gIsN := by
  intro σ S B H x y d e z Q R dx dy hz k
  cases dy <;> (try (simp [gIsN] at hz; done))
  cases hz
  exact ⟨_, op_isN, rfl, by rw [dp_non dx]; exact k _ B H (Same.refl B) R (.bl _)⟩
theorem o_notN : OpD X E (compareOp .IsNot) gNotN := by
  intro σ S B H x y d e z Q R dx dy hz k
  cases dy <;> (try (simp [gNotN] at hz; done))
  cases hz
  exact ⟨_, op_notN, rfl, by rw [dp_non dx]; exact k _ B H (Same.refl B) R (.bl _)⟩
end
end BC
set_option Elab.async false
set_option linter.all false
set_option maxRecDepth 100000
set_option maxHeartbeats 2000000
namespace BC
open PySem PySem.Spec PyProof.Rows L2 GxR
section
variable {X : Cx} {E : En} {a b c : Expr} {fa fb fc : DX} {pos : Pos} {σ : L2.St} {S : SS} {B H : Hp}
def gIs : D → D → Option D
  | d, .none => some (.bool (isNo d))
  | .bool i, .bool j => some (.bool (decide (i = j)))
  | _, _ => none
def gIsNot : D → D → Option D
  | d, .none => some (.bool (!isNo d))
  | .bool i, .bool j => some (.bool (!decide (i = j)))
  | _, _ => none
theorem o_is : OpD X E (compareOp .Is) gIs := by
  intro σ S B H x y d e z Q R dx dy hz k
  cases dy with
  | non =>
    have e : z = .bool (isNo d) := by
      cases d <;> (unfold gIs at hz; exact (Option.some.inj hz).symm)
    subst e
    exact ⟨_, op_isN, rfl, by rw [dp_non dx]; exact k _ B H (Same.refl B) R (.bl _)⟩
  | bl j =>
    cases dx <;> (try (simp [gIs] at hz; done))
    cases hz
    exact ⟨_, op_isBl, _, _, rfl, rfl, k _ B H (Same.refl B) R (.bl _)⟩
  | _ => cases d <;> simp [gIs] at hz
theorem o_isNot : OpD X E (compareOp .IsNot) gIsNot := by
  intro σ S B H x y d e z Q R dx dy hz k
  cases dy with
  | non =>
    have e : z = .bool (!isNo d) := by
      cases d <;> (unfold gIsNot at hz; exact (Option.some.inj hz).symm)
    subst e
    exact ⟨_, op_notN, rfl, by rw [dp_non dx]; exact k _ B H (Same.refl B) R (.bl _)⟩
  | bl j =>
    cases dx <;> (try (simp [gIsNot] at hz; done))
    cases hz
    exact ⟨_, op_notBl, _, _, rfl, rfl, k _ B H (Same.refl B) R (.bl _)⟩
  | _ => cases d <;> simp [gIsNot] at hz
/-! ### argument lists, displays -/
variable {e : Expr} {es : List Expr} {fe : DX} {fr : DA}
def yNil : DA := fun S => some ([], S)
def yCons (fe : DX) (fr : DA) : DA := fun S => (fe S).bind fun p => (fr p.2).map fun q => (p.1 :: q.1, q.2)
theorem d_nil : PA X [] (upA E yNil) := PA.imp pa_nil fun σ H Q ⟨B, S, d, S', R, e, k⟩ => by
  cases e
  exact k [] B H (Same.refl B) R .nil
theorem d_cons (ha : PE X e (up E fe)) (hr : PA X es (upA E fr)) (hs : starEach (e :: es) X.env = (false, eval e X.env) :: starEach es X.env := by rfl) : PA X (e :: es) (upA E (yCons fe fr)) :=
  PA.imp (pa_cons ha hr hs) fun σ H Q ⟨B, S, d, S', R, e, k⟩ => by
    unfold yCons at e
    simp only [Option.bind_eq_some_iff, Option.map_eq_some_iff] at e
    obtain ⟨⟨d1, S1⟩, e1, ⟨ds, S2⟩, e2, e3⟩ := e
    cases e3
    exact ⟨B, S, d1, S1, R, e1, fun x B1 H1 s1 R1 dx => ⟨B1, S1, ds, _, R1, e2, fun vs B2 H2 s2 R2 dvs => k (x :: vs) B2 H2 (s1.trans s2) R2 (.cons (dp_mono s2 dx) dvs)⟩⟩
def xTup (fr : DA) : DX := fun S => (fr S).bind fun p => if p.1.length ≤ 100000 then some (.tuple p.1, p.2) else none
theorem d_tup {x1} (h : PA X es (upA E fr)) : PE X (.Tuple es x1 pos) (up E (xTup fr)) := PE.imp (pe_tup h) fun σ H Q ⟨B, S, d, S', R, e, k⟩ => by
  unfold xTup at e
  simp only [Option.bind_eq_some_iff] at e
  obtain ⟨⟨ds, S1⟩, e1, e2⟩ := e
  split at e2
  · rename_i hl
    cases e2
    refine ⟨B, S, ds, _, R, e1, fun vs B1 H1 s1 R1 dv => ⟨by rw [dpAll_len dv]; exact line_le hl, fun p hp => ?_⟩⟩
    obtain ⟨s2, R2, d2⟩ := new_tup R1 hp dv
    exact k _ _ _ (s1.trans s2) R2 d2
  · cases e2
def xLst (fr : DA) : DX := fun S => (fr S).bind fun p => if p.1.length ≤ 100000 then some (.list p.1, p.2) else none
theorem d_lst (h : PA X es (upA E fr)) : PE X (.List es pos) (up E (xLst fr)) := PE.imp (pe_lst h) fun σ H Q ⟨B, S, d, S', R, e, k⟩ => by
  unfold xLst at e
  simp only [Option.bind_eq_some_iff] at e
  obtain ⟨⟨ds, S1⟩, e1, e2⟩ := e
  split at e2
  · rename_i hl
    cases e2
    refine ⟨B, S, ds, _, R, e1, fun vs B1 H1 s1 R1 dv => ⟨by rw [dpAll_len dv]; exact line_le hl, fun p hp => ?_⟩⟩
    obtain ⟨s2, R2, d2⟩ := new_lst R1 hp dv
    exact k _ _ _ (s1.trans s2) R2 d2
  · cases e2
/-- a new list, to be a name's own -/
def yLst (fr : DA) : DA := fun S => (fr S).bind fun p => if p.1.length ≤ 100000 then some p else none
theorem own_ne (R : Rep E B H σ S) {p : Addr} (hp : H p = none) : ∀ (i : Nat) c, S[i]? = some (.own c) → σ[i]? ≠ some (some (V.ref p)) := fun i c h z => by
  obtain ⟨a, o, e, _, hH, _⟩ := R.own i c h
  rw [z] at e
  cases e
  rw [hp] at hH
  cases hH
theorem h0_of (R : Rep E B H σ S) {p : Addr} (hp : H p = none) : E.H0 p = none := by
  cases q : E.H0 p with
  | none => rfl
  | some u => exact absurd hp (R.keep p (by rw [q]; simp))
theorem l_lst (h : PA X es (upA E fr)) : PE X (.List es pos) (upL E (yLst fr)) := PE.imp (pe_lst h) fun σ H Q ⟨B, S, d, S', R, e, k⟩ => by
  unfold yLst at e
  simp only [Option.bind_eq_some_iff] at e
  obtain ⟨⟨ds, S1⟩, e1, e2⟩ := e
  split at e2
  · rename_i hl
    cases e2
    refine ⟨B, S, d, _, R, e1, fun vs B1 H1 s1 R1 dv => ⟨by rw [dpAll_len dv]; exact line_le hl, fun p hp => ?_⟩⟩
    exact k p vs B1 _ s1 (R1.fresh hp ntLst) upd_same (R1.sub.free hp) (h0_of R1 hp) (own_ne R1 hp) dv
  · cases e2
/-- a new list as a value -/
def xL (fl : DA) : DX := fun S => (fl S).map fun p => (.list p.1, p.2)
theorem up_L {fl : DA} {Q : VK} (h : up E (xL fl) σ H Q) : upL E fl σ H Q := by
  obtain ⟨B, S, d, S', R, e, k⟩ := h
  unfold xL at e
  simp only [Option.map_eq_some_iff] at e
  obtain ⟨⟨ds, S1⟩, e1, e2⟩ := e
  cases e2
  refine ⟨B, S, ds, _, R, e1, fun p vs B1 H1 s1 R1 hp hb h0 ho dv => ?_⟩
  have s2 : Same B1 (upd B1 p (.lst vs)) := same_upd hb
  exact k _ _ _ (s1.trans s2) (R1.fix hp hb h0 ntLst ho) (.lst (.inl (.inl upd_same)) (dpAll_mono s2 dv))
/-! ### calls of built-ins -/
def CallD (X : Cx) (E : En) (f : Value) (g : List D → Option D) : Prop :=
  ∀ (σ : L2.St) (S : SS) (B H : Hp) (xs : List V) (ds : List D) (z : D) (Q : VK), Rep E B H σ S → DpAll E.K B xs ds → g ds = some z → (∀ v B' H', Same B B' → Rep E B' H' σ S → Dp E.K B' v z → Q v H') → ∃ r, CallR X f r ∧ r xs H Q
def cAny (X : Cx) (f : Value) : List V → Hp → VK → Prop := fun xs H Q => ∃ r, CallR X f r ∧ r xs H Q
theorem callR_any {f : Value} : CallR X f (cAny X f) := fun pins s σ H xs us Q I rx ⟨r, hr, q⟩ => hr pins s σ H xs us Q I rx q
def xCall (g : List D → Option D) (fr : DA) : DX := fun S => (fr S).bind fun p => (g p.1).map fun z => (z, p.2)
theorem upCall {f : Value} {g : List D → Option D} (hc : CallD X E f g) {Q : VK} (h : up E (xCall g fr) σ H Q) : tCB (cAny X f) (upA E fr) σ H Q := by
  obtain ⟨B, S, d, S', R, e, k⟩ := h
  unfold xCall at e
  simp only [Option.bind_eq_some_iff, Option.map_eq_some_iff] at e
  obtain ⟨⟨ds, S1⟩, e1, z, e2, e3⟩ := e
  cases e3
  exact ⟨B, S, ds, _, R, e1, fun vs B1 H1 s1 R1 dv => hc σ _ B1 H1 vs ds d Q R1 dv e2 fun v B' H' s' R' d' => k v B' H' (s1.trans s') R' d'⟩
theorem d_callB {x : Str} {p : Pos} {id : String} {g : List D → Option D} (hc : CallD X E (.builtin id) g) (hg : Gl X x) (hm : X.mg x = none) (hv : bootBuiltins x = some (.builtin id)) (ha : PA X (e :: es) (upA E fr)) (hn : x ≠ "__name__" := by decide) (hdb : (x == ("__debug__" : Str)) = false := by decide)
    (he : starEach (e :: es) X.env = (false, eval e X.env) :: starEach es X.env := by rfl) (hpl : (backTo pos (starEach es X.env)).any (·.1) = false := by rfl) : PE X (.Call (.Name x p) (e :: es) [] pos) (up E (xCall g fr)) :=
  PE.imp (pe_callB callR_any hg hm hv ha hn hdb he hpl) fun σ H Q h => upCall hc h
theorem d_callT {x : Str} {p : Pos} {T : String} {g : List D → Option D} (hc : CallD X E (.type T) g) (hg : Gl X x) (hm : X.mg x = none) (hv : bootBuiltins x = some (.type T)) (ha : PA X (e :: es) (upA E fr)) (hn : x ≠ "__name__" := by decide) (hdb : (x == ("__debug__" : Str)) = false := by decide)
    (he : starEach (e :: es) X.env = (false, eval e X.env) :: starEach es X.env := by rfl) (hpl : (backTo pos (starEach es X.env)).any (·.1) = false := by rfl) : PE X (.Call (.Name x p) (e :: es) [] pos) (up E (xCall g fr)) :=
  PE.imp (pe_callTy callR_any hg hm hv ha hn hdb he hpl) fun σ H Q h => upCall hc h
theorem dpAll1 {K : PySem.W.Frag} {xs : List V} {d : D} (h : DpAll K B xs [d]) : ∃ v, xs = [v] ∧ Dp K B v d := by
  cases h with
  | cons h r => cases r; exact ⟨_, rfl, h⟩
theorem dpAll2 {K : PySem.W.Frag} {xs : List V} {d e : D} (h : DpAll K B xs [d, e]) : ∃ v w, xs = [v, w] ∧ Dp K B v d ∧ Dp K B w e := by
  cases h with
  | cons h r => cases r with
    | cons h2 r2 => cases r2; exact ⟨_, _, rfl, h, h2⟩
def gLen : List D → Option D
  | [.tuple ds] => some (.int (ds.length : Nat))
  | [.list ds] => some (.int (ds.length : Nat))
  | _ => none
theorem c_len (hK : X.K = E.K) : CallD X E (.builtin "len") gLen := by
  intro σ S B H xs ds z Q R dv hz k
  unfold gLen at hz
  split at hz
  · cases hz
    obtain ⟨v, rfl, dx⟩ := dpAll1 dv
    cases dx with
    | tup h r => exact ⟨_, call_len_seq, _, _, rfl, .inr (by rw [hK]; exact same_seqT R.sub h), by rw [dpAll_len r]; exact k _ B H (Same.refl B) R (.int _)⟩
  · cases hz
    obtain ⟨v, rfl, dx⟩ := dpAll1 dv
    cases dx with
    | lst h r => exact ⟨_, call_len_seq, _, _, rfl, .inl (by rw [hK]; exact R.sub.seq h), by rw [dpAll_len r]; exact k _ B H (Same.refl B) R (.int _)⟩
  · cases hz
def gInt : List D → Option D
  | [.int i] => some (.int i)
  | _ => none
theorem c_int : CallD X E (.type "int") gInt := by
  intro σ S B H xs ds z Q R dv hz k
  unfold gInt at hz
  split at hz
  · cases hz
    obtain ⟨v, rfl, dx⟩ := dpAll1 dv
    cases dx
    exact ⟨_, call_int1, .inl ⟨_, rfl, k _ B H (Same.refl B) R (.int _)⟩⟩
  · cases hz
def gMin : List D → Option D
  | [.int i, .int j] => some (.int (if j < i then j else i))
  | _ => none
def gMax : List D → Option D
  | [.int i, .int j] => some (.int (if j > i then j else i))
  | _ => none
theorem c_min (hc : X.calm = true) : CallD X E (.builtin "min") gMin := by
  intro σ S B H xs ds z Q R dv hz k
  unfold gMin at hz
  split at hz
  · cases hz
    obtain ⟨v, w, rfl, dx, dy⟩ := dpAll2 dv
    cases dx
    cases dy
    exact ⟨_, call_min2 hc, _, _, rfl, k _ B H (Same.refl B) R (.int _)⟩
  · cases hz
theorem c_max (hc : X.calm = true) : CallD X E (.builtin "max") gMax := by
  intro σ S B H xs ds z Q R dv hz k
  unfold gMax at hz
  split at hz
  · cases hz
    obtain ⟨v, w, rfl, dx, dy⟩ := dpAll2 dv
    cases dx
    cases dy
    exact ⟨_, call_max2 hc, _, _, rfl, k _ B H (Same.refl B) R (.int _)⟩
  · cases hz
def gAbs : List D → Option D
  | [.int i] => some (.int (if i < 0 then -i else i))
  | _ => none
theorem c_abs : CallD X E (.builtin "abs") gAbs := by
  intro σ S B H xs ds z Q R dv hz k
  unfold gAbs at hz
  split at hz
  · cases hz
    obtain ⟨v, rfl, dx⟩ := dpAll1 dv
    cases dx
    exact ⟨_, call_abs, _, rfl, k _ B H (Same.refl B) R (.int _)⟩
  · cases hz
def gTupOf : List D → Option D
  | [.tuple ds] => some (.tuple ds)
  | [.list ds] => some (.tuple ds)
  | _ => none
theorem c_tup : CallD X E (.type "tuple") gTupOf → True := fun _ => trivial
theorem c_tupOf (hK : X.K = E.K) : CallD X E (.type "tuple") gTupOf := by
  intro σ S B H xs ds z Q R dv hz k
  unfold gTupOf at hz
  split at hz
  · cases hz
    obtain ⟨v, rfl, dx⟩ := dpAll1 dv
    cases dx with
    | tup h r => exact ⟨_, call_tuple_of, _, _, rfl, .inr ⟨by rw [hK]; exact same_seqT R.sub h, k _ B H (Same.refl B) R (.tup h r)⟩⟩
  · cases hz
    obtain ⟨v, rfl, dx⟩ := dpAll1 dv
    cases dx with
    | lst h r => exact ⟨_, call_tuple_of, _, _, rfl, .inl ⟨by rw [hK]; exact R.sub.seq h, fun p hp => by
        obtain ⟨s1, R1, d1⟩ := new_tup R hp r
        exact k _ _ _ s1 R1 d1⟩⟩
  · cases hz
/-! isinstance -/
def tyD : D → Option String
  | .none => some "NoneType"
  | .bool _ => some "bool"
  | .int _ => some "int"
  | .str _ => some "str"
  | .list _ => some "list"
  | .tuple _ => some "tuple"
  | .dict _ => some "dict"
/-- a datum's class: one that the library tells, or a locked dict with tuples for keys -/
def TyY (K : PySem.W.Frag) (H : Hp) (x : V) (t : Value) : Prop := TyX K H x t ∨ ∃ (a : Addr) (o : Obj) (ws : List (List Key × V)), x = .ref a ∧ t = .type "dict" ∧ H a = some (.frz o (.dT ws))
theorem kitY_of {pins : List (Addr × Obj)} {s : Shared} {x : V} {u t : Value} (I : Inv X pins σ H s) (rx : RelV x u) (ty : TyY X.K H x t) : ∃ F : Heap → Prop, PySem.W.KitX X.K u t F ∧ F s.heap ∧ u ≠ .builtin "__main__.__loader__#opaque" := by
  rcases ty with ty | ⟨a, ob, ws, rfl, rfl, h⟩
  · exact kit_of I rx ty
  · cases (show u = Value.ref a from rx)
    obtain ⟨_, h0, hx, _⟩ := I.frzT h
    exact ⟨_, PySem.W.kitx_dict, ⟨ob, h0, hx.1⟩, fun z => nomatch z⟩
def rIsiY (K : PySem.W.Frag) : List V → Hp → VK → Prop := fun xs H Q => ∃ (x c : V) (t u : Value) (b : Bool), xs = [x, c] ∧ ClsV c u ∧ TyY K H x t ∧ PySem.W.kitOne K t u = some b ∧ Q (.bl b) H
def rIsiTY (K : PySem.W.Frag) : List V → Hp → VK → Prop := fun xs H Q => ∃ (x : V) (tp : Addr) (cs : List V) (t : Value) (us : List Value) (b : Bool), xs = [x, .ref tp] ∧ H tp = some (.tup cs) ∧ Paired ClsV cs us ∧ TyY K H x t ∧ PySem.W.kitAny K t us = some b ∧ Q (.bl b) H
theorem call_isiY : CallR X (.builtin "isinstance") (rIsiY X.K) := fun pins s σ H xs us Q I r ⟨x, c, t, u, b, e0, k, ty, e, q⟩ => by
  subst e0
  obtain ⟨u1, u2, rfl, r1, r2⟩ := vals2 r
  cases k.eq r2
  obtain ⟨F, Z, p, hx⟩ := kitY_of I r1 ty
  exact PySem.W.kia_one Z I.kIn p e hx fun tk => ⟨.bl b, _, I.tok tk, rfl, q⟩
theorem call_isiTY : CallR X (.builtin "isinstance") (rIsiTY X.K) := fun pins s σ H xs us Q I r ⟨x, tp, cs, t, ws, b, e0, hT, k, ty, e, q⟩ => by
  subst e0
  obtain ⟨u1, u2, rfl, r1, r2⟩ := vals2 r
  cases (show u2 = Value.ref tp from r2)
  obtain ⟨F, Z, p, hx⟩ := kitY_of I r1 ty
  have ho := I.hok tp _ hT
  obtain ⟨_, its, rv, ob, h1, h2, n, h3⟩ := ho
  cases ClsV.all k rv
  cases ob
  simp only at h2 h3
  cases h2
  cases h3
  exact PySem.W.kia_tup Z I.kIn p h1 e hx fun tk => ⟨.bl b, _, I.tok tk, rfl, q⟩
theorem tyX_of (hK : X.K = E.K) (R : Rep E B H σ S) {x : V} {d : D} {t : String} (h : Dp E.K B x d) (ht : tyD d = some t) : TyY X.K H x (.type t) := by
  cases h with
  | non => cases ht; exact .inl (.base .non)
  | bl b => cases ht; exact .inl (.base (.bl b))
  | int i => cases ht; exact .inl (.base (.int i))
  | str z => cases ht; exact .inl (.base (.str z))
  | lst h r =>
    cases ht
    rcases h with (h | ⟨o, h⟩) | ⟨o, its, n, h, c, _⟩
    · exact .inl (.base (.lst (R.sub _ _ h)))
    · exact .inl (.base (.frz (R.sub _ _ h)))
    · exact .inl (.kList (by rw [hK]; exact h) c)
  | tup h r => cases ht; exact .inl (.base (.tup (R.sub _ _ h)))
  | dit h k r => cases ht; exact .inr ⟨_, _, _, rfl, rfl, R.sub _ _ h⟩
  | dik n h r => cases ht; exact .inl (.fDict (R.sub _ _ h))
def xIsi (T : String) (fe : DX) : DX := fun S => (fe S).bind fun p => (tyD p.1).bind fun t => (kitB t T).map fun b => (.bool b, p.2)
theorem d_isi {p p2 : Pos} {T : Str} {Tn : String} (hK : X.K = E.K) (hg : Gl X "isinstance") (hm : X.mg "isinstance" = none) (hg2 : Gl X T) (hm2 : X.mg T = none) (hv2 : bootBuiltins T = some (.type Tn)) (he : PE X e (up E fe)) (hn : T ≠ "__name__" := by decide) (hdb : (T == ("__debug__" : Str)) = false := by decide)
    (hs : starEach [e, .Name T p2] X.env = (false, eval e X.env) :: starEach [.Name T p2] X.env := by rfl) (hs2 : starEach [.Name T p2] X.env = (false, eval (.Name T p2) X.env) :: starEach [] X.env := by rfl) (hpl : (backTo pos (starEach [.Name T p2] X.env)).any (·.1) = false := by rfl) : PE X (.Call (.Name "isinstance" p) [e, .Name T p2] [] pos) (up E (xIsi Tn fe)) :=
  PE.imp (pe_callB call_isiY hg hm (by decide +kernel) (pa_cons he (pa_cons (pe_bltn (v := .ty Tn) hg2 hm2 hv2 rfl hn hdb) pa_nil hs2) hs) (by decide) (by decide) hs hpl) fun σ H Q ⟨B, S, d, S', R, e, k⟩ => by
    unfold xIsi at e
    simp only [Option.bind_eq_some_iff, Option.map_eq_some_iff] at e
    obtain ⟨⟨d1, S1⟩, e1, t, e2, bb, e3, e4⟩ := e
    cases e4
    exact ⟨B, S, d1, _, R, e1, fun v B1 H1 s1 R1 dv => ⟨v, .ty Tn, _, _, bb, rfl, .ty Tn, tyX_of hK R1 dv e2, kit_ty e3, k _ B1 H1 s1 R1 (.bl _)⟩⟩
/-! ### subscripts, slices -/
def gIx : D → D → Option D
  | .tuple ds, .int i => (ixN ds.length i).bind fun j => ds[j]?
  | .list ds, .int i => (ixN ds.length i).bind fun j => ds[j]?
  | _, _ => none
theorem atI_of {K : PySem.W.Frag} {vs : List V} {ds : List D} {i : Int} {d : D} (r : DpAll K B vs ds) (h : ((ixN ds.length i).bind fun j => ds[j]?) = some d) : ∃ v, atI vs i = some v ∧ Dp K B v d := by
  unfold atI
  rw [dpAll_len r]
  simp only [Option.bind_eq_some_iff] at h
  obtain ⟨j, h1, h2⟩ := h
  obtain ⟨v, h3, h4⟩ := dpAll_get r h2
  exact ⟨v, by rw [h1]; exact h3, h4⟩
theorem d_ix (hK : X.K = E.K) (ha : PE X a (up E fa)) (hb : PE X b (up E fb)) (hs : PlainIx b := by exact fun _ _ => rfl) : PE X (.Subscript a b pos) (up E (x2 gIx fa fb)) :=
  PE.imp (pe_ix (IxR.or ix_list ix_tup) ha hb hs) fun σ H Q ⟨B, S, d, S', R, e, k⟩ => by
    unfold x2 at e
    simp only [Option.bind_eq_some_iff, Option.map_eq_some_iff] at e
    obtain ⟨⟨d1, S1⟩, e1, ⟨d2, S2⟩, e2, z, e3, e4⟩ := e
    cases e4
    refine ⟨B, S, d1, S1, R, e1, fun x B1 H1 s1 R1 dx => ⟨B1, S1, d2, _, R1, e2, fun y B2 H2 s2 R2 dy => ?_⟩⟩
    have dx := dp_mono s2 dx
    cases dy with
    | int i =>
      cases dx with
      | lst h r =>
        obtain ⟨v, h1, h2⟩ := atI_of r e3
        exact .inl ⟨_, _, i, v, rfl, rfl, by rw [hK]; exact R2.sub.seq h, h1, k v B2 H2 (s1.trans s2) R2 h2⟩
      | tup h r =>
        obtain ⟨v, h1, h2⟩ := atI_of r e3
        exact .inr ⟨_, _, i, v, rfl, rfl, by rw [hK]; exact same_seqT R2.sub h, h1, k v B2 H2 (s1.trans s2) R2 h2⟩
      | _ => simp [gIx] at e3
    | _ => cases d1 <;> simp [gIx] at e3
/-- an item of a name's own list -/
def xIxO (i : Nat) (fb : DX) : DX := fun S => match S[i]? with
  | some (.own (.lst _)) => (fb S).bind fun p => match p.2[i]?, p.1 with
    | some (.own (.lst ds)), .int k => ((ixN ds.length k).bind fun j => ds[j]?).map fun z => (z, p.2)
    | _, _ => none
  | _ => none
theorem d_ixO {i : Nat} (hK : X.K = E.K) (ha : PE X a (tVar i)) (hb : PE X b (up E fb)) (hs : PlainIx b := by exact fun _ _ => rfl) : PE X (.Subscript a b pos) (up E (xIxO i fb)) :=
  PE.imp (pe_ix ix_list ha hb hs) fun σ H Q ⟨B, S, d, S', R, e, k⟩ => by
    unfold xIxO at e
    split at e
    · rename_i ds0 h0
      obtain ⟨a0, o0, es, _⟩ := R.own i _ h0
      refine ⟨_, es, ?_⟩
      simp only [Option.bind_eq_some_iff] at e
      obtain ⟨⟨d2, S2⟩, e2, e3⟩ := e
      split at e3
      · rename_i ds k0 h1 h2
        simp only at h1 h2
        subst h2
        simp only [Option.map_eq_some_iff, Option.bind_eq_some_iff] at e3
        obtain ⟨z, ⟨j, e4, e5⟩, e6⟩ := e3
        cases e6
        refine ⟨B, S, _, _, R, e2, fun y B2 H2 s2 R2 dy => ?_⟩
        cases dy
        obtain ⟨a1, o1, es1, _, hH, ⟨vs, rfl, r⟩, _⟩ := R2.own i _ h1
        rw [es] at es1
        cases es1
        obtain ⟨v, h3, h4⟩ := atI_of r (by rw [e4]; exact e5)
        exact ⟨_, _, _, v, rfl, rfl, SqL.of hH, h3, k v B2 H2 s2 R2 h4⟩
      · cases e3
    · cases e
/-- len of a name's own list -/
def xLenO (i : Nat) : DX := fun S => match S[i]? with
  | some (.own (.lst ds)) => some (.int (ds.length : Nat), S)
  | _ => none
theorem d_lenO {i : Nat} {p : Pos} (hg : Gl X "len") (hm : X.mg "len" = none) (ha : PE X a (tVar i)) (he : starEach [a] X.env = (false, eval a X.env) :: starEach [] X.env := by rfl) (hpl : (backTo pos (starEach [] X.env)).any (·.1) = false := by rfl) :
    PE X (.Call (.Name "len" p) [a] [] pos) (up E (xLenO i)) :=
  PE.imp (pe_callB call_len_seq hg hm PySem.boot_len (pa_cons ha pa_nil he) (by decide) (by decide) he hpl) fun σ H Q ⟨B, S, d, S', R, e, k⟩ => by
    unfold xLenO at e
    split at e
    · rename_i ds h0
      cases e
      obtain ⟨a0, o0, es, _, hH, ⟨vs, rfl, r⟩, _⟩ := R.own i _ h0
      exact ⟨_, es, _, _, rfl, .inl (SqL.of hH), by rw [dpAll_len r]; exact k _ B H (Same.refl B) R (.int _)⟩
    · cases e
/-- a name's own list is read off, and stays a value -/
theorem d_frz {i : Nat} (ha : PE X a (tVar i)) (hp : ∀ q ∈ E.pa, q.1 ≠ i) : PE X a (up E (xF i)) := PE.imp ha fun σ H Q ⟨B, S, d, S', R, e, k⟩ => by
  unfold xF at e
  split at e
  · rename_i d' hd
    cases e
    obtain ⟨v, hv, r⟩ := R.val i _ hd
    exact ⟨v, hv, k v B H (Same.refl B) R r⟩
  · rename_i ds hd
    cases e
    obtain ⟨x, vs, e1, e2, r, hb, R2⟩ := R.freeze hd hp
    have s1 : Same B (upd B x (.lst vs)) := same_upd hb
    exact ⟨_, e1, k _ _ H s1 R2 (.lst (.inl (.inl upd_same)) (dpAll_mono s1 r))⟩
  · cases e
abbrev DO := SS → Option (Option Int × SS)
def upO (E : En) (f : DO) : TO := fun σ H Q => ∃ B S d S', Rep E B H σ S ∧ f S = some (d, S') ∧ ∀ B' H', Same B B' → Rep E B' H' σ S' → Q d H'
def oNo : DO := fun S => some (none, S)
def oSm (fe : DX) : DO := fun S => (fe S).bind fun p => match p.1 with | .int i => some (some i, p.2) | _ => none
theorem PO.imp {X : Cx} {e : Option Expr} {t t' : TO} (h : PO X e t) (i : ∀ σ H Q, t' σ H Q → t σ H Q) : PO X e t' := ⟨fun pins s σ H Q I q => h.run pins s σ H Q I (i σ H Q q)⟩
theorem p_no : PO X none (upO E oNo) := PO.imp po_none fun σ H Q ⟨B, S, d, S', R, e, k⟩ => by
  cases e
  exact k B H (Same.refl B) R
theorem p_sm (h : PE X e (up E fe)) : PO X (some e) (upO E (oSm fe)) := PO.imp (po_some h) fun σ H Q ⟨B, S, d, S', R, e, k⟩ => by
  unfold oSm at e
  simp only [Option.bind_eq_some_iff] at e
  obtain ⟨⟨d1, S1⟩, e1, e2⟩ := e
  cases d1 <;> (try (simp at e2; done))
  cases e2
  exact ⟨B, S, _, _, R, e1, fun v B1 H1 s1 R1 dv => by cases dv; exact ⟨_, rfl, k B1 H1 s1 R1⟩⟩
def cutD (ds : List D) (lo hi : Option Int) : List D := (ds.drop (HT.sIx ds.length 0 lo)).take (HT.sIx ds.length ds.length hi - HT.sIx ds.length 0 lo)
theorem cut_dp {K : PySem.W.Frag} {vs : List V} {ds : List D} (r : DpAll K B vs ds) (lo hi : Option Int) : DpAll K B (cutV vs lo hi) (cutD ds lo hi) := by
  unfold cutV cutD
  rw [dpAll_len r]
  exact dpAll_take _ (dpAll_drop _ r)
def xSl (fa : DX) (fl fh : DO) : DX := fun S => (fa S).bind fun p => (fl p.2).bind fun l => (fh l.2).bind fun h => match p.1 with
  | .tuple ds => some (.tuple (cutD ds l.1 h.1), h.2)
  | _ => none
theorem cut_whole {xs : List V} {lo hi : Option Int} (h : HT.sIx xs.length 0 lo = 0 ∧ HT.sIx xs.length xs.length hi = xs.length) : cutV xs lo hi = xs := by
  unfold cutV
  rw [h.1, h.2]
  simp
theorem d_sl {lo hi : Option Expr} {fl fh : DO} {p2 : Pos} (hK : X.K = E.K) (ha : PE X a (up E fa)) (hl : PO X lo (upO E fl)) (hh : PO X hi (upO E fh)) : PE X (.Subscript a (.Slice lo hi none p2) pos) (up E (xSl fa fl fh)) :=
  PE.imp (pe_slice sl_tupA ha hl hh) fun σ H Q ⟨B, S, d, S', R, e, k⟩ => by
    unfold xSl at e
    simp only [Option.bind_eq_some_iff] at e
    obtain ⟨⟨d1, S1⟩, e1, ⟨l, S2⟩, e2, ⟨u, S3⟩, e3, e4⟩ := e
    cases d1 <;> (try (simp at e4; done))
    rename_i ds
    cases e4
    refine ⟨B, S, _, S1, R, e1, fun x B1 H1 s1 R1 dx => ⟨B1, S1, l, S2, R1, e2, fun B2 H2 s2 R2 => ⟨B2, S2, u, _, R2, e3, fun B3 H3 s3 R3 => ?_⟩⟩⟩
    have dx := dp_mono (s2.trans s3) dx
    cases dx with
    | @tup a0 vs _ h r =>
      have c := cut_dp r l u
      refine ⟨a0, vs, rfl, by rw [hK]; exact same_seqT R3.sub h, fun w => ?_, fun w p hp => ?_⟩
      · rw [cut_whole w] at c
        exact k _ B3 H3 ((s1.trans s2).trans s3) R3 (.tup h c)
      · obtain ⟨s4, R4, d4⟩ := new_tup R3 hp c
        exact k _ _ _ (((s1.trans s2).trans s3).trans s4) R4 d4
end
end BC
set_option Elab.async false
set_option linter.all false
set_option maxRecDepth 100000
set_option maxHeartbeats 2000000
namespace BC
open PySem PySem.Spec PyProof.Rows L2 GxR
section
variable {X : Cx} {E : En} {a b c e : Expr} {es : List Expr} {fa fb fc fe : DX} {fr fl : DA} {pos : Pos} {σ : L2.St} {S : SS} {B H : Hp}
/-! ### statements -/
def sNx : SX := fun S => some (.nx S)
def sSeq (f g : SX) : SX := fun S => (f S).bind fun r => match r with
  | .nx S' => g S'
  | r => some r
def sNever : SX := fun _ => none
variable {f g : SX} {st : Stmt} {sts : List Stmt}
theorem s_nil : PSs X [] (upS E sNx) := PSs.imp pss_nil fun σ H D ⟨B, S, r, R, e, k⟩ => by
  cases e
  exact k σ B H (Same.refl B) R
theorem s_cons (h1 : PS X st (upS E f)) (h2 : PSs X sts (upS E g)) : PSs X (st :: sts) (upS E (sSeq f g)) := PSs.imp (pss_cons h1 h2) fun σ H D ⟨B, S, r, R, e, k⟩ => by
  unfold sSeq at e
  simp only [Option.bind_eq_some_iff] at e
  obtain ⟨r1, e1, e2⟩ := e
  refine ⟨B, S, r1, R, e1, ?_⟩
  cases r1 with
  | nx S1 =>
    intro σ1 B1 H1 s1 R1
    refine ⟨B1, S1, r, R1, e2, ?_⟩
    cases r with
    | nx S2 => exact fun σ' B' H' s' R' => k σ' B' H' (s1.trans s') R'
    | rt d S2 => exact fun v σ' B' H' s' R' dv => k v σ' B' H' (s1.trans s') R' dv
    | bk S2 => exact fun σ' B' H' s' R' => k σ' B' H' (s1.trans s') R'
    | ct S2 => exact fun σ' B' H' s' R' => k σ' B' H' (s1.trans s') R'
  | rt d S2 => cases e2; exact k
  | bk S2 => cases e2; exact k
  | ct S2 => cases e2; exact k
theorem s_one (h1 : PS X st (upS E f)) : PSs X [st] (upS E f) := pss_one h1
theorem s_never : PS X st (upS E sNever) := PS.imp ps_never fun σ H D ⟨B, S, r, R, e, k⟩ => by cases e
theorem ss_never : PSs X sts (upS E sNever) := PSs.imp pss_never fun σ H D ⟨B, S, r, R, e, k⟩ => by cases e
theorem s_pass : PS X (.Pass pos) (upS E sNx) := PS.imp ps_pass fun σ H D ⟨B, S, r, R, e, k⟩ => by
  cases e
  exact k σ B H (Same.refl B) R
def sBrk : SX := fun S => some (.bk S)
def sCnt : SX := fun S => some (.ct S)
theorem s_break : PS X (.Break pos) (upS E sBrk) := PS.imp ps_break fun σ H D ⟨B, S, r, R, e, k⟩ => by
  cases e
  exact k σ B H (Same.refl B) R
theorem s_cont : PS X (.Continue pos) (upS E sCnt) := PS.imp ps_continue fun σ H D ⟨B, S, r, R, e, k⟩ => by
  cases e
  exact k σ B H (Same.refl B) R
def sExpr (fe : DX) : SX := fun S => (fe S).map fun p => .nx p.2
theorem s_expr (he : PE X e (up E fe)) (hs : swapsWith e none pos.line X.env = pure false := by rfl) : PS X (.Expr e pos) (upS E (sExpr fe)) := PS.imp (ps_expr he hs) fun σ H D ⟨B, S, r, R, e, k⟩ => by
  unfold sExpr at e
  simp only [Option.map_eq_some_iff] at e
  obtain ⟨⟨d, S1⟩, e1, e2⟩ := e
  cases e2
  exact ⟨B, S, d, _, R, e1, fun v B' H' s' R' _ => k σ B' H' s' R'⟩
def sRet (fe : DX) : SX := fun S => (fe S).map fun p => .rt p.1 p.2
theorem s_ret (he : PE X e (up E fe)) : PS X (.Return (some e) pos) (upS E (sRet fe)) := PS.imp (ps_ret he) fun σ H D ⟨B, S, r, R, e, k⟩ => by
  unfold sRet at e
  simp only [Option.map_eq_some_iff] at e
  obtain ⟨⟨d, S1⟩, e1, e2⟩ := e
  cases e2
  exact ⟨B, S, d, _, R, e1, fun v B' H' s' R' dv => k v σ B' H' s' R' dv⟩
def sIf (y : DT) (f g : SX) : SX := fun S => (y S).bind fun p => if p.1 = true then f p.2 else g p.2
theorem s_if {y : DT} {sa sb : List Stmt} (hc : PT X c (upT E y)) (ha : PSs X sa (upS E f)) (hb : PSs X sb (upS E g)) : PS X (.If c sa sb pos) (upS E (sIf y f g)) := PS.imp (ps_if hc ha hb) fun σ H D ⟨B, S, r, R, e, k⟩ => by
  unfold sIf at e
  simp only [Option.bind_eq_some_iff] at e
  obtain ⟨⟨d1, S1⟩, e1, e2⟩ := e
  refine ⟨B, S, d1, S1, R, e1, fun B1 H1 s1 R1 => ?_⟩
  have fin : ∀ h : SX, h S1 = some r → upS E h D σ H1 := fun h eh => by
    refine ⟨B1, S1, r, R1, eh, ?_⟩
    cases r with
    | nx S2 => exact fun σ' B' H' s' R' => k σ' B' H' (s1.trans s') R'
    | rt d S2 => exact fun v σ' B' H' s' R' dv => k v σ' B' H' (s1.trans s') R' dv
    | bk S2 => exact fun σ' B' H' s' R' => k σ' B' H' (s1.trans s') R'
    | ct S2 => exact fun σ' B' H' s' R' => k σ' B' H' (s1.trans s') R'
  cases d1 with
  | false => exact iteF (fin g (by simpa using e2))
  | true => exact iteT (fin f (by simpa using e2))
def setV (i : Nat) (d : D) (S : SS) : Option SS := if i < S.length then some (S.set i (.val d)) else none
def sSet (i : Nat) (fe : DX) : SX := fun S => (fe S).bind fun p => (setV i p.1 p.2).map .nx
theorem up_set {i : Nat} {D : Ends} (hp : ∀ q ∈ E.pa, q.1 ≠ i) (h : upS E (sSet i fe) D σ H) : tAsg (up E fe) (gName i) D σ H := by
  obtain ⟨B, S, r, R, e, k⟩ := h
  unfold sSet setV at e
  simp only [Option.bind_eq_some_iff, Option.map_eq_some_iff] at e
  obtain ⟨⟨d, S1⟩, e1, S2, e2, e3⟩ := e
  split at e2
  · rename_i hl
    cases e2
    cases e3
    exact ⟨B, S, d, S1, R, e1, fun v B' H' s' R' dv => k _ B' H' s' (R'.set dv hp hl)⟩
  · cases e2
theorem s_set {i : Nat} {x : Str} {pos' : Pos} (hp : ∀ q ∈ E.pa, q.1 ≠ i) (hN : X.N.Nodup) (hi : X.N[i]? = some x) (hx : Loc X.env.scope x) (he : PE X e (up E fe)) (hs : swapsWith e (some (.Name x pos')) pos.line X.env = pure false := by rfl) (hf : X.fn x = true ∨ X.env.scope.names.lookup x = some .local := by first | exact .inl rfl | exact .inr rfl | assumption) :
    PS X (.Assign [.Name x pos'] e pos) (upS E (sSet i fe)) := PS.imp (ps_set hN hi hx he hs hf) fun σ H D h => up_set hp h
def setL (i : Nat) (ds : List D) (S : SS) : Option SS := if i < S.length then some (S.set i (.own (.lst ds))) else none
def sSetL (i : Nat) (fl : DA) : SX := fun S => (fl S).bind fun p => (setL i p.1 p.2).map .nx
theorem up_setL {i : Nat} {D : Ends} (hp : ∀ q ∈ E.pa, q.1 ≠ i) (h : upS E (sSetL i fl) D σ H) : tAsg (upL E fl) (gName i) D σ H := by
  obtain ⟨B, S, r, R, e, k⟩ := h
  unfold sSetL setL at e
  simp only [Option.bind_eq_some_iff, Option.map_eq_some_iff] at e
  obtain ⟨⟨d, S1⟩, e1, S2, e2, e3⟩ := e
  split at e2
  · rename_i hl
    cases e2
    cases e3
    exact ⟨B, S, d, S1, R, e1, fun p vs B' H' s' R' h1 h2 h3 h4 dv => k _ B' H' s' (R'.setOwn h3 h2 h1 ⟨vs, rfl, dv⟩ h4 hp hl)⟩
  · cases e2
theorem s_setL {i : Nat} {x : Str} {pos' : Pos} (hp : ∀ q ∈ E.pa, q.1 ≠ i) (hN : X.N.Nodup) (hi : X.N[i]? = some x) (hx : Loc X.env.scope x) (he : PE X e (upL E fl)) (hs : swapsWith e (some (.Name x pos')) pos.line X.env = pure false := by rfl) (hf : X.fn x = true ∨ X.env.scope.names.lookup x = some .local := by first | exact .inl rfl | exact .inr rfl | assumption) :
    PS X (.Assign [.Name x pos'] e pos) (upS E (sSetL i fl)) := PS.imp (ps_set hN hi hx he hs hf) fun σ H D h => up_setL hp h
/-- a, b = x, y -/
def sPar (i j : Nat) (fr : DA) : SX := fun S => (fr S).bind fun p => match p.1 with
  | [d, e] => (setV i d p.2).bind fun S1 => (setV j e S1).map .nx
  | _ => none
theorem s_par {i j : Nat} {x y : Str} {px py pt : Pos} {kt k2 pt2} (hp : ∀ q ∈ E.pa, q.1 ≠ i) (hp2 : ∀ q ∈ E.pa, q.1 ≠ j) (hc : X.calm = true) (hN : X.N.Nodup) (hi : X.N[i]? = some x) (hj : X.N[j]? = some y) (hij : i ≠ j)
    (hx : X.env.scope.names.lookup x = some .local) (hy : X.env.scope.names.lookup y = some .local) (ha : PA X [a, b] (upA E fr))
    (hw : swappedStores [.Tuple [.Name x px, .Name y py] kt pt] (.Tuple [a, b] k2 pt2) X.env = pure (some [x, y]))
    (hs : swapsWithSole [.Tuple [.Name x px, .Name y py] kt pt] (.Tuple [a, b] k2 pt2) pos.line X.env = pure false := by rfl) :
    PS X (.Assign [.Tuple [.Name x px, .Name y py] kt pt] (.Tuple [a, b] k2 pt2) pos) (upS E (sPar i j fr)) :=
  PS.imp (ps_par hc hN hi hj hij hx hy ha hw hs) fun σ H D ⟨B, S, r, R, e, k⟩ => by
    unfold sPar setV at e
    simp only [Option.bind_eq_some_iff] at e
    obtain ⟨⟨ds, S1⟩, e1, e2⟩ := e
    split at e2
    · rename_i d1 d2 hd
      simp only at hd
      subst hd
      simp only [Option.bind_eq_some_iff, Option.map_eq_some_iff] at e2
      obtain ⟨S2, e3, S3, e4, e5⟩ := e2
      split at e3
      · rename_i h1
        cases e3
        split at e4
        · rename_i h2
          cases e4
          cases e5
          refine ⟨B, S, _, S1, R, e1, fun vs B' H' s' R' dv => ?_⟩
          obtain ⟨v, w, rfl, dx, dy⟩ := dpAll2 dv
          exact ⟨v, w, rfl, k _ B' H' s' ((R'.set dx hp h1).set dy hp2 h2)⟩
        · cases e4
      · cases e3
    · cases e2
/-- a, b = [..], y -/
def sParL (i j : Nat) (fl : DA) (fe : DX) : SX := fun S => (fl S).bind fun p => (fe p.2).bind fun q => (setL i p.1 q.2).bind fun S1 => (setV j q.1 S1).map .nx
theorem s_parL {i j : Nat} {x y : Str} {px py pt : Pos} {lp kt k2 pt2} (hp : ∀ q ∈ E.pa, q.1 ≠ i) (hp2 : ∀ q ∈ E.pa, q.1 ≠ j) (hc : X.calm = true) (hN : X.N.Nodup) (hi : X.N[i]? = some x) (hj : X.N[j]? = some y) (hij : i ≠ j)
    (hx : X.env.scope.names.lookup x = some .local) (hy : X.env.scope.names.lookup y = some .local) (hb : ∀ E' : En, E'.K = E.K → E'.T = E.T → E'.pa = E.pa → PE X b (up E' fe))
    (hw : swappedStores [.Tuple [.Name x px, .Name y py] kt pt] (.Tuple [.List [] lp, b] k2 pt2) X.env = pure (some [x, y]))
    (hs : swapsWithSole [.Tuple [.Name x px, .Name y py] kt pt] (.Tuple [.List [] lp, b] k2 pt2) pos.line X.env = pure false := by rfl)
    (hs1 : starEach [.List [] lp, b] X.env = (false, eval (.List [] lp) X.env) :: starEach [b] X.env := by rfl) (hs2 : starEach [b] X.env = (false, eval b X.env) :: starEach [] X.env := by rfl) :
    PS X (.Assign [.Tuple [.Name x px, .Name y py] kt pt] (.Tuple [.List [] lp, b] k2 pt2) pos) (upS E (sParL i j (yLst yNil) fe)) :=
  ⟨fun pins s σ H D I ⟨B, S, r, R, e, k⟩ => by
    unfold sParL setL setV yLst yNil at e
    simp only [Option.bind_some, List.length_nil, Nat.zero_le, if_true, Option.bind_eq_some_iff, Option.map_eq_some_iff] at e
    obtain ⟨⟨d, S1⟩, e1, S2, e2, S3, e3, e4⟩ := e
    split at e2
    · rename_i h1
      cases e2
      split at e3
      · rename_i h2
        cases e3
        cases e4
        have hb' : ∀ q : {q : Addr // H q = none}, PE X b (up { E with H0 := upd E.H0 q.1 (.lst []) } fe) := fun q => hb _ rfl rfl rfl
        have main : PE X b (fun σ' H' Q => ∃ p, σ' = σ ∧ H p = none ∧ H' = upd H p (.lst []) ∧ up { E with H0 := upd E.H0 p (.lst []) } fe σ' H' Q) :=
          ⟨fun pins s σ' H' Q I ⟨p, _, hn, _, q⟩ => (hb' ⟨p, hn⟩).run pins s σ' H' Q I q⟩
        refine (ps_par hc hN hi hj hij hx hy (pa_cons (pe_lst pa_nil) (pa_cons main pa_nil hs2) hs1) hw hs).run pins s σ H D I ?_
        refine ⟨Nat.zero_le _, fun p hpn => ?_⟩
        have R0 : Rep E B (upd H p (.lst [])) σ S := R.fresh hpn ntLst
        have z0 := h0_of R hpn
        have zb : B p = none := R.sub.free hpn
        have zB0 : E.B0 p = none := R.base.free zb
        have npa : ∀ j, (j, p) ∉ E.pa := fun j hj => by
          obtain ⟨q1, c, q2⟩ := R.par _ hj
          exact own_ne R hpn j c q2 q1
        have R1 : Rep { E with H0 := upd E.H0 p (.lst []) } B (upd H p (.lst [])) σ S := by
          refine ⟨R0.base, R0.sub, fun q hq nt => ?_, fun q o hq h1 h2 => ?_, fun q hq => ?_, R0.tabs, R0.par, R0.len, R0.val, fun i c hi => ?_, R0.sep⟩
          · by_cases hqp : q = p
            · rw [hqp, zb]; exact zB0.symm
            · exact R0.new q (by rw [show ({ E with H0 := upd E.H0 p (.lst []) } : En).H0 = upd E.H0 p (.lst []) from rfl, upd_ne hqp] at hq; exact hq) nt
          · by_cases hqp : q = p
            · rw [hqp] at hq ⊢; rw [upd_same]; rw [← hq]; exact upd_same.symm
            · exact R0.frame q o (by rw [show ({ E with H0 := upd E.H0 p (.lst []) } : En).H0 = upd E.H0 p (.lst []) from rfl, upd_ne hqp] at hq; exact hq) h1 h2
          · by_cases hqp : q = p
            · rw [hqp, upd_same]; simp
            · exact R0.keep q (by rw [show ({ E with H0 := upd E.H0 p (.lst []) } : En).H0 = upd E.H0 p (.lst []) from rfl, upd_ne hqp] at hq; exact hq)
          · obtain ⟨a0, o0, g1, g2, g3, g4, g5⟩ := R.own i c hi
            have hne : a0 ≠ p := ne_of_none g3 hpn
            refine ⟨a0, o0, g1, g2, by rw [upd_ne hne]; exact g3, g4, g5.elim (fun z => .inl ?_) .inr⟩
            show upd E.H0 p (.lst []) a0 = none
            rw [upd_ne hne]; exact z
        refine ⟨p, rfl, hpn, rfl, B, S, d, S1, R1, e1, fun v B' H' s' R' dv => ?_⟩
        have hp' : H' p = some (.lst []) := R'.frame p _ upd_same ntLst npa
        have hb0 : B' p = none := (R'.new p (by rw [show ({ E with H0 := upd E.H0 p (.lst []) } : En).H0 = upd E.H0 p (.lst []) from rfl, upd_same]; simp) fun xs z => by rw [hp'] at z; cases z).trans zB0
        have ne1 : ∀ q, E.H0 q ≠ none → ({ E with H0 := upd E.H0 p (.lst []) } : En).H0 q = E.H0 q := fun q hq => upd_ne fun z => hq (by rw [z]; exact z0)
        have R2 : Rep E B' H' σ S1 := by
          refine ⟨R'.base, R'.sub, fun q hq nt => R'.new q (by rw [ne1 q hq]; exact hq) nt, fun q o hq h1 h2 => R'.frame q o (by rw [ne1 q (by rw [hq]; simp)]; exact hq) h1 h2, fun q hq => R'.keep q (by rw [ne1 q hq]; exact hq), R'.tabs, R'.par, R'.len, R'.val, fun i c hi => ?_, R'.sep⟩
          obtain ⟨a0, o0, g1, g2, g3, g4, g5⟩ := R'.own i c hi
          refine ⟨a0, o0, g1, g2, g3, g4, g5.elim (fun z => .inl ?_) .inr⟩
          have z : upd E.H0 p (.lst []) a0 = none := z
          by_cases hap : a0 = p
          · rw [hap, upd_same] at z; cases z
          · rw [upd_ne hap] at z; exact z
        have hs : ∀ (j : Nat) c, S1[j]? = some (.own c) → σ[j]? ≠ some (some (V.ref p)) := fun j c hj hz => by
          obtain ⟨a0, o0, g1, g2, g3, g4, g5⟩ := R'.own j c hj
          rw [hz] at g1
          cases g1
          rcases g5 with z | z
          · have z : upd E.H0 p (.lst []) p = none := z
            rw [upd_same] at z
            cases z
          · exact npa _ z
        refine ⟨_, _, rfl, k _ B' H' s' ((R2.setOwn (c := .lst []) z0 hb0 hp' ⟨[], rfl, .nil⟩ hs hp h1).set dv hp2 h2)⟩
      · cases e3
    · cases e2⟩
/-! ### own lists changed -/
def sApp (i : Nat) (fe : DX) : SX := fun S => match S[i]? with
  | some (.own (.lst _)) => (fe S).bind fun p => match p.2[i]? with
    | some (.own (.lst ds)) => if ds.length < 100000 then some (.nx (p.2.set i (.own (.lst (ds ++ [p.1]))))) else none
    | _ => none
  | _ => none
theorem s_app {i : Nat} {apos cpos epos : Pos} (ho : PE X a (tVar i)) (he : PE X e (up E fe))
    (h2 : PE X (.Call (.Attribute a "append" apos) [e] [] cpos) (tBM X.K "list" rAppend (tVar i) (tCons (up E fe) tNil)))
    (hs : swapsWith (.Call (.Attribute a "append" apos) [e] [] cpos) none epos.line X.env = pure false := by rfl) :
    PS X (.Expr (.Call (.Attribute a "append" apos) [e] [] cpos) epos) (upS E (sApp i fe)) := PS.imp (ps_expr h2 hs) fun σ H D ⟨B, S, r, R, e, k⟩ => by
  unfold sApp at e
  split at e
  · rename_i ds0 h0
    obtain ⟨a0, o0, g1, g2, g3, ⟨vs0, g4, _⟩, _⟩ := R.own i _ h0
    subst g4
    refine ⟨_, g1, .inl ⟨rfl, _, SqL.of g3⟩, ?_⟩
    simp only [Option.bind_eq_some_iff] at e
    obtain ⟨⟨d, S1⟩, e1, e2⟩ := e
    split at e2
    · rename_i ds h1
      simp only at h1
      split at e2
      · rename_i hl
        cases e2
        refine ⟨B, S, d, S1, R, e1, fun v B1 H1 s1 R1 dv => ?_⟩
        obtain ⟨a1, o1, f1, f2, f3, ⟨vs, f4, f5⟩, _⟩ := R1.own i _ h1
        rw [g1] at f1
        cases f1
        subst f4
        refine ⟨_, vs, v, rfl, rfl, f3, by rw [dpAll_len f5]; exact line_lt (Nat.le_of_lt hl), ?_⟩
        exact k σ B1 _ s1 (R1.write h1 g1 ⟨_, rfl, dpAll_app f5 (.cons dv .nil)⟩)
      · cases e2
    · cases e2
  · cases e
/-- xs[k] = e of a name's own list -/
def sSetI (i : Nat) (fk fe : DX) : SX := fun S => (fe S).bind fun p => match p.2[i]? with
  | some (.own (.lst _)) => (fk p.2).bind fun q => match q.2[i]?, q.1 with
    | some (.own (.lst ds)), .int k => (ixN ds.length k).map fun j => .nx (q.2.set i (.own (.lst (ds.set j p.1))))
    | _, _ => none
  | _ => none
theorem s_setI {i : Nat} {o kx : Expr} {fk : DX} {tpos : Pos} (ho : PE X o (tVar i)) (hk : PE X kx (up E fk)) (he : PE X e (up E fe))
    (hg : PG X (.Subscript o kx tpos) (L2.gSub (tVar i) (up E fk) rSetL))
    (hs : swapsWithSole [.Subscript o kx tpos] e pos.line X.env = pure false := by rfl) (hw : swappedStores [.Subscript o kx tpos] e X.env = pure none := by rfl)
    (h1 : (assignEach [.Subscript o kx tpos] X.env).map (·.2) = [assign (.Subscript o kx tpos) X.env] := by rfl) : PS X (.Assign [.Subscript o kx tpos] e pos) (upS E (sSetI i fk fe)) :=
  PS.imp (ps_asg he hg hs hw h1) fun σ H D ⟨B, S, r, R, e, k⟩ => by
    unfold sSetI at e
    simp only [Option.bind_eq_some_iff] at e
    obtain ⟨⟨d, S1⟩, e1, e2⟩ := e
    split at e2
    · rename_i ds0 h0
      simp only at h0
      simp only [Option.bind_eq_some_iff] at e2
      obtain ⟨⟨d2, S2⟩, e3, e4⟩ := e2
      split at e4
      · rename_i ds kk h1 h2
        simp only at h1 h2
        subst h2
        simp only [Option.map_eq_some_iff] at e4
        obtain ⟨j, e5, e6⟩ := e4
        cases e6
        refine ⟨B, S, d, S1, R, e1, fun v B1 H1 s1 R1 dv => ?_⟩
        obtain ⟨a0, o0, g1, g2, g3, ⟨vs0, g4, _⟩, _⟩ := R1.own i _ h0
        refine ⟨_, g1, B1, S1, _, S2, R1, e3, fun y B2 H2 s2 R2 dy => ?_⟩
        cases dy
        obtain ⟨a1, o1, f1, f2, f3, ⟨vs, f4, f5⟩, _⟩ := R2.own i _ h1
        rw [g1] at f1
        cases f1
        subst f4
        refine ⟨_, vs, kk, j, rfl, rfl, f3, by rw [dpAll_len f5]; exact e5, ?_⟩
        exact k σ B2 _ (s1.trans s2) (R2.write h1 g1 ⟨_, rfl, dpAll_set (dp_mono s2 dv) j f5⟩)
      · cases e4
    · cases e2
/-- x += e, ints -/
def sAug (i : Nat) (h : Int → Int → Int) (fe : DX) : SX := fun S => match S[i]? with
  | some (.val (.int x)) => (fe S).bind fun p => match p.1 with
    | .int y => some (.nx (p.2.set i (.val (.int (h x y)))))
    | _ => none
  | _ => none
theorem s_aug {i : Nat} {x : Str} {op : Operator} {h : Int → Int → Int} {pos' : Pos} (hp : ∀ q ∈ E.pa, q.1 ≠ i) (hN : X.N.Nodup) (hi : X.N[i]? = some x) (hx : Loc X.env.scope x) (he : PE X e (up E fe)) (ho : PIp X op (ipI h)) (hf : X.fn x = true ∨ X.env.scope.names.lookup x = some .local := by first | exact .inl rfl | exact .inr rfl | assumption) :
    PS X (.AugAssign (.Name x pos') op e pos) (upS E (sAug i h fe)) := PS.imp (ps_aug hN hi hx he ho hf) fun σ H D ⟨B, S, r, R, e, k⟩ => by
  unfold sAug at e
  split at e
  · rename_i x0 h0
    simp only [Option.bind_eq_some_iff] at e
    obtain ⟨⟨d, S1⟩, e1, e2⟩ := e
    cases d <;> (try (simp at e2; done))
    rename_i y
    cases e2
    obtain ⟨v, g1, g2⟩ := R.val i _ h0
    cases g2
    refine ⟨_, g1, B, S, _, S1, R, e1, fun w B1 H1 s1 R1 dw => ?_⟩
    cases dw
    have hl : i < S1.length := by
      rw [R1.len, ← R.len]; exact (List.getElem?_eq_some_iff.mp h0).1
    exact ⟨_, _, rfl, rfl, k _ B1 H1 s1 (R1.set (.int _) hp hl)⟩
  · cases e
/-! ### what is walked -/
/-- the iterator gives ds, one after another, whatever else comes -/
structure ItD (K : PySem.W.Frag) (B : Hp) (J : It) (ds : List D) : Prop where
  go : ∀ i H, Same B H → i < ds.length → J.go i H
  yld : ∀ i H x H' d, Same B H → ds[i]? = some d → J.yld i H x H' → (H' = H ∧ Dp K B x d) ∨ ∃ T ws es, x = .ref T ∧ H T = none ∧ H' = upd H T (.tup ws) ∧ d = .tuple es ∧ DpAll K B ws es
  stop : ∀ i H, Same B H → ds.length ≤ i → J.stop i H
theorem ItD.mono {K : PySem.W.Frag} {B B' : Hp} {J : It} {ds : List D} (h : ItD K B J ds) (s : Same B B') : ItD K B' J ds :=
  ⟨fun i H q => h.go i H (s.trans q), fun i H x H' d q e y => (h.yld i H x H' d (s.trans q) e y).imp (fun z => ⟨z.1, dp_mono s z.2⟩) fun ⟨T, ws, es, h1, h2, h3, h4, h5⟩ => ⟨T, ws, es, h1, h2, h3, h4, dpAll_mono s h5⟩, fun i H q => h.stop i H (s.trans q)⟩
def upI (E : En) (fs : DA) : TI := fun σ H R => ∃ B S ds S', Rep E B H σ S ∧ fs S = some (ds, S') ∧ ∀ J B' H', Same B B' → Rep E B' H' σ S' → ItD E.K B' J ds → R J H'
theorem PI.imp {tg iter : Expr} {t t' : TI} (h : PI X tg iter t) (i : ∀ σ H R, t' σ H R → t σ H R) : PI X tg iter t' := ⟨fun pins s σ H R I q => h.run pins s σ H R I (i σ H R q)⟩
def iSeq (fe : DX) : DA := fun S => (fe S).bind fun p => match p.1 with
  | .tuple ds => some (ds, p.2)
  | _ => none
def iLst (fe : DX) : DA := fun S => (fe S).bind fun p => match p.1 with
  | .list ds => some (ds, p.2)
  | _ => none
theorem seqT_inj {K : PySem.W.Frag} {H : Hp} {a : Addr} {xs ys : List V} (h : SqT K H a xs) (h' : SqT K H a ys) (hK : Rd H a (.tup xs) → Rd H a (.tup ys) → xs = ys) : True := trivial
variable {tg : Expr}
theorem i_tup (hK : X.K = E.K) (he : PE X e (up E fe)) : PI X tg e (upI E (iSeq fe)) := PI.imp (pi_tup he) fun σ H R ⟨B, S, ds, S', Rp, e, k⟩ => by
  unfold iSeq at e
  simp only [Option.bind_eq_some_iff] at e
  obtain ⟨⟨d, S1⟩, e1, e2⟩ := e
  cases d <;> (try (simp at e2; done))
  cases e2
  refine ⟨B, S, _, S1, Rp, e1, fun v B1 H1 s1 R1 dv => ?_⟩
  cases dv with
  | @tup a0 vs _ h r =>
    refine ⟨a0, rfl, ⟨vs, by rw [hK]; exact same_seqT R1.sub h⟩, k _ B1 H1 s1 R1 ?_⟩
    rw [hK]
    refine ⟨fun i H q hi => ?_, fun i H x H' d q ed y => ?_, fun i H q hi => ⟨vs, same_seqT q h, by rw [dpAll_len r]; exact hi⟩⟩
    · obtain ⟨v, g1, g2⟩ := dpAll_get r (List.getElem?_eq_getElem hi)
      exact ⟨vs, v, same_seqT q h, g1⟩
    · obtain ⟨y1, y2⟩ := y
      obtain ⟨v, g1, g2⟩ := dpAll_get r ed
      have := y2 vs (same_seqT q h)
      rw [g1] at this
      cases this
      exact .inl ⟨y1, g2⟩
theorem i_lst (hK : X.K = E.K) (he : PE X e (up E fe)) : PI X tg e (upI E (iLst fe)) := PI.imp (pi_list he) fun σ H R ⟨B, S, ds, S', Rp, e, k⟩ => by
  unfold iLst at e
  simp only [Option.bind_eq_some_iff] at e
  obtain ⟨⟨d, S1⟩, e1, e2⟩ := e
  cases d <;> (try (simp at e2; done))
  cases e2
  refine ⟨B, S, _, S1, Rp, e1, fun v B1 H1 s1 R1 dv => ?_⟩
  cases dv with
  | @lst a0 vs _ h r =>
    refine ⟨a0, rfl, ⟨vs, by rw [hK]; exact R1.sub.seq h⟩, k _ B1 H1 s1 R1 ?_⟩
    rw [hK]
    refine ⟨fun i H q hi => ?_, fun i H x H' d q ed y => ?_, fun i H q hi => ⟨vs, q.seq h, by rw [dpAll_len r]; exact hi⟩⟩
    · obtain ⟨v, g1, g2⟩ := dpAll_get r (List.getElem?_eq_getElem hi)
      exact ⟨vs, v, q.seq h, g1⟩
    · obtain ⟨y1, y2⟩ := y
      obtain ⟨v, g1, g2⟩ := dpAll_get r ed
      have := y2 vs (q.seq h)
      rw [g1] at this
      cases this
      exact .inl ⟨y1, g2⟩
def rangeD (lo : Int) (n : Nat) : List D := (List.range n).map fun k => .int (lo + (k : Nat))
theorem itr_D {K : PySem.W.Frag} {B : Hp} (lo : Int) (n : Nat) : ItD K B (Itr lo n) (rangeD lo n) := by
  have hl : (rangeD lo n).length = n := by unfold rangeD; simp
  refine ⟨fun i H _ hi => by rw [hl] at hi; exact hi, fun i H x H' d _ e y => ?_, fun i H _ hi => by rw [hl] at hi; exact hi⟩
  obtain ⟨y1, rfl⟩ := y
  unfold rangeD at e
  rw [List.getElem?_map, Option.map_eq_some_iff] at e
  obtain ⟨k, e1, e2⟩ := e
  obtain ⟨_, e3⟩ := List.getElem?_eq_some_iff.mp e1
  rw [List.getElem_range] at e3
  subst e3 e2
  exact .inl ⟨y1, .int _⟩
def iR1 (fr : DA) : DA := fun S => (fr S).bind fun p => match p.1 with
  | [.int j] => if -(2 ^ 62) ≤ j ∧ j < 2 ^ 62 then some (rangeD 0 j.toNat, p.2) else none
  | _ => none
def iR2 (fr : DA) : DA := fun S => (fr S).bind fun p => match p.1 with
  | [.int i, .int j] => if -(2 ^ 62) ≤ i ∧ i < 2 ^ 62 ∧ -(2 ^ 62) ≤ j ∧ j < 2 ^ 62 then some (rangeD i (j - i).toNat, p.2) else none
  | _ => none
theorem i_r1 {p : Pos} (hg : Gl X "range") (hm : X.mg "range" = none) (ha : PA X [a] (upA E fr)) (hs : starEach [a] X.env = [(false, eval a X.env)] := by rfl) : PI X tg (.Call (.Name "range" p) [a] [] pos) (upI E (iR1 fr)) :=
  PI.imp (pi_range1 hg hm ha hs) fun σ H R ⟨B, S, ds, S', Rp, e, k⟩ => by
    unfold iR1 at e
    simp only [Option.bind_eq_some_iff] at e
    obtain ⟨⟨d, S1⟩, e1, e2⟩ := e
    split at e2
    · rename_i j hd
      simp only at hd
      subst hd
      split at e2
      · rename_i hj
        cases e2
        refine ⟨B, S, _, _, Rp, e1, fun vs B1 H1 s1 R1 dv => ?_⟩
        obtain ⟨v, rfl, dx⟩ := dpAll1 dv
        cases dx
        exact ⟨j, rfl, hj.1, hj.2, k _ B1 H1 s1 R1 (itr_D _ _)⟩
      · cases e2
    · cases e2
theorem i_r2 {p : Pos} (hg : Gl X "range") (hm : X.mg "range" = none) (ha : PA X [a, b] (upA E fr)) (hs : starEach [a, b] X.env = [(false, eval a X.env), (false, eval b X.env)] := by rfl) (hs2 : starEach [b] X.env = [(false, eval b X.env)] := by rfl) :
    PI X tg (.Call (.Name "range" p) [a, b] [] pos) (upI E (iR2 fr)) :=
  PI.imp (pi_range2 hg hm ha hs hs2) fun σ H R ⟨B, S, ds, S', Rp, e, k⟩ => by
    unfold iR2 at e
    simp only [Option.bind_eq_some_iff] at e
    obtain ⟨⟨d, S1⟩, e1, e2⟩ := e
    split at e2
    · rename_i i j hd
      simp only at hd
      subst hd
      split at e2
      · rename_i hj
        cases e2
        refine ⟨B, S, _, _, Rp, e1, fun vs B1 H1 s1 R1 dv => ?_⟩
        obtain ⟨v, w, rfl, dx, dy⟩ := dpAll2 dv
        cases dx
        cases dy
        exact ⟨i, j, rfl, hj, k _ B1 H1 s1 R1 (itr_D _ _)⟩
      · cases e2
    · cases e2
/-! ### for -/
/-- a target by data -/
def TgD (E : En) (g : TG) (st : D → SS → Option SS) : Prop :=
  ∀ (x : V) (d : D) (σ : L2.St) (B H : Hp) (S S' : SS) (Q : L2.St → Hp → Prop), Rep E B H σ S → Dp E.K B x d → st d S = some S' → (∀ σ', Rep E B H σ' S' → Q σ' H) → g x σ H Q
theorem tg_name {i : Nat} (hp : ∀ q ∈ E.pa, q.1 ≠ i) : TgD E (gName i) (setV i) := fun x d σ B H S S' Q R dx e k => by
  unfold setV at e
  split at e
  · rename_i hl
    cases e
    exact k _ (R.set dx hp hl)
  · cases e
def sAsg (st : D → SS → Option SS) (fe : DX) : SX := fun S => (fe S).bind fun p => (st p.1 p.2).map .nx
/-- target = value, any target by data -/
theorem s_asg {g : TG} {st : D → SS → Option SS} (he : PE X e (up E fe)) (hg : PG X tg g) (hgD : TgD E g st) (hs : swapsWithSole [tg] e pos.line X.env = pure false := by rfl) (hw : swappedStores [tg] e X.env = pure none := by rfl)
    (h1 : (assignEach [tg] X.env).map (·.2) = [assign tg X.env] := by rfl) : PS X (.Assign [tg] e pos) (upS E (sAsg st fe)) := PS.imp (ps_asg he hg hs hw h1) fun σ H D ⟨B, S, r, R, e, k⟩ => by
  unfold sAsg at e
  simp only [Option.bind_eq_some_iff, Option.map_eq_some_iff] at e
  obtain ⟨⟨d, S1⟩, e1, S2, e2, e3⟩ := e
  cases e3
  exact ⟨B, S, d, S1, R, e1, fun v B' H' s' R' dv => hgD v d σ B' H' S1 S2 _ R' dv e2 fun σ' R'' => k σ' B' H' s' R''⟩
def setV2 (i j : Nat) (d : D) (S : SS) : Option SS := match d with
  | .tuple [x, y] => (setV i x S).bind (setV j y)
  | _ => none
theorem tg_two {K : PySem.W.Frag} {i j : Nat} (hK : K = E.K) (hp : ∀ q ∈ E.pa, q.1 ≠ i) (hp2 : ∀ q ∈ E.pa, q.1 ≠ j) : TgD E (gTup K 2 (gCons (gName i) (gCons (gName j) gNil))) (setV2 i j) := fun x d σ B H S S' Q R dx e k => by
  unfold setV2 at e
  split at e
  · rename_i x1 y1
    simp only [Option.bind_eq_some_iff] at e
    obtain ⟨S1, e1, e2⟩ := e
    cases dx with
    | @tup a0 vs _ h r =>
      obtain ⟨v, w, rfl, d1, d2⟩ := dpAll2 r
      refine ⟨a0, _, rfl, by rw [hK]; exact same_seqT R.sub h, rfl, v, _, rfl, ?_⟩
      refine tg_name hp v x1 σ B H S S1 _ R d1 e1 fun σ1 R1 => ?_
      exact ⟨w, [], rfl, tg_name hp2 w y1 σ1 B H S1 S' _ R1 d2 e2 fun σ2 R2 => ⟨rfl, k σ2 R2⟩⟩
  · cases e
def runFor (st : D → SS → Option SS) (body : SX) : List D → SS → Option Res
  | [], S => some (.nx S)
  | d :: ds, S => (st d S).bind fun S1 => (body S1).bind fun r => match r with
    | .nx S2 => runFor st body ds S2
    | .ct S2 => runFor st body ds S2
    | .bk S2 => some (.nx S2)
    | .rt v S2 => some (.rt v S2)
def sFor (fs : DA) (st : D → SS → Option SS) (body : SX) : SX := fun S => (fs S).bind fun p => runFor st body p.1 p.2
theorem drop_cons {α : Type} {l : List α} {i : Nat} {d : α} (h : l[i]? = some d) : l.drop i = d :: l.drop (i + 1) := by
  obtain ⟨hi, e⟩ := List.getElem?_eq_some_iff.mp h
  rw [← e]
  exact List.drop_eq_getElem_cons hi
def Post (E : En) (B : Hp) (G : Ends) (r : Res) : Prop := match r with
  | .nx S' => ∀ σ' B' H', Same B B' → Rep E B' H' σ' S' → G.nx σ' H'
  | .rt d S' => ∀ v σ' B' H', Same B B' → Rep E B' H' σ' S' → Dp E.K B' v d → G.rt v H'
  | .bk S' => ∀ σ' B' H', Same B B' → Rep E B' H' σ' S' → G.bk σ' H'
  | .ct S' => ∀ σ' B' H', Same B B' → Rep E B' H' σ' S' → G.ct σ' H'
theorem Post.mono {B B' : Hp} {G : Ends} {r : Res} (h : Post E B G r) (s : Same B B') : Post E B' G r := by
  cases r with
  | nx S2 => exact fun σ' B2 H' s' R' => h σ' B2 H' (s.trans s') R'
  | rt d S2 => exact fun v σ' B2 H' s' R' dv => h v σ' B2 H' (s.trans s') R' dv
  | bk S2 => exact fun σ' B2 H' s' R' => h σ' B2 H' (s.trans s') R'
  | ct S2 => exact fun σ' B2 H' s' R' => h σ' B2 H' (s.trans s') R'
theorem upS_of {G : Ends} {r : Res} (R : Rep E B H σ S) (e : f S = some r) (h : Post E B G r) : upS E f G σ H := ⟨B, S, r, R, e, h⟩
theorem for_run {J : It} {g : TG} {st : D → SS → Option SS} {tb : TS} {body : SX} {G : Ends} {ds : List D} {B1 : Hp} {r : Res} (hg : TgD E g st) (hb : ∀ D σ H, upS E body D σ H → tb D σ H) (hJ : ItD E.K B1 J ds) {σ : L2.St} {H : Hp} {S : SS} {B : Hp} (s0 : Same B1 B) (R0 : Rep E B H σ S) (e0 : runFor st body ds S = some r) (hP : Post E B1 G r) :
    ∃ W : Nat → Nat → L2.St → Hp → Prop, (∃ m, W 0 m σ H) ∧ ∀ i m σ H, W i m σ H →
      (J.stop i H ∧ G.nx σ H) ∨ (J.go i H ∧ ∃ N : L2.St → Hp → Prop, (∀ σ' H', N σ' H' → ∃ m', m' < m ∧ W (i + 1) m' σ' H') ∧ ∀ x H', J.yld i H x H' → g x σ H' fun σ2 H2 => tb { G with nx := N, ct := N, bk := G.nx } σ2 H2) := by
  refine ⟨fun i m σ H => m = ds.length - i ∧ i ≤ ds.length ∧ ∃ B S, Same B1 B ∧ Rep E B H σ S ∧ runFor st body (ds.drop i) S = some r, ⟨ds.length, by simp, Nat.zero_le _, B, S, s0, R0, e0⟩, ?_⟩
  rintro i m σ H ⟨rfl, hi, B, S, sB, R, e⟩
  by_cases hlt : i < ds.length
  · have hd : ds[i]? = some ds[i] := List.getElem?_eq_getElem hlt
    rw [drop_cons hd] at e
    unfold runFor at e
    simp only [Option.bind_eq_some_iff] at e
    obtain ⟨S1, e1, r1, e2, e3⟩ := e
    refine .inr ⟨hJ.go i H (sB.trans R.sub) hlt, fun σ' H' => ∃ B' S', Same B1 B' ∧ Rep E B' H' σ' S' ∧ runFor st body (ds.drop (i + 1)) S' = some r, fun σ' H' ⟨B', S', h1, h2, h3⟩ => ⟨ds.length - (i + 1), by omega, rfl, hlt, B', S', h1, h2, h3⟩, fun x H' y => ?_⟩
    have fin : ∀ (B' : Hp) (H' : Hp), Same B1 B' → Rep E B' H' σ S → Dp E.K B' x ds[i] → g x σ H' fun σ2 H2 => tb { G with nx := fun σ' H' => ∃ B' S', Same B1 B' ∧ Rep E B' H' σ' S' ∧ runFor st body (ds.drop (i + 1)) S' = some r, ct := fun σ' H' => ∃ B' S', Same B1 B' ∧ Rep E B' H' σ' S' ∧ runFor st body (ds.drop (i + 1)) S' = some r, bk := G.nx } σ2 H2 := fun B' H' sB' R' dx => by
      refine hg x _ σ B' H' S S1 _ R' dx e1 fun σ1 R1 => hb _ _ _ ⟨B', S1, r1, R1, e2, ?_⟩
      cases r1 with
      | nx S2 => exact fun σ' B2 H2 s2 R2 => ⟨B2, S2, sB'.trans s2, R2, e3⟩
      | ct S2 => exact fun σ' B2 H2 s2 R2 => ⟨B2, S2, sB'.trans s2, R2, e3⟩
      | bk S2 => cases e3; exact fun σ' B2 H2 s2 R2 => hP σ' B2 H2 (sB'.trans s2) R2
      | rt v S2 => cases e3; exact fun w σ' B2 H2 s2 R2 dw => hP w σ' B2 H2 (sB'.trans s2) R2 dw
    rcases hJ.yld i H x H' _ (sB.trans R.sub) hd y with ⟨rfl, dx⟩ | ⟨T, ws, es, rfl, hT, rfl, ed, de⟩
    · exact fin B H' sB R (dp_mono sB dx)
    · obtain ⟨s2, R2, d2⟩ := new_tup R hT (dpAll_mono sB de)
      exact fin _ _ (sB.trans s2) R2 (by rw [ed]; exact d2)
  · have hi' : i = ds.length := by omega
    subst hi'
    rw [List.drop_length] at e
    cases e
    exact .inl ⟨hJ.stop _ H (sB.trans R.sub) (Nat.le_refl _), hP σ B H sB R⟩
theorem s_for {iter : Expr} {body : List Stmt} {fs : DA} {g : TG} {st : D → SS → Option SS} (hp : PassesOwn (model X.prog X.w) X.A X.env X.xe) (hc : X.calm = true) (hi : PI X tg iter (upI E fs)) (hg : PG X tg g) (hgD : TgD E g st) (hb : PSs X body (upS E f)) (hs : ∀ x, foldedSetIterable iter X.env x = pure x := by intro _; rfl) :
    PS X (.For tg iter body [] pos) (upS E (sFor fs st f)) := PS.imp (ps_for hp hc hi hg hb hs) fun σ H D ⟨B, S, r, R, e, k⟩ => by
  unfold sFor at e
  simp only [Option.bind_eq_some_iff] at e
  obtain ⟨⟨ds, S1⟩, e1, e2⟩ := e
  exact ⟨B, S, ds, S1, R, e1, fun J B' H' s' R' hJ => for_run hgD (fun _ _ _ h => h) hJ (Same.refl B') R' e2 (Post.mono k s')⟩
end
end BC
set_option Elab.async false
set_option linter.all false
set_option maxRecDepth 100000
set_option maxHeartbeats 2000000
namespace BC
open PySem PySem.Spec PyProof.Rows L2 GxR
/-- one more object that is to be kept -/
def En.hold (E : En) (p : Addr) (o : HO) : En := { E with H0 := upd E.H0 p o }
section
variable {X : Cx} {E : En} {a b c e : Expr} {es : List Expr} {fa fb fc fe : DX} {fr fl : DA} {pos : Pos} {σ : L2.St} {S : SS} {B H : Hp}
theorem no_pa (R : Rep E B H σ S) {p : Addr} (hpn : H p = none) : ∀ j, (j, p) ∉ E.pa := fun j hj => by
  obtain ⟨q1, c, q2⟩ := R.par _ hj
  exact own_ne R hpn j c q2 q1
theorem hold_at {p : Addr} {o : HO} : (E.hold p o).H0 p = some o := upd_same
theorem hold_ne {p q : Addr} {o : HO} (h : q ≠ p) : (E.hold p o).H0 q = E.H0 q := upd_ne h
theorem Rep.hold (R : Rep E B H σ S) {p : Addr} {o : HO} (hpn : H p = none) (ho : NoTbl o) : Rep (E.hold p o) B (upd H p o) σ S := by
  have R0 : Rep E B (upd H p o) σ S := R.fresh hpn ho
  have zb : B p = none := R.sub.free hpn
  have zB0 : E.B0 p = none := R.base.free zb
  refine ⟨R0.base, R0.sub, fun q hq nt => ?_, fun q u hq h1 h2 => ?_, fun q hq => ?_, R0.tabs, R0.par, R0.len, R0.val, fun i c hi => ?_, R0.sep⟩
  · by_cases hqp : q = p
    · rw [hqp, zb]; exact zB0.symm
    · exact R0.new q (by rw [hold_ne hqp] at hq; exact hq) nt
  · by_cases hqp : q = p
    · rw [hqp] at hq ⊢; rw [upd_same, ← hq]; exact hold_at.symm
    · exact R0.frame q u (by rw [hold_ne hqp] at hq; exact hq) h1 h2
  · by_cases hqp : q = p
    · rw [hqp, upd_same]; simp
    · exact R0.keep q (by rw [hold_ne hqp] at hq; exact hq)
  · obtain ⟨a0, o0, g1, g2, g3, g4, g5⟩ := R.own i c hi
    have hne : a0 ≠ p := ne_of_none g3 hpn
    refine ⟨a0, o0, g1, g2, by rw [upd_ne hne]; exact g3, g4, g5.elim (fun z => .inl ?_) .inr⟩
    rw [hold_ne hne]; exact z
/-- what was held, and the rest -/
theorem Rep.unhold {p : Addr} {o : HO} (R : Rep (E.hold p o) B H σ S) (z0 : E.H0 p = none) (zB0 : E.B0 p = none) (npa : ∀ j, (j, p) ∉ E.pa) (ho : NoTbl o) (hnt : ∀ xs, o ≠ .tup xs := by first | assumption | (intro _ z; cases z)) :
    Rep E B H σ S ∧ H p = some o ∧ B p = none ∧ ∀ (j : Nat) c, S[j]? = some (.own c) → σ[j]? ≠ some (some (V.ref p)) := by
  have ne1 : ∀ q, E.H0 q ≠ none → (E.hold p o).H0 q = E.H0 q := fun q hq => hold_ne fun z => hq (by rw [z]; exact z0)
  have hpo := R.frame p _ hold_at ho npa
  refine ⟨?_, hpo, (R.new p (by rw [hold_at]; simp) fun xs z => hnt xs (Option.some.inj (hpo.symm.trans z))).trans zB0, fun j c hj hz => ?_⟩
  · refine ⟨R.base, R.sub, fun q hq nt => R.new q (by rw [ne1 q hq]; exact hq) nt, fun q o hq h1 h2 => R.frame q o (by rw [ne1 q (by rw [hq]; simp)]; exact hq) h1 h2, fun q hq => R.keep q (by rw [ne1 q hq]; exact hq), R.tabs, R.par, R.len, R.val, fun i c hi => ?_, R.sep⟩
    obtain ⟨a0, o0, g1, g2, g3, g4, g5⟩ := R.own i c hi
    refine ⟨a0, o0, g1, g2, g3, g4, g5.elim (fun z => .inl ?_) .inr⟩
    by_cases hap : a0 = p
    · rw [hap, hold_at] at z; cases z
    · rw [hold_ne hap] at z; exact z
  · obtain ⟨a0, o0, g1, g2, g3, g4, g5⟩ := R.own j c hj
    rw [hz] at g1
    cases g1
    rcases g5 with z | z
    · rw [hold_at] at z; cases z
    · exact npa _ z
/-- what is held is changed -/
theorem Rep.rehold {p : Addr} {o o' : HO} (R : Rep (E.hold p o) B H σ S) (z0 : E.H0 p = none) (zB0 : E.B0 p = none) (npa : ∀ j, (j, p) ∉ E.pa) (ho : NoTbl o) (ho' : NoTbl o') (hnt : ∀ xs, o ≠ .tup xs := by first | assumption | (intro _ z; cases z)) : Rep (E.hold p o') B (upd H p o') σ S := by
  obtain ⟨R1, hp, hb, hs⟩ := R.unhold z0 zB0 npa ho
  refine ⟨R1.base, fun q u h => ?_, fun q hq nt => ?_, fun q u hq h1 h2 => ?_, fun q hq => ?_, fun P hP => ?_, R1.par, R1.len, R1.val, fun i c hi => ?_, R1.sep⟩
  · have hne : q ≠ p := fun z => by rw [z, hb] at h; cases h
    rw [upd_ne hne]; exact R1.sub _ _ h
  · by_cases hqp : q = p
    · rw [hqp, hb]; exact zB0.symm
    · exact R1.new q (by rw [hold_ne hqp] at hq; exact hq) fun xs z => nt xs (by rw [upd_ne hqp]; exact z)
  · by_cases hqp : q = p
    · rw [hqp] at hq ⊢; rw [upd_same, ← hq]; exact hold_at.symm
    · rw [upd_ne hqp]; exact R1.frame q u (by rw [hold_ne hqp] at hq; exact hq) h1 h2
  · by_cases hqp : q = p
    · rw [hqp, upd_same]; simp
    · rw [upd_ne hqp]; exact R1.keep q (by rw [hold_ne hqp] at hq; exact hq)
  · obtain ⟨⟨ps, e1, t⟩, n⟩ := R1.tabs P hP
    have hne : P ≠ p := fun z => by rw [z, hp] at e1; exact ho ps (Option.some.inj e1)
    exact ⟨⟨ps, by rw [upd_ne hne]; exact e1, t⟩, n⟩
  · obtain ⟨a0, o0, g1, g2, g3, g4, g5⟩ := R1.own i c hi
    have hne : a0 ≠ p := fun z => hs i c hi (by rw [g1, z])
    refine ⟨a0, o0, g1, g2, by rw [upd_ne hne]; exact g3, g4, g5.elim (fun z => .inl ?_) .inr⟩
    rw [hold_ne hne]; exact z
/-! ### comprehensions -/
def wipeS (S : SS) : List Nat → SS
  | [] => S
  | v :: vs => (wipeS S vs).set v .no
def valOf : Option Slot → Slot
  | some (.val d) => .val d
  | _ => .no
def restS (S1 S2 : SS) : List Nat → SS
  | [] => S2
  | v :: vs => (restS S1 S2 vs).set v (valOf S1[v]?)
theorem wipe_get (σ : L2.St) (j : Nat) : ∀ vs : List Nat, (wipe σ vs)[j]? = if j ∈ vs ∧ j < σ.length then some none else σ[j]?
  | [] => by simp [wipe]
  | v :: vs => by
    unfold wipe
    rw [List.getElem?_set, wipe_get σ j vs, wipe_length]
    by_cases h : v = j
    · subst h
      by_cases hl : v < σ.length
      · simp [hl]
      · have : σ[v]? = none := List.getElem?_eq_none_iff.mpr (by omega)
        simp [hl]
    · have h' : ¬ j = v := fun z => h z.symm
      simp [h, h']
theorem wipeS_len (S : SS) : ∀ vs : List Nat, (wipeS S vs).length = S.length
  | [] => rfl
  | v :: vs => by unfold wipeS; rw [List.length_set, wipeS_len S vs]
theorem wipeS_get (S : SS) (j : Nat) : ∀ vs : List Nat, (wipeS S vs)[j]? = if j ∈ vs ∧ j < S.length then some .no else S[j]?
  | [] => by simp [wipeS]
  | v :: vs => by
    unfold wipeS
    rw [List.getElem?_set, wipeS_get S j vs, wipeS_len]
    by_cases h : v = j
    · subst h
      by_cases hl : v < S.length
      · simp [hl]
      · have : S[v]? = none := List.getElem?_eq_none_iff.mpr (by omega)
        simp [hl]
    · have h' : ¬ j = v := fun z => h z.symm
      simp [h, h']
theorem restS_len (S1 S2 : SS) : ∀ vs : List Nat, (restS S1 S2 vs).length = S2.length
  | [] => rfl
  | v :: vs => by unfold restS; rw [List.length_set, restS_len S1 S2 vs]
theorem restS_get (S1 S2 : SS) (j : Nat) : ∀ vs : List Nat, (restS S1 S2 vs)[j]? = if j ∈ vs ∧ j < S2.length then some (valOf S1[j]?) else S2[j]?
  | [] => by simp [restS]
  | v :: vs => by
    unfold restS
    rw [List.getElem?_set, restS_get S1 S2 j vs, restS_len]
    by_cases h : v = j
    · subst h
      by_cases hl : v < S2.length
      · simp [hl]
      · have : S2[v]? = none := List.getElem?_eq_none_iff.mpr (by omega)
        simp [hl]
    · have h' : ¬ j = v := fun z => h z.symm
      simp [h, h']
theorem Rep.wiped (R : Rep E B H σ S) {vs : List Nat} (hp : ∀ q ∈ E.pa, q.1 ∉ vs) : Rep E B H (wipe σ vs) (wipeS S vs) := by
  have oi : ∀ {j : Nat} {c}, (wipeS S vs)[j]? = some (.own c) → j ∉ vs ∧ S[j]? = some (.own c) := fun {j : Nat} {c} h => by
    rw [wipeS_get] at h
    split at h
    · cases h
    · rename_i hn
      refine ⟨fun z => hn ⟨z, (List.getElem?_eq_some_iff.mp h).1⟩, h⟩
  have nσ : ∀ {j : Nat}, j ∉ vs → (wipe σ vs)[j]? = σ[j]? := fun {j : Nat} h => by
    rw [wipe_get, if_neg fun z => h z.1]
  refine ⟨R.base, R.sub, R.new, R.frame, R.keep, R.tabs, fun q hq => ?_, by rw [wipeS_len, wipe_length]; exact R.len, fun j d h => ?_, fun j c h => ?_, fun j k c c' x hjk h1 h2 => ?_⟩
  · obtain ⟨h1, c, h2⟩ := R.par q hq
    exact ⟨by rw [nσ (hp q hq)]; exact h1, c, by rw [wipeS_get, if_neg fun z => hp q hq z.1]; exact h2⟩
  · rw [wipeS_get] at h
    split at h
    · cases h
    · rename_i hn
      have hj : j ∉ vs := fun z => hn ⟨z, (List.getElem?_eq_some_iff.mp h).1⟩
      rw [nσ hj]
      exact R.val j d h
  · obtain ⟨hj, h⟩ := oi h
    rw [nσ hj]
    exact R.own j c h
  · obtain ⟨hj, h1⟩ := oi h1
    obtain ⟨hk, h2⟩ := oi h2
    rw [nσ hj, nσ hk]
    exact R.sep j k c c' x hjk h1 h2
theorem Rep.restored {B1 H1 : Hp} {S1 S2 : SS} {vs : List Nat} (R1 : Rep E B1 H1 σ S1) (s : Same B1 B) (R2 : Rep E B H (wipe σ vs) S2) (hp : ∀ q ∈ E.pa, q.1 ∉ vs) : Rep E B H σ (restS S1 S2 vs) := by
  have hlen : S2.length = σ.length := by rw [R2.len, wipe_length]
  have nσ : ∀ {j : Nat}, j ∉ vs → (wipe σ vs)[j]? = σ[j]? := fun {j : Nat} h => by
    rw [wipe_get, if_neg fun z => h z.1]
  have oi : ∀ {j : Nat} {c}, (restS S1 S2 vs)[j]? = some (.own c) → j ∉ vs ∧ S2[j]? = some (.own c) := fun {j : Nat} {c} h => by
    rw [restS_get] at h
    split at h
    · unfold valOf at h
      split at h <;> cases h
    · rename_i hn
      exact ⟨fun z => hn ⟨z, (List.getElem?_eq_some_iff.mp h).1⟩, h⟩
  refine ⟨R2.base, R2.sub, R2.new, R2.frame, R2.keep, R2.tabs, fun q hq => ?_, by rw [restS_len]; exact hlen, fun j d h => ?_, fun j c h => ?_, fun j k c c' x hjk h1 h2 => ?_⟩
  · obtain ⟨h1, c, h2⟩ := R2.par q hq
    exact ⟨by rw [← nσ (hp q hq)]; exact h1, c, by rw [restS_get, if_neg fun z => hp q hq z.1]; exact h2⟩
  · rw [restS_get] at h
    split at h
    · rename_i hj
      unfold valOf at h
      split at h
      · rename_i d' hd
        cases h
        obtain ⟨v, g1, g2⟩ := R1.val j _ hd
        exact ⟨v, g1, dp_mono s g2⟩
      · cases h
    · rename_i hn
      have hj : j ∉ vs := fun z => hn ⟨z, (List.getElem?_eq_some_iff.mp h).1⟩
      rw [← nσ hj]
      exact R2.val j d h
  · obtain ⟨hj, h⟩ := oi h
    rw [← nσ hj]
    exact R2.own j c h
  · obtain ⟨hj, h1⟩ := oi h1
    obtain ⟨hk, h2⟩ := oi h2
    rw [← nσ hj, ← nσ hk]
    exact R2.sep j k c c' x hjk h1 h2
def runLc (st : D → SS → Option SS) (tt : DT) (te : DX) (vs : List Nat) : List D → List D → SS → Option (List D × SS)
  | [], acc, S => some (acc, S)
  | d :: ds, acc, S => (st d S).bind fun S1 => (tt S1).bind fun b => if b.1 = true then (te b.2).bind fun y => if acc.length < 100000 then runLc st tt te vs ds (acc ++ [y.1]) (wipeS y.2 vs) else none
    else runLc st tt te vs ds acc (wipeS b.2 vs)
def yLc (fs : DA) (st : D → SS → Option SS) (tt : DT) (te : DX) (vs : List Nat) : DA := fun S => (fs S).bind fun p => (runLc st tt te vs p.1 [] (wipeS p.2 vs)).map fun q => (q.1, restS p.2 q.2 vs)
theorem wipe_wipe {σ σ2 : L2.St} {vs : List Nat} (hl : σ2.length = σ.length) (h : ∀ j, j ∉ vs → σ2[j]? = σ[j]?) : wipe σ2 vs = wipe σ vs := by
  refine List.ext_getElem? fun j => ?_
  rw [wipe_get, wipe_get, hl]
  by_cases hj : j ∈ vs
  · by_cases hl2 : j < σ.length
    · simp [hj, hl2]
    · have h1 : σ2[j]? = none := List.getElem?_eq_none_iff.mpr (by omega)
      have h2 : σ[j]? = none := List.getElem?_eq_none_iff.mpr (by omega)
      simp [hl2, h1, h2]
  · simp [hj, h j hj]
/-- a target by data that stores the comprehension's own names alone -/
def TgV (vs : List Nat) (E : En) (g : TG) (st : D → SS → Option SS) : Prop :=
  ∀ (x : V) (d : D) (σ : L2.St) (B H : Hp) (S S' : SS) (Q : L2.St → Hp → Prop), Rep E B H σ S → Dp E.K B x d → st d S = some S' → (∀ σ', Rep E B H σ' S' → σ'.length = σ.length → (∀ j, j ∉ vs → σ'[j]? = σ[j]?) → Q σ' H) → g x σ H Q
theorem tv_name {i : Nat} {vs : List Nat} (hi : i ∈ vs) (hp : ∀ q ∈ E.pa, q.1 ≠ i) : TgV vs E (gName i) (setV i) := fun x d σ B H S S' Q R dx e k => by
  unfold setV at e
  split at e
  · rename_i hl
    cases e
    exact k _ (R.set dx hp hl) (by simp) fun j hj => List.getElem?_set_ne fun z => hj (by rw [← z]; exact hi)
  · cases e
theorem tv_two {K : PySem.W.Frag} {i j : Nat} {vs : List Nat} (hK : K = E.K) (hi : i ∈ vs) (hj : j ∈ vs) (hp : ∀ q ∈ E.pa, q.1 ≠ i) (hp2 : ∀ q ∈ E.pa, q.1 ≠ j) : TgV vs E (gTup K 2 (gCons (gName i) (gCons (gName j) gNil))) (setV2 i j) := fun x d σ B H S S' Q R dx e k => by
  unfold setV2 at e
  split at e
  · rename_i x1 y1
    simp only [Option.bind_eq_some_iff] at e
    obtain ⟨S1, e1, e2⟩ := e
    cases dx with
    | @tup a0 vs _ h r =>
      obtain ⟨v, w, rfl, d1, d2⟩ := dpAll2 r
      refine ⟨a0, _, rfl, by rw [hK]; exact same_seqT R.sub h, rfl, v, _, rfl, ?_⟩
      refine tv_name hi hp v x1 σ B H S S1 _ R d1 e1 fun σ1 R1 l1 f1 => ?_
      exact ⟨w, [], rfl, tv_name hj hp2 w y1 σ1 B H S1 S' _ R1 d2 e2 fun σ2 R2 l2 f2 => ⟨rfl, k σ2 R2 (l2.trans l1) fun n hn => (f2 n hn).trans (f1 n hn)⟩⟩
  · cases e
/-- readings that hold whatever else is held -/
def upH (E : En) (f : DX) : TE := fun σ H Q => ∃ p o, up (E.hold p o) f σ H Q
def upHT (E : En) (f : DT) : TT := fun σ H Q => ∃ p o, upT (E.hold p o) f σ H Q
theorem lc_imp {wi : TI} {g : TG} {st : D → SS → Option SS} {tt : DT} {te : DX} {vs : List Nat} {fs : DA} (hi : ∀ σ H R, upI E fs σ H R → wi σ H R) (hg : ∀ p o, TgV vs (E.hold p o) g st) (hp : ∀ q ∈ E.pa, q.1 ∉ vs) {Q : VK} (h : upL E (yLc fs st tt te vs) σ H Q) : tLc wi g (upHT E tt) (upH E te) vs σ H Q := by
  obtain ⟨B, S, ds, S', R, e, k⟩ := h
  unfold yLc at e
  simp only [Option.bind_eq_some_iff, Option.map_eq_some_iff] at e
  obtain ⟨⟨src, S1⟩, e1, ⟨ds', S2⟩, e2, e3⟩ := e
  cases e3
  refine hi σ H _ ⟨B, S, src, S1, R, e1, fun J B1 H1 s1 R1 hJ p hpn => ?_⟩
  have z0 := h0_of R1 hpn
  have zB0 : E.B0 p = none := R1.base.free (R1.sub.free hpn)
  have npa := no_pa R1 hpn
  refine ⟨fun i m H => m = src.length - i ∧ i ≤ src.length ∧ ∃ B S acc ws, Same B1 B ∧ Rep (E.hold p (.lst ws)) B H (wipe σ vs) S ∧ DpAll E.K B ws acc ∧ runLc st tt te vs (src.drop i) acc S = some (ds', S2), ⟨src.length, by simp, Nat.zero_le _, B1, _, [], [], Same.refl B1, (R1.hold hpn ntLst).wiped hp, .nil, e2⟩, ?_⟩
  rintro i m H ⟨rfl, hi', B2, S3, acc, ws, s2, R2, da, er⟩
  by_cases hlt : i < src.length
  · have hd : src[i]? = some src[i] := List.getElem?_eq_getElem hlt
    rw [drop_cons hd] at er
    unfold runLc at er
    simp only [Option.bind_eq_some_iff] at er
    obtain ⟨S4, er1, ⟨bb, S5⟩, er2, er3⟩ := er
    refine .inr ⟨hJ.go i H (s2.trans R2.sub) hlt, fun H' => ∃ B S acc ws, Same B1 B ∧ Rep (E.hold p (.lst ws)) B H' (wipe σ vs) S ∧ DpAll E.K B ws acc ∧ runLc st tt te vs (src.drop (i + 1)) acc S = some (ds', S2),
      fun H' ⟨B', S', acc', ws', h1, h2, h3, h4⟩ => ⟨src.length - (i + 1), by omega, rfl, hlt, B', S', acc', ws', h1, h2, h3, h4⟩, fun x H' y => ?_⟩
    have fin : ∀ (B' H' : Hp), Same B2 B' → Rep (E.hold p (.lst ws)) B' H' (wipe σ vs) S3 → Dp E.K B' x src[i] → g x (wipe σ vs) H' fun σ2 H2 => wipe σ2 vs = wipe σ vs ∧ upHT E tt σ2 H2 fun b H3 =>
        if b = true then upH E te σ2 H3 fun y H4 => ∃ acc, H4 p = some (.lst acc) ∧ acc.length < sizeLine ∧ ∃ B S acc' ws, Same B1 B ∧ Rep (E.hold p (.lst ws)) B (upd H4 p (.lst (acc ++ [y]))) (wipe σ vs) S ∧ DpAll E.K B ws acc' ∧ runLc st tt te vs (src.drop (i + 1)) acc' S = some (ds', S2)
        else ∃ B S acc ws, Same B1 B ∧ Rep (E.hold p (.lst ws)) B H3 (wipe σ vs) S ∧ DpAll E.K B ws acc ∧ runLc st tt te vs (src.drop (i + 1)) acc S = some (ds', S2) := fun B' H' sB R' dx => by
      refine hg p _ x _ (wipe σ vs) B' H' S3 S4 _ R' dx er1 fun σ2 R3 hl hf => ?_
      have hw : wipe σ2 vs = wipe σ vs := by
        rw [wipe_wipe hl hf]
        exact wipe_wipe (wipe_length _ _) fun j hj => by rw [wipe_get, if_neg fun z => hj z.1]
      refine ⟨hw, p, _, B', S4, bb, S5, R3, er2, fun B3 H3 s3 R4 => ?_⟩
      cases bb with
      | true =>
        simp only [if_true, Option.bind_eq_some_iff] at er3
        obtain ⟨⟨yd, S6⟩, er4, er5⟩ := er3
        split at er5
        · rename_i hsz
          refine iteT ⟨p, _, B3, S5, yd, S6, R4, er4, fun yv B4 H4 s4 R5 dy => ?_⟩
          obtain ⟨_, hH, _⟩ := R5.unhold z0 zB0 npa ntLst
          have da4 : DpAll E.K B4 ws acc := dpAll_mono ((sB.trans s3).trans s4) da
          refine ⟨ws, hH, by rw [dpAll_len da4]; exact line_lt (Nat.le_of_lt hsz), B4, _, acc ++ [yd], ws ++ [yv], ((s2.trans sB).trans s3).trans s4, ?_, dpAll_app da4 (.cons dy .nil), er5⟩
          rw [← hw]
          exact (R5.rehold z0 zB0 npa ntLst ntLst).wiped hp
        · cases er5
      | false =>
        simp at er3
        refine iteF ⟨B3, _, acc, ws, (s2.trans sB).trans s3, ?_, dpAll_mono (sB.trans s3) da, er3⟩
        rw [← hw]
        exact R4.wiped hp
    rcases hJ.yld i H x H' _ (s2.trans R2.sub) hd y with ⟨rfl, dx⟩ | ⟨T, ws', es, rfl, hT, rfl, ed, de⟩
    · exact fin B2 H' (Same.refl B2) R2 (dp_mono s2 dx)
    · obtain ⟨s4, R4, d4⟩ := new_tup R2 hT (dpAll_mono s2 de)
      exact fin _ _ s4 R4 (by rw [ed]; exact d4)
  · have hi2 : i = src.length := by omega
    subst hi2
    rw [List.drop_length] at er
    unfold runLc at er
    cases er
    refine .inl ⟨hJ.stop _ H (s2.trans R2.sub) (Nat.le_refl _), ?_⟩
    have R3 := R1.restored (S1 := S1) (vs := vs) s2 (R2.unhold z0 zB0 npa ntLst).1 hp
    obtain ⟨_, g1, g2, g3⟩ := R2.unhold z0 zB0 npa ntLst
    refine k p ws B2 H (s1.trans s2) R3 g1 g2 z0 (fun j c hj hz => ?_) da
    rw [restS_get] at hj
    split at hj
    · unfold valOf at hj
      split at hj <;> cases hj
    · rename_i hn
      have hj' : j ∉ vs := fun z => hn ⟨z, (List.getElem?_eq_some_iff.mp hj).1⟩
      exact g3 j c hj (by rw [wipe_get, if_neg fun z => hj' z.1]; exact hz)
theorem pe_H {e : Expr} {f : DX} (h : ∀ p o, PE X e (up (E.hold p o) f)) : PE X e (upH E f) := ⟨fun pins s σ H Q I ⟨p, o, q⟩ => (h p o).run pins s σ H Q I q⟩
theorem pts_no : PTs X [] (upHT E fun S => some (true, S)) := ⟨fun pins s σ H Q I ⟨p, o, B, S, d, S', R, e, k⟩ => by
  cases e
  exact pts_nil.run pins s σ H Q I (k B H (Same.refl B) R)⟩
theorem pts_H {c : Expr} {f : DT} (h : ∀ p o, PT X c (upT (E.hold p o) f)) : PTs X [c] (upHT E f) := ⟨fun pins s σ H Q I ⟨p, o, q⟩ => (pts_one (h p o)).run pins s σ H Q I q⟩
def yesT : DT := fun S => some (true, S)
/-- [elt for tg in iter if ..], a new list -/
theorem l_lc {elt tg iter : Expr} {ifs : List Expr} {scope : Scope} {own : List (Str × Nat)} {fs : DA} {g : TG} {st : D → SS → Option SS} {tt : DT} {te : DX} (hc : X.calm = true) (hN : X.N.Nodup) (hi : PI X tg iter (upI E fs)) (ok : BlkOk X.N X.env.scope scope own)
    (hg : ∀ (s : Shared) (H : Hp) (C : Addr) (cl : List (Str × Addr)) (fp : List Addr), PG (X.blk s H scope (compEnvC scope cl C X.env) fp) tg g) (hgD : ∀ p o, TgV (own.map (·.2)) (E.hold p o) g st) (hp : ∀ q ∈ E.pa, q.1 ∉ own.map (·.2))
    (ht : ∀ (s : Shared) (H : Hp) (C : Addr) (cl : List (Str × Addr)) (fp : List Addr), PTs (X.blk s H scope (compEnvC scope cl C X.env) fp) ifs (upHT E tt))
    (he : ∀ (s : Shared) (H : Hp) (C : Addr) (cl : List (Str × Addr)) (fp : List Addr) p o, PE (X.blk s H scope (compEnvC scope cl C X.env) fp) elt (up (E.hold p o) te)) (hs : ∀ x, foldedSetIterable iter X.env x = pure x := by intro _; rfl) :
    PE X (.ListComp elt [⟨tg, iter, ifs, 0⟩] scope pos) (upL E (yLc fs st tt te (own.map (·.2)))) :=
  PE.imp (pe_lc hc hN hi ok hg ht (fun s H C cl fp => pe_H fun p o => he s H C cl fp p o) hs) fun σ H Q h => lc_imp (fun _ _ _ h => h) hgD hp h
/-- .. as a value -/
theorem d_L {e : Expr} {fl : DA} (h : PE X e (upL E fl)) : PE X e (up E (xL fl)) := PE.imp h fun σ H Q q => up_L q
theorem s_setLc {i : Nat} {y : Str} {py : Pos} {spos : Pos} {elt tg iter : Expr} {ifs : List Expr} {scope : Scope} {own : List (Str × Nat)} {fs : DA} {g : TG} {st : D → SS → Option SS} {tt : DT} {te : DX} (hpi : ∀ q ∈ E.pa, q.1 ≠ i) (hc : X.calm = true) (hN : X.N.Nodup) (hy : X.N[i]? = some y) (hyl : X.env.scope.names.lookup y = some .local)
    (hsw : swapsWith (.ListComp elt [⟨tg, iter, ifs, 0⟩] scope pos) (some (.Name y py)) spos.line X.env = pure true) (hi : PI X tg iter (upI E fs)) (ok : BlkOk X.N X.env.scope scope own)
    (hg : ∀ (s : Shared) (H : Hp) (C : Addr) (cl : List (Str × Addr)) (fp : List Addr), PG (X.blk s H scope (compEnvC scope cl C X.env) fp) tg g) (hgD : ∀ p o, TgV (own.map (·.2)) (E.hold p o) g st) (hp : ∀ q ∈ E.pa, q.1 ∉ own.map (·.2))
    (ht : ∀ (s : Shared) (H : Hp) (C : Addr) (cl : List (Str × Addr)) (fp : List Addr), PTs (X.blk s H scope (compEnvC scope cl C X.env) fp) ifs (upHT E tt))
    (he : ∀ (s : Shared) (H : Hp) (C : Addr) (cl : List (Str × Addr)) (fp : List Addr) p o, PE (X.blk s H scope (compEnvC scope cl C X.env) fp) elt (up (E.hold p o) te)) (hs : ∀ x, foldedSetIterable iter X.env x = pure x := by intro _; rfl) :
    PS X (.Assign [.Name y py] (.ListComp elt [⟨tg, iter, ifs, 0⟩] scope pos) spos) (upS E (sSet i (xL (yLc fs st tt te (own.map (·.2)))))) :=
  PS.imp (ps_setLc hc hN hy hyl hsw hi ok hg ht (fun s H C cl fp => pe_H fun p o => he s H C cl fp p o) hs) fun σ H D ⟨B, S, r, R, e, k⟩ => by
    unfold sSet setV at e
    simp only [Option.bind_eq_some_iff, Option.map_eq_some_iff] at e
    obtain ⟨⟨d, S1⟩, e1, S2, e2, e3⟩ := e
    split at e2
    · rename_i hl
      cases e2
      cases e3
      refine lc_imp (fun _ _ _ h => h) hgD hp (up_L ⟨B, S, d, S1, R, e1, fun v B' H' s' R' dv => ?_⟩)
      exact k _ B' H' s' (R'.set dv hpi hl)
    · cases e2
end
end BC
set_option Elab.async false
set_option linter.all false
set_option maxRecDepth 100000
set_option maxHeartbeats 2000000
namespace BC
open PySem PySem.Spec PyProof.Rows L2 GxR
abbrev FD := SS → Option (D × SS)
/-- THE PROMISE of a def by data: n parameters, f -/
def FnD (K : PySem.W.Frag) (T : List Addr) (n : Nat) (ow : List Nat) (f : FD) : Sp := fun vs H Q _ => ∃ (E : En) (as : SS) (d : D) (outs : SS), E.K = K ∧ E.T = T ∧ E.H0 = H ∧ as.length = n ∧ (∀ (i : Nat) c, as[i]? = some (.own c) → i ∈ ow) ∧ (∀ (i : Nat) c a, as[i]? = some (.own c) → vs[i]? = some (V.ref a) → (i, a) ∈ E.pa) ∧
  Rep E E.B0 H (vs.map some) as ∧ f as = some (d, outs) ∧ ∀ v B' H', Same E.B0 B' → Rep E B' H' (vs.map some) outs → Dp E.K B' v d → Q v H'
def outsOf : SS → SS → SS
  | .own _ :: as, .own c :: S => .own c :: outsOf as S
  | _ :: as, _ :: S => .no :: outsOf as S
  | a :: as, [] => .no :: outsOf as []
  | [], _ => []
def fnF (m : Nat) (sx : SX) : FD := fun as => (sx (as ++ List.replicate m .no)).bind fun r => match r with
  | .rt d S' => some (d, outsOf as S')
  | .nx S' => some (.none, outsOf as S')
  | _ => none
theorem outsOf_len : ∀ as S : SS, (outsOf as S).length = as.length
  | [], _ => rfl
  | a :: as, [] => by cases a <;> simp [outsOf, outsOf_len as []]
  | a :: as, s :: S => by cases a <;> cases s <;> simp [outsOf, outsOf_len as S]
theorem outsOf_val : ∀ (as S : SS) (i : Nat) d, (outsOf as S)[i]? ≠ some (.val d)
  | [], _, i, d => by simp [outsOf]
  | a :: as, [], 0, d => by cases a <;> simp [outsOf]
  | a :: as, [], i + 1, d => by cases a <;> (simp only [outsOf, List.getElem?_cons_succ]; exact outsOf_val as [] i d)
  | a :: as, s :: S, 0, d => by cases a <;> cases s <;> simp [outsOf]
  | a :: as, s :: S, i + 1, d => by cases a <;> cases s <;> (simp only [outsOf, List.getElem?_cons_succ]; exact outsOf_val as S i d)
theorem outsOf_own : ∀ (as S : SS) (i : Nat) c, (outsOf as S)[i]? = some (.own c) → S[i]? = some (.own c) ∧ ∃ c', as[i]? = some (.own c')
  | [], _, i, d => by simp [outsOf]
  | a :: as, [], 0, d => by cases a <;> simp [outsOf]
  | a :: as, [], i + 1, d => by cases a <;> (simp only [outsOf, List.getElem?_cons_succ]; intro h; obtain ⟨h1, h2⟩ := outsOf_own as [] i d h; exact ⟨by simp at h1, h2⟩)
  | a :: as, s :: S, 0, d => by cases a <;> cases s <;> simp [outsOf]
  | a :: as, s :: S, i + 1, d => by cases a <;> cases s <;> (simp only [outsOf, List.getElem?_cons_succ]; exact outsOf_own as S i d)
theorem outsOf_get : ∀ (as S : SS) (i : Nat) c c', as[i]? = some (.own c) → S[i]? = some (.own c') → (outsOf as S)[i]? = some (.own c')
  | [], _, i, c, c', h, _ => by simp at h
  | a :: as, [], i, c, c', _, h => by simp at h
  | a :: as, s :: S, 0, c, c', h1, h2 => by
    simp at h1 h2
    subst h1 h2
    simp [outsOf]
  | a :: as, s :: S, i + 1, c, c', h1, h2 => by
    simp only [List.getElem?_cons_succ] at h1 h2
    cases a <;> cases s <;> (simp only [outsOf, List.getElem?_cons_succ]; exact outsOf_get as S i c c' h1 h2)
section
variable {E : En} {σ : L2.St} {S : SS} {B H : Hp}
theorem Rep.extend (R : Rep E B H σ S) (m : Nat) : Rep E B H (σ ++ List.replicate m none) (S ++ List.replicate m .no) := by
  have gS : ∀ {i : Nat} {s}, (S ++ List.replicate m Slot.no)[i]? = some s → s ≠ .no → S[i]? = some s ∧ i < S.length := fun {i : Nat} {s} h hn => by
    by_cases hi : i < S.length
    · rw [List.getElem?_append_left hi] at h; exact ⟨h, hi⟩
    · rw [List.getElem?_append_right (by omega), List.getElem?_replicate] at h
      split at h
      · cases h; exact absurd rfl hn
      · cases h
  have gσ : ∀ {i : Nat}, i < S.length → (σ ++ List.replicate m none)[i]? = σ[i]? := fun {i : Nat} h => List.getElem?_append_left (by rw [← R.len]; exact h)
  refine ⟨R.base, R.sub, R.new, R.frame, R.keep, R.tabs, fun q hq => ?_, by simp [R.len], fun i d h => ?_, fun i c h => ?_, fun i j c c' a hij h1 h2 => ?_⟩
  · obtain ⟨h1, c, h2⟩ := R.par q hq
    have hl := (List.getElem?_eq_some_iff.mp h2).1
    exact ⟨by rw [gσ hl]; exact h1, c, by rw [List.getElem?_append_left hl]; exact h2⟩
  · obtain ⟨h1, hl⟩ := gS h (by simp)
    rw [gσ hl]
    exact R.val i d h1
  · obtain ⟨h1, hl⟩ := gS h (by simp)
    rw [gσ hl]
    exact R.own i c h1
  · obtain ⟨g1, hl1⟩ := gS h1 (by simp)
    obtain ⟨g2, hl2⟩ := gS h2 (by simp)
    rw [gσ hl1, gσ hl2]
    exact R.sep i j c c' a hij g1 g2
/-- behind a body: the parameters' own objects alone -/
theorem Rep.leave {B0 H0 : Hp} {vs : List V} {as : SS} (R0 : Rep E B0 H0 (vs.map some) as) (hpa : ∀ (i : Nat) c a, as[i]? = some (.own c) → vs[i]? = some (V.ref a) → (i, a) ∈ E.pa) (R : Rep E B H σ S) : Rep E B H (vs.map some) (outsOf as S) := by
  have oi : ∀ {i : Nat} {c}, (outsOf as S)[i]? = some (.own c) → S[i]? = some (.own c) ∧ ∃ a, (i, a) ∈ E.pa ∧ (vs.map some)[i]? = some (some (V.ref a)) ∧ σ[i]? = some (some (V.ref a)) := fun {i : Nat} {c} h => by
    obtain ⟨h1, c', h2⟩ := outsOf_own as S i c h
    obtain ⟨a, o, e, _⟩ := R0.own i c' h2
    have hv : vs[i]? = some (V.ref a) := by
      rw [List.getElem?_map, Option.map_eq_some_iff] at e
      obtain ⟨v, e1, e2⟩ := e
      cases e2
      exact e1
    have hm := hpa i c' a h2 hv
    exact ⟨h1, a, hm, e, (R.par _ hm).1⟩
  refine ⟨R.base, R.sub, R.new, R.frame, R.keep, R.tabs, fun q hq => ?_, by rw [outsOf_len]; exact R0.len, fun i d h => absurd h (outsOf_val as S i d), fun i c h => ?_, fun i j c c' a hij h1 h2 h3 => ?_⟩
  · obtain ⟨h1, c, h2⟩ := R0.par q hq
    obtain ⟨_, c', h4⟩ := R.par q hq
    exact ⟨h1, c', outsOf_get as S q.1 c c' h2 h4⟩
  · obtain ⟨h1, a, h2, h3, h4⟩ := oi h
    obtain ⟨x, o, e, r⟩ := R.own i c h1
    rw [h4] at e
    cases e
    exact ⟨a, o, h3, r⟩
  · obtain ⟨g1, a1, _, f1, f2⟩ := oi h1
    obtain ⟨g2, a2, _, f3, f4⟩ := oi h2
    rw [f1] at h3
    cases h3
    rw [f3]
    have := R.sep i j c c' a hij g1 g2 f2
    rw [f4] at this
    exact this
end
/-- the def at f keeps f's data promise, with room for k calls -/
abbrev FnK (P : Program) (w : World) (K : PySem.W.Frag) (mg : Str → Option Value) (base : Heap) (T : List Addr) (k : Nat) (a : Addr) (fd : FuncData) (ps : List Str) (ow : List Nat) (f : FD) : Prop := FnOk P w K mg base CX0 k a fd ps (FnD K T ps.length ow f)
section
variable {P : Program} {w : World} {K : PySem.W.Frag} {mg : Str → Option Value} {base : Heap} {T : List Addr}
/-- a def of the text, its code object told -/
structure FunC (K : PySem.W.Frag) (x qual : Str) (st : Stmt) (f : Addr) (fd : FuncData) (cdv : Value) : Prop where
  ex : ∃ (oc : Value) (od : Option Addr) (kV doc pm : Value) (an : Option Addr) (ct : Value) (osl : Array (Option Value)),
    fd = PySem.W.fnOf x qual (defArgs st) (defBody st) (defScope st) .none kV doc pm an cdv ct ∧ K.lookup f = some ⟨oc, od, .func fd, osl⟩ ∧ PySem.W.codeIn K cdv qual = true
  kp : PySem.W.keepIn K (.ref f) = true
theorem FunC.fun {x qual : Str} {st : Stmt} {f : Addr} {fd : FuncData} {cdv : Value} (F : FunC K x qual st f fd cdv) : Fun K x qual st f fd :=
  let ⟨oc, od, kV, doc, pm, an, ct, osl, h⟩ := F.ex
  ⟨⟨oc, od, kV, doc, pm, an, cdv, ct, osl, h⟩, F.kp⟩
/-- what a body's derivation knows -/
structure Bx (X : Cx) (E : En) (T : List Addr) (ow : List Nat) : Prop where
  K : X.K = E.K
  T : E.T = T
  pa : ∀ q ∈ E.pa, q.1 ∈ ow
theorem Bx.np {X : Cx} {E : En} {T : List Addr} {ow : List Nat} (b : Bx X E T ow) {i : Nat} (h : i ∉ ow) : ∀ q ∈ E.pa, q.1 ≠ i := fun q hq z => h (by rw [← z]; exact b.pa q hq)
theorem Bx.nps {X : Cx} {E : En} {T : List Addr} {ow is : List Nat} (b : Bx X E T ow) (h : ∀ i ∈ is, i ∉ ow) : ∀ q ∈ E.pa, q.1 ∉ is := fun q hq z => h _ z (b.pa q hq)
theorem fn_data {x qual : Str} {st : Stmt} {f : Addr} {fd : FuncData} {cdv : Value} {N ps : List Str} {k m : Nat} {ow : List Nat} {sx : SX} (F : FunC K x qual st f fd cdv) (S : FnScope N ps (defScope st)) (hN : N.length = ps.length + m)
    (hbody : ∀ (A : Around) (outer : List Env) (s : Shared) (H : Hp) (E' : XK), Room k (A.deeper (envOfC qual (defScope st) s.heap.objs.size f cdv)) →
      ∀ E : En, Bx (cxOf CX0 P w K mg base N qual (defScope st) f cdv A outer s H E').nox E T ow → PSs (cxOf CX0 P w K mg base N qual (defScope st) f cdv A outer s H E').nox (defBody st) (upS E sx)) : FnK P w K mg base T (k + 1) f fd ps ow (fnF m sx) := by
  obtain ⟨oc, od, kV, doc, pm, an, ct, osl, rfl, lk, hcd⟩ := F.ex
  refine fn_of lk hcd S (fun vs H Q E h => ?_) (fun A outer s H vs Q E' hr h => ?_)
  · obtain ⟨E, as, d, outs, _, _, _, hl, _, _, R, _⟩ := h
    have := R.len
    rw [List.length_map] at this
    omega
  · obtain ⟨E, as, d, outs, hK, hT, hH, hl, how, hpa, R, e, kk⟩ := h
    refine ⟨upS E sx, (hbody A outer s H E' hr E ⟨hK.symm, hT, fun q hq => let ⟨_, c, hc⟩ := R.par q hq; how _ c hc⟩).nox, ?_⟩
    unfold fnF at e
    simp only [Option.bind_eq_some_iff] at e
    obtain ⟨r, e1, e2⟩ := e
    have hv : vs.length = ps.length := by
      have := R.len
      rw [List.length_map] at this
      omega
    have hst : L2.start N vs = vs.map some ++ List.replicate m none := by
      unfold L2.start
      rw [hv, hN]
      congr 2
      omega
    rw [hst]
    refine ⟨E.B0, _, r, R.extend m, e1, ?_⟩
    cases r with
    | rt d' S' =>
      cases e2
      exact fun v σ' B' H' s' R' dv => kk v B' H' s' (R.leave hpa R') dv
    | nx S' =>
      cases e2
      exact fun σ' B' H' s' R' => kk .non B' H' s' (R.leave hpa R') .non
    | bk S' => cases e2
    | ct S' => cases e2
end
/-! ### calls -/
section
variable {X : Cx} {E : En} {a b c e : Expr} {es : List Expr} {fa fb fc fe : DX} {fr fl : DA} {pos : Pos} {σ : L2.St} {S : SS} {B H : Hp}
theorem getD_of {K : PySem.W.Frag} {B : Hp} : ∀ {vs : List V} {ds : List D} {i : Nat} {v : V}, DpAll K B vs ds → vs[i]? = some v → ∃ d, ds[i]? = some d ∧ Dp K B v d
  | _, _, _, _, .nil, h => by simp at h
  | _, _, 0, _, .cons h _, e => by simp at e; subst e; exact ⟨_, rfl, h⟩
  | _, _, i + 1, _, .cons _ r, e => by
    obtain ⟨v, h1, h2⟩ := getD_of (i := i) r (by simpa using e)
    exact ⟨v, by simpa using h1, h2⟩
/-- a callee's view of the state: every argument a value -/
theorem Rep.enter (R : Rep E B H σ S) {vs : List V} {ds : List D} (h : DpAll E.K B vs ds) : Rep ⟨E.K, B, H, E.T, []⟩ B H (vs.map some) (ds.map .val) := by
  have vi : ∀ {i : Nat} {d}, (ds.map Slot.val)[i]? = some (.val d) → ds[i]? = some d := fun {i : Nat} {d} h => by
    rw [List.getElem?_map, Option.map_eq_some_iff] at h
    obtain ⟨x, h1, h2⟩ := h
    cases h2
    exact h1
  have no : ∀ {i : Nat} {c}, (ds.map Slot.val)[i]? ≠ some (.own c) := fun {i : Nat} {c} h => by
    rw [List.getElem?_map, Option.map_eq_some_iff] at h
    obtain ⟨x, h1, h2⟩ := h
    cases h2
  refine ⟨Same.refl B, R.sub, fun _ _ _ => rfl, fun _ _ h _ _ => h, fun _ h => h, R.tabs, (fun q hq => nomatch hq), by simp [dpAll_len h], fun i d hd => ?_, fun i c hc => absurd hc no, fun i j c c' a _ hc => absurd hc no⟩
  obtain ⟨v, g1, g2⟩ := dpAll_get h (vi hd)
  exact ⟨v, by rw [List.getElem?_map, g1]; rfl, g2⟩
/-- .. and back -/
theorem Rep.back {B' H' : Hp} {σc : L2.St} {outs : SS} (R : Rep E B H σ S) (Rc : Rep ⟨E.K, B, H, E.T, []⟩ B' H' σc outs) : Rep E B' H' σ S := by
  refine ⟨R.base.trans Rc.base, Rc.sub, fun p h nt => (Rc.new p (R.keep p h) nt).trans (R.new p h fun xs z => nt xs (Rc.frame p _ z ntTup (fun j z => nomatch z))), fun p o h h1 h2 => Rc.frame p o (R.frame p o h h1 h2) h1 (fun j z => nomatch z), fun p h => Rc.keep p (R.keep p h), Rc.tabs, R.par, R.len, fun i d h => ?_, fun i c h => ?_, R.sep⟩
  · obtain ⟨v, g1, g2⟩ := R.val i d h
    exact ⟨v, g1, dp_mono Rc.base g2⟩
  · obtain ⟨a, o, g1, g2, g3, g4, g5⟩ := R.own i c h
    have fa := Rc.frame a o g3 (cellR_no g4) (fun j z => nomatch z)
    exact ⟨a, o, g1, (Rc.new a (by show H a ≠ none; rw [g3]; simp) fun xs z => cellR_nt g4 xs (Option.some.inj (fa.symm.trans z))).trans g2, fa, cellR_mono Rc.base g4, g5⟩
/-- f(e, ..), every argument a value -/
def xFn (f : FD) (fr : DA) : DX := fun S => (fr S).bind fun p => (f (p.1.map .val)).map fun q => (q.1, p.2)
theorem d_call {x : Str} {p : Pos} {k : Nat} {g : Addr} {fd : FuncData} {ps : List Str} {ow : List Nat} {f : FD} {T : List Addr} (F : FnK X.prog X.w X.K X.mg X.base T k g fd ps ow f) (hK : X.K = E.K) (hT : E.T = T) (hr : Room k X.A) (hg : Gl X x) (hm : X.mg x = some (.ref g)) (hk : PySem.W.keepIn X.K (.ref g) = true) (hb : Binds X.K fd ps [])
    (hn : (e :: es).length = ps.length) (hfr : ∀ S p, fr S = some p → p.1.length = (e :: es).length) (ha : PA X (e :: es) (upA E fr)) (hdb : (x == ("__debug__" : Str)) = false := by decide) (he : starEach (e :: es) X.env = (false, eval e X.env) :: starEach es X.env := by rfl) (hpl : (backTo pos (starEach es X.env)).any (·.1) = false := by rfl) :
    PE X (.Call (.Name x p) (e :: es) [] pos) (up E (xFn f fr)) :=
  PE.imp (pe_call F hr hg hm hk hb .nil pass0 ha hdb he hpl) fun σ H Q ⟨B, S, d, S', R, e, kk⟩ => by
    unfold xFn at e
    simp only [Option.bind_eq_some_iff, Option.map_eq_some_iff] at e
    obtain ⟨⟨ds, S1⟩, e1, ⟨d1, outs⟩, e2, e3⟩ := e
    cases e3
    refine ⟨B, S, ds, _, R, e1, fun vs B1 H1 s1 R1 dv => ?_⟩
    show FnD X.K T ps.length ow f (vs ++ []) H1 Q E0
    rw [List.append_nil]
    refine ⟨⟨E.K, B1, H1, E.T, []⟩, ds.map .val, _, outs, hK.symm, hT, rfl, ?_, fun i c h => ?_, fun i c a h => ?_, R1.enter dv, e2, fun v B' H' s' R' dv' => kk v B' H' (s1.trans s') (R1.back R') dv'⟩
    · have q := hfr S _ e1
      rw [List.length_map]
      exact q.trans hn
    · rw [List.getElem?_map, Option.map_eq_some_iff] at h
      obtain ⟨_, _, h2⟩ := h
      cases h2
    · rw [List.getElem?_map, Option.map_eq_some_iff] at h
      obtain ⟨_, _, h2⟩ := h
      cases h2
theorem d_call0 {x : Str} {p : Pos} {k : Nat} {g : Addr} {fd : FuncData} {ow : List Nat} {f : FD} {T : List Addr} (F : FnK X.prog X.w X.K X.mg X.base T k g fd [] ow f) (hK : X.K = E.K) (hT : E.T = T) (hr : Room k X.A) (hg : Gl X x) (hm : X.mg x = some (.ref g)) (hk : PySem.W.keepIn X.K (.ref g) = true) (hb : Binds X.K fd [] []) (hdb : (x == ("__debug__" : Str)) = false := by decide) :
    PE X (.Call (.Name x p) [] [] pos) (up E (xFn f yNil)) :=
  PE.imp (pe_call0 F hr hg hm hk hb .nil pass0 hdb) fun σ H Q ⟨B, S, d, S', R, e, kk⟩ => by
    unfold xFn yNil at e
    simp only [Option.bind_eq_some_iff, Option.map_eq_some_iff] at e
    obtain ⟨⟨ds, S1⟩, e1, ⟨d1, outs⟩, e2, e3⟩ := e
    cases e1
    cases e3
    show FnD X.K T 0 ow f ([] ++ []) H Q E0
    exact ⟨⟨E.K, B, H, E.T, []⟩, [], _, outs, hK.symm, hT, rfl, rfl, (fun i c h => by simp at h), (fun i c a h => by simp at h), R.enter (vs := []) .nil, e2, fun v B' H' s' R' dv' => kk v B' H' s' (R.back R') dv'⟩
theorem yNil_len : ∀ S p, yNil S = some p → p.1.length = 0 := fun S p h => by cases h; rfl
theorem yCons_len {fe : DX} {fr : DA} {n : Nat} (h : ∀ S p, fr S = some p → p.1.length = n) : ∀ S p, yCons fe fr S = some p → p.1.length = n + 1 := fun S p e => by
  unfold yCons at e
  simp only [Option.bind_eq_some_iff, Option.map_eq_some_iff] at e
  obtain ⟨_, _, ⟨ds, S2⟩, e2, e3⟩ := e
  cases e3
  simp [h _ _ e2]
/-! ### one argument is a name's own object -/
/-- one own object at place j -/
theorem Rep.enterO (R : Rep E B H σ S) {pre post : List D} {us ws : List V} {i : Nat} {c : Cell} {a : Addr} (h1 : DpAll E.K B us pre) (h2 : DpAll E.K B ws post) (hi : S[i]? = some (.own c)) (hσ : σ[i]? = some (some (V.ref a))) :
    Rep ⟨E.K, B, H, E.T, [(pre.length, a)]⟩ B H ((us ++ V.ref a :: ws).map some) (pre.map .val ++ .own c :: post.map .val) := by
  obtain ⟨a', o, g1, g2, g3, g4, _⟩ := R.own i c hi
  rw [hσ] at g1
  cases g1
  have l1 := dpAll_len h1
  have l2 := dpAll_len h2
  have at_ : ∀ {n : Nat} {s}, (pre.map Slot.val ++ Slot.own c :: post.map Slot.val)[n]? = some s → (n < pre.length ∧ ∃ d, s = .val d ∧ pre[n]? = some d) ∨ (n = pre.length ∧ s = .own c) ∨ (pre.length < n ∧ ∃ d, s = .val d ∧ post[n - pre.length - 1]? = some d) := fun {n : Nat} {s} h => by
    by_cases hn : n < pre.length
    · rw [List.getElem?_append_left (by simpa using hn), List.getElem?_map, Option.map_eq_some_iff] at h
      obtain ⟨d, h1, h2⟩ := h
      exact .inl ⟨hn, d, h2.symm, h1⟩
    · rw [List.getElem?_append_right (by simpa using hn), List.length_map] at h
      by_cases hn2 : n = pre.length
      · rw [hn2, Nat.sub_self] at h
        exact .inr (.inl ⟨hn2, (Option.some.inj h).symm⟩)
      · obtain ⟨m, hm⟩ : ∃ m, n - pre.length = m + 1 := ⟨n - pre.length - 1, by omega⟩
        rw [hm, List.getElem?_cons_succ, List.getElem?_map, Option.map_eq_some_iff] at h
        obtain ⟨d, h1, h2⟩ := h
        exact .inr (.inr ⟨by omega, d, h2.symm, by rw [hm]; exact h1⟩)
  have sg : ∀ (n : Nat), ((us ++ V.ref a :: ws).map some)[n]? = if n < pre.length then (us[n]?).map some else if n = pre.length then some (some (V.ref a)) else (ws[n - pre.length - 1]?).map some := fun n => by
    rw [List.getElem?_map]
    by_cases hn : n < pre.length
    · rw [if_pos hn, List.getElem?_append_left (by omega)]
    · rw [if_neg hn, List.getElem?_append_right (by omega), l1]
      by_cases hn2 : n = pre.length
      · rw [if_pos hn2, hn2, Nat.sub_self]; rfl
      · rw [if_neg hn2]
        obtain ⟨m, hm⟩ : ∃ m, n - pre.length = m + 1 := ⟨n - pre.length - 1, by omega⟩
        rw [hm, List.getElem?_cons_succ]
        rfl
  refine ⟨Same.refl B, R.sub, fun _ _ _ => rfl, fun _ _ h _ _ => h, fun _ h => h, R.tabs, fun q hq => ?_, by simp [l1, l2], fun n d h => ?_, fun n c' h => ?_, fun n m c1 c2 x hnm h3 h4 => ?_⟩
  · have : q = (pre.length, a) := by simpa using hq
    subst this
    exact ⟨by rw [sg, if_neg (by omega), if_pos rfl], c, by rw [List.getElem?_append_right (by simp)]; simp⟩
  · rcases at_ h with ⟨hn, d', e1, e2⟩ | ⟨hn, e1⟩ | ⟨hn, d', e1, e2⟩
    · cases e1
      obtain ⟨v, f1, f2⟩ := dpAll_get h1 e2
      exact ⟨v, by rw [sg, if_pos hn, f1]; rfl, f2⟩
    · cases e1
    · cases e1
      obtain ⟨v, f1, f2⟩ := dpAll_get h2 e2
      exact ⟨v, by rw [sg, if_neg (by omega), if_neg (by omega), f1]; rfl, f2⟩
  · rcases at_ h with ⟨hn, d', e1, e2⟩ | ⟨hn, e1⟩ | ⟨hn, d', e1, e2⟩
    · cases e1
    · cases e1
      exact ⟨a, o, by rw [sg, if_neg (by omega), if_pos hn], g2, g3, g4, .inr (by rw [hn]; exact List.mem_singleton.mpr rfl)⟩
    · cases e1
  · rcases at_ h3 with ⟨hn, d', e1, e2⟩ | ⟨hn, e1⟩ | ⟨hn, d', e1, e2⟩
    · cases e1
    · rcases at_ h4 with ⟨hm, d', e3, e4⟩ | ⟨hm, e3⟩ | ⟨hm, d', e3, e4⟩
      · cases e3
      · omega
      · cases e3
    · cases e1
theorem Rep.backO {B' H' : Hp} {σc : L2.St} {outs : SS} {i j : Nat} {a : Addr} {c c' : Cell} (R : Rep E B H σ S) (hi : S[i]? = some (.own c)) (hσ : σ[i]? = some (some (V.ref a))) (Rc : Rep ⟨E.K, B, H, E.T, [(j, a)]⟩ B' H' σc outs) (ho : outs[j]? = some (.own c')) : Rep E B' H' σ (S.set i (.own c')) := by
  have hl : i < S.length := (List.getElem?_eq_some_iff.mp hi).1
  have nS : ∀ (n : Nat), n ≠ i → (S.set i (.own c'))[n]? = S[n]? := fun (n : Nat) h => List.getElem?_set_ne (Ne.symm h)
  obtain ⟨a', o, g1, g2, g3, g4, g5⟩ := R.own i c hi
  rw [hσ] at g1
  cases g1
  have hnot : ∀ {p : Addr} {x : HO}, E.H0 p = some x → (∀ n, (n, p) ∉ E.pa) → p ≠ a := fun {p x} h1 h2 z => by
    rcases g5 with q | q
    · rw [z, q] at h1; cases h1
    · exact h2 i (by rw [z]; exact q)
  have inS : ∀ {n : Nat} {c1}, (S.set i (.own c'))[n]? = some (.own c1) → ∃ c2, S[n]? = some (.own c2) := fun {n : Nat} {c1} h => by
    by_cases hn : n = i
    · exact ⟨c, by rw [hn]; exact hi⟩
    · rw [nS n hn] at h; exact ⟨c1, h⟩
  refine ⟨R.base.trans Rc.base, Rc.sub, fun p h nt => (Rc.new p (R.keep p h) nt).trans (R.new p h fun xs z => nt xs (Rc.frame p _ z ntTup fun n w => ?_)), fun p x h h1 h2 => Rc.frame p x (R.frame p x h h1 h2) h1 fun n z => ?_, fun p h => Rc.keep p (R.keep p h), Rc.tabs, fun q hq => ?_, by simp [R.len], fun n d h => ?_, fun n c1 h => ?_, fun n m c1 c2 x hnm h1 h2 => ?_⟩
  · have z : H p = some (.tup xs) := z
    have : (n, p) = (j, a) := by simpa using w
    rw [(Prod.mk.inj this).2, g3] at z
    exact cellR_nt g4 xs (Option.some.inj z)
  · have : (n, p) = (j, a) := by simpa using z
    exact hnot h h2 (Prod.mk.inj this).2
  · obtain ⟨h1, c1, h2⟩ := R.par q hq
    refine ⟨h1, ?_⟩
    by_cases hn : q.1 = i
    · rw [hn, List.getElem?_set_self hl]; exact ⟨_, rfl⟩
    · rw [nS _ hn]; exact ⟨c1, h2⟩
  · by_cases hn : n = i
    · rw [hn, List.getElem?_set_self hl] at h; cases h
    · rw [nS n hn] at h
      obtain ⟨v, f1, f2⟩ := R.val n d h
      exact ⟨v, f1, dp_mono Rc.base f2⟩
  · by_cases hn : n = i
    · rw [hn, List.getElem?_set_self hl] at h
      cases h
      obtain ⟨x, u, e1, e2, e3, e4, e5⟩ := Rc.own j c' ho
      have e6 := (Rc.par (j, a) (List.mem_singleton.mpr rfl)).1
      rw [e1] at e6
      cases e6
      exact ⟨a, u, by rw [hn]; exact hσ, e2, e3, e4, by rw [hn]; exact g5⟩
    · rw [nS n hn] at h
      obtain ⟨x, u, e1, e2, e3, e4, e5⟩ := R.own n c1 h
      have hne : x ≠ a := fun z => R.sep n i c1 c x hn h hi e1 (by rw [hσ, z])
      have fx := Rc.frame x u e3 (cellR_no e4) (fun m z => hne (Prod.mk.inj (show (m, x) = (j, a) by simpa using z)).2)
      exact ⟨x, u, e1, (Rc.new x (by show H x ≠ none; rw [e3]; simp) fun xs z => cellR_nt e4 xs (Option.some.inj (fx.symm.trans z))).trans e2, fx, cellR_mono Rc.base e4, e5⟩
  · obtain ⟨d1, f1⟩ := inS h1
    obtain ⟨d2, f2⟩ := inS h2
    exact R.sep n m d1 d2 x hnm f1 f2
/-- f(name, e, ..), the name's own object first -/
def xFnO (f : FD) (i : Nat) (fr : DA) : DX := fun S => match S[i]? with
  | some (.own _) => (fr S).bind fun p => match p.2[i]? with
    | some (.own c) => (f (.own c :: p.1.map .val)).bind fun q => match q.2[(0 : Nat)]? with
      | some (.own c') => some (q.1, p.2.set i (.own c'))
      | _ => none
    | _ => none
  | _ => none
theorem d_callO {x : Str} {p : Pos} {k i : Nat} {g : Addr} {fd : FuncData} {ps : List Str} {ow : List Nat} {f : FD} {T : List Addr} (F : FnK X.prog X.w X.K X.mg X.base T k g fd ps ow f) (hK : X.K = E.K) (hT : E.T = T) (hr : Room k X.A) (hg : Gl X x) (hm : X.mg x = some (.ref g)) (hk : PySem.W.keepIn X.K (.ref g) = true) (hb : Binds X.K fd ps [])
    (h0w : 0 ∈ ow) (hn : (e :: es).length = ps.length) (hfr : ∀ S p, fr S = some p → p.1.length = es.length) (ho : PE X e (tVar i)) (ha : PA X es (upA E fr)) (hdb : (x == ("__debug__" : Str)) = false := by decide) (he : starEach (e :: es) X.env = (false, eval e X.env) :: starEach es X.env := by rfl) (hpl : (backTo pos (starEach es X.env)).any (·.1) = false := by rfl) :
    PE X (.Call (.Name x p) (e :: es) [] pos) (up E (xFnO f i fr)) :=
  PE.imp (pe_call F hr hg hm hk hb .nil pass0 (pa_cons ho ha he) hdb he hpl) fun σ H Q ⟨B, S, d, S', R, e, kk⟩ => by
    unfold xFnO at e
    split at e
    · rename_i c0 h0
      obtain ⟨a, o, g1, _⟩ := R.own i c0 h0
      simp only [Option.bind_eq_some_iff] at e
      obtain ⟨⟨ds, S1⟩, e1, e2⟩ := e
      split at e2
      · rename_i c1 h1
        simp only at h1
        simp only [Option.bind_eq_some_iff] at e2
        obtain ⟨⟨d1, outs⟩, e3, e4⟩ := e2
        split at e4
        · rename_i c2 h2
          cases e4
          refine ⟨_, g1, B, S, ds, S1, R, e1, fun ws B1 H1 s1 R1 dv => ?_⟩
          show FnD X.K T ps.length ow f (V.ref a :: ws ++ []) H1 Q E0
          rw [List.append_nil]
          refine ⟨⟨E.K, B1, H1, E.T, [(0, a)]⟩, .own c1 :: ds.map .val, _, outs, hK.symm, hT, rfl, ?_, fun n c h => ?_, fun n c x h hv => ?_, R1.enterO (pre := []) (us := []) .nil dv h1 g1, e3, fun v B' H' s' R' dv' => kk v B' H' (s1.trans s') (R1.backO h1 g1 R' h2) dv'⟩
          · have q := hfr S _ e1
            simp only [List.length_cons, List.length_map] at q hn ⊢
            omega
          · cases n with
            | zero => exact h0w
            | succ n =>
              rw [List.getElem?_cons_succ, List.getElem?_map, Option.map_eq_some_iff] at h
              obtain ⟨_, _, h2⟩ := h
              cases h2
          · cases n with
            | zero =>
              simp at hv
              subst hv
              exact List.mem_singleton.mpr rfl
            | succ n =>
              rw [List.getElem?_cons_succ, List.getElem?_map, Option.map_eq_some_iff] at h
              obtain ⟨_, _, h2⟩ := h
              cases h2
        · cases e4
      · cases e2
    · cases e
end
end BC
set_option Elab.async false
set_option linter.all false
set_option maxRecDepth 100000
set_option maxHeartbeats 2000000
namespace BC
open PySem PySem.Spec PyProof.Rows L2 GxR
/-! ### what is reckoned without a trace, in any frame -/
structure QC (X : Cx) (env : Env) (L : List (Str × V)) (s : Shared) : Prop where
  kind : env.scope.kind = .function
  glob : env.globals = mainGlobals
  blt : env.builtins = builtinsNs
  mod : Mod X.K X.mg X.base
  bk : ∀ b o, X.base.get? b = some o → s.heap.get? b = some o
  ns : ∃ m, s.heap.Ns env.locals m ∧ ∀ x v, L.lookup x = some v → ∃ u, RelV v u ∧ Look env s.heap m x u
theorem keeps_trans {s s1 s2 : Shared} (a : Keeps s s1) (b : Keeps s1 s2) : Keeps s s2 := by
  obtain ⟨h1, t1, rfl, k1⟩ := a
  obtain ⟨h2, t2, rfl, k2⟩ := b
  exact ⟨h2, t2, rfl, fun b o e => k2 b o (k1 b o e)⟩
section
variable {X : Cx} {env : Env} {L : List (Str × V)} {s s' : Shared}
theorem QC.keeps (q : QC X env L s) (k : Keeps s s') : QC X env L s' := by
  obtain ⟨h, t, rfl, kk⟩ := k
  refine ⟨q.kind, q.glob, q.blt, q.mod, fun b o e => kk b o (q.bk b o e), ?_⟩
  obtain ⟨m, hn, hl⟩ := q.ns
  refine ⟨m, ?_, fun x v e => ?_⟩
  · obtain ⟨o, es, ep, ho, r⟩ := hn
    exact ⟨o, es, ep, kk _ o ho, r⟩
  · obtain ⟨u, r, l⟩ := hl x v e
    refine ⟨u, r, l.imp id fun ⟨h1, c, h2, o, h3, h4⟩ => ⟨h1, c, h2, o, kk _ o h3, h4⟩⟩
/-- e gives v in such a state -/
def QE (X : Cx) (env : Env) (L : List (Str × V)) (k : Nat) (e : Expr) (v : V) : Prop :=
  ∀ (A : Around) (Ex : Value → Shared → Prop) (s : Shared) (Q : Value → Shared → Prop), Room k A → QC X env L s → (∀ u s', RelV v u → Keeps s s' → Q u s') → wpAny (model X.prog X.w) A (eval e env) Q Ex s
variable {k : Nat} {pos : Pos} {a b c e : Expr} {v : V}
theorem qe_name {x : Str} (h : L.lookup x = some v) (hd : (x == ("__debug__" : Str)) = false := by decide) (hcd : (x == ("__classdict__" : Str)) = false := by decide) : QE X env L k (.Name x pos) v := fun A Ex s Q hr q hQ => by
  obtain ⟨m, hn, hl⟩ := q.ns
  obtain ⟨u, r, l⟩ := hl x v h
  have fin : Q u s := hQ u s r (keeps_refl s)
  rcases l with ⟨hk, hm⟩ | ⟨hk, c, hc, hcell⟩
  · exact wpAny_Name (wpAny_loadName_local q.kind hk hn hm fin) hd
  · rcases hk with hk | hk
    · exact wpAny_Name (wpAny_loadName_cell q.kind hk hc hcell fin) hd
    · exact wpAny_Name (wpAny_loadName_free q.kind hk hc hcell fin hcd) hd
theorem qe_int {i j} : QE X env L k (.Constant (.int i) j pos) (.int i) := fun A Ex s Q hr q hQ => wpAny_Constant_int (hQ _ _ ⟨_, rfl⟩ (keeps_tok s _))
theorem q2 {i j : Int} (ha : QE X env L k a (.int i)) (hb : QE X env L k b (.int j)) {A : Around} {Ex : Value → Shared → Prop} {s : Shared} {Q : Value → Shared → Prop} {f : Value → Value → Sem Value} (hr : Room k A) (q : QC X env L s)
    (h : ∀ t u s', Keeps s s' → QC X env L s' → wpAny (model X.prog X.w) A (f (.int i t) (.int j u)) Q Ex s') :
    wpAny (model X.prog X.w) A (eval a env) (fun v s₁ => wpAny (model X.prog X.w) A (eval b env) (fun u s₂ => wpAny (model X.prog X.w) A (f v u) Q Ex s₂) Ex s₁) Ex s :=
  ha A Ex s _ hr q fun u s1 r k1 => hb A Ex s1 _ hr (q.keeps k1) fun u2 s2 r2 k2 => by
    obtain ⟨t, rfl⟩ := r
    obtain ⟨t2, rfl⟩ := r2
    exact h t t2 s2 (keeps_trans k1 k2) ((q.keeps k1).keeps k2)
theorem qe_add {i j : Int} (ha : QE X env L k a (.int i)) (hb : QE X env L k b (.int j)) : QE X env L k (.BinOp a .Add b pos) (.int (i + j)) := fun A Ex s Q hr q hQ =>
  wpAny_BinOp (q2 ha hb hr q fun t u s' ks q' => add_int (hQ _ _ ⟨_, rfl⟩ (keeps_trans ks (keeps_tok _ _))))
theorem qe_sub {i j : Int} (ha : QE X env L k a (.int i)) (hb : QE X env L k b (.int j)) : QE X env L k (.BinOp a .Sub b pos) (.int (i - j)) := fun A Ex s Q hr q hQ =>
  wpAny_BinOp (q2 ha hb hr q fun t u s' ks q' => sub_int (hQ _ _ ⟨_, rfl⟩ (keeps_trans ks (keeps_tok _ _))))
/-- a comparison of ints -/
def CmpI (op : CmpOp) (p : Int → Int → Bool) : Prop := ∀ (P : Program) (w : World) (A : Around) (i j : Int) (t u : Tok) (Q : Value → Shared → Prop) (Ex : Value → Shared → Prop) (s : Shared), Q (.bool (p i j)) s → wpAny (model P w) A (compareOp op (.int i t) (.int j u)) Q Ex s
theorem ci_lt : CmpI .Lt fun i j => decide (i < j) := fun _ _ _ _ _ _ _ _ _ _ h => lt_int h
theorem ci_le : CmpI .LtE fun i j => decide (i ≤ j) := fun _ _ _ _ _ _ _ _ _ _ h => le_int h
theorem ci_gt : CmpI .Gt fun i j => decide (j < i) := fun _ _ _ _ _ _ _ _ _ _ h => gt_int h
theorem ci_eq : CmpI .Eq fun i j => decide (i = j) := fun _ _ _ _ _ _ _ _ _ _ h => eq_int (by rw [Bool.beq_eq_decide_eq]; exact h)
theorem qe_cmp {op : CmpOp} {p : Int → Int → Bool} {i j : Int} (ho : CmpI op p) (ha : QE X env L k a (.int i)) (hb : QE X env L k b (.int j)) (hm : behindInMarks op b = false := by rfl) : QE X env L k (.Compare a [op] [b] pos) (.bl (p i j)) := fun A Ex s Q hr q hQ =>
  wpAny_Compare1 (q2 ha hb hr q fun t u s' ks q' => ho _ _ _ _ _ _ _ _ _ _ (hQ _ _ rfl ks)) hm
theorem qe_chain {op op' : CmpOp} {p p' : Int → Int → Bool} {i j l : Int} (ho : CmpI op p) (ho' : CmpI op' p') (ha : QE X env L k a (.int i)) (hb : QE X env L k b (.int j)) (hc : QE X env L k c (.int l))
    (hm : lastMarks [op, op'] [b, c] = false := by with_unfolding_all rfl) : QE X env L k (.Compare a [op, op'] [b, c] pos) (.bl (p i j && p' j l)) := fun A Ex s Q hr q hQ => by
  refine Compare_chain (ha A Ex s _ hr q fun u s1 r k1 => chain_link (hb A Ex s1 _ hr (q.keeps k1) fun u2 s2 r2 k2 => ?_)) hm
  obtain ⟨t, rfl⟩ := r
  obtain ⟨t2, rfl⟩ := r2
  refine ho _ _ _ _ _ _ _ _ _ _ (wpAny_truthy_bool ?_)
  cases hp : p i j with
  | false => exact ite_ff (hQ _ _ (by rw [hp]; rfl) (keeps_trans k1 k2))
  | true => exact ite_tt (chain_last (hc A Ex s2 _ hr ((q.keeps k1).keeps k2) fun u3 s3 r3 k3 => by
      obtain ⟨t3, rfl⟩ := r3
      exact ho' _ _ _ _ _ _ _ _ _ _ (hQ _ _ (by rw [hp]; rfl) (keeps_trans (keeps_trans k1 k2) k3))))
theorem qe_one {op} (h : QE X env L k a v) : QE X env L k (.BoolOp op [a] pos) v := fun A Ex s Q hr q hQ => BoolOp_one (h A Ex s Q hr q hQ)
theorem qe_and {rest : List Expr} {x y : Bool} (ha : QE X env L k a (.bl x)) (hb : QE X env L k (.BoolOp .And (b :: rest) pos) (.bl y)) : QE X env L k (.BoolOp .And (a :: b :: rest) pos) (.bl (x && y)) := fun A Ex s Q hr q hQ => by
  refine BoolOp_and (ha A Ex s _ hr q fun u s1 r k1 => ?_)
  cases r
  refine wpAny_truthy_bool ?_
  cases x with
  | true => exact ite_tt (hb A Ex s1 _ hr (q.keeps k1) fun u2 s2 r2 k2 => hQ _ _ (by simpa using r2) (keeps_trans k1 k2))
  | false => exact ite_ff (hQ _ _ rfl k1)
theorem qe_not {x : Bool} (ha : QE X env L k a (.bl x)) : QE X env L k (.UnaryOp .Not a pos) (.bl (!x)) := fun A Ex s Q hr q hQ => by
  refine UnaryOp_ (ha A Ex s _ hr q fun u s1 r k1 => ?_)
  cases r
  exact not_of (wpAny_truthy_bool (hQ _ _ rfl k1))
def QGl (env : Env) (x : Str) : Prop := env.kindOf x = some .globalImplicit
theorem q_glob {x : Str} {u : Value} {A : Around} {Ex : Value → Shared → Prop} {Q : Value → Shared → Prop} (q : QC X env L s) (hg : QGl env x) (hm : X.mg x = some u) (h : Q u s) (hd : (x == ("__debug__" : Str)) = false := by decide) : wpAny (model X.prog X.w) A (eval (.Name x pos) env) Q Ex s :=
  Calls.Name_function_global q.kind hg (Calls.loadGlobal_global (by rw [q.glob]; exact q.mod.glob.keeps q.bk) hm h) hd
theorem q_blt {x : Str} {u : Value} {A : Around} {Ex : Value → Shared → Prop} {Q : Value → Shared → Prop} (q : QC X env L s) (hg : QGl env x) (hm : X.mg x = none) (hv : bootBuiltins x = some u) (h : Q u s) (hn : x ≠ "__name__" := by decide) (hd : (x == ("__debug__" : Str)) = false := by decide) : wpAny (model X.prog X.w) A (eval (.Name x pos) env) Q Ex s := by
  obtain ⟨mb, h1, h2⟩ := q.mod.blt
  exact Calls.Name_function_global q.kind hg (Calls.loadGlobal_builtin (by rw [q.glob]; exact q.mod.glob.keeps q.bk) hm (by rw [q.blt]; exact h1.keeps q.bk) ((h2 x hn).trans hv) h) hd
theorem QC.kIn (q : QC X env L s) : X.K.In s.heap := q.mod.kin.keeps q.bk
theorem QC.nolimit (q : QC X env L s) : s.heap.NoLimit := q.mod.nolimit.keeps q.bk
/-- isinstance(e, T) of an int -/
theorem qe_isi {p p2 : Pos} {i : Int} {T : Str} {Tn : String} {r : Bool} (hg : QGl env "isinstance") (hm : X.mg "isinstance" = none) (hg2 : QGl env T) (hm2 : X.mg T = none) (hv2 : bootBuiltins T = some (.type Tn)) (hk : kitB "int" Tn = some r) (he : QE X env L k e (.int i)) (hn : T ≠ "__name__" := by decide) (hdb : (T == ("__debug__" : Str)) = false := by decide)
    (hs : starEach [e, .Name T p2] env = (false, eval e env) :: starEach [.Name T p2] env := by rfl) (hs2 : starEach [.Name T p2] env = (false, eval (.Name T p2) env) :: starEach [] env := by rfl) (hpl : (backTo pos (starEach [.Name T p2] env)).any (·.1) = false := by rfl) : QE X env L k (.Call (.Name "isinstance" p) [e, .Name T p2] [] pos) (.bl r) := fun A Ex s Q hr q hQ => by
  refine wpAny_Call_Name_kw (q_blt q hg hm (u := .builtin "isinstance") (by decide +kernel) ?_ (by decide) (by decide))
  refine PyProof.Rows.callWith_builtin1 (args_cons (he A Ex s _ hr q fun u s1 r1 k1 => args_cons (q_blt (q.keeps k1) hg2 hm2 hv2 (args_nil ?_) hn hdb) hs2) hs) hs hpl
  obtain ⟨t, rfl⟩ := r1
  exact PySem.W.kia_one PySem.W.kitx_int (q.keeps k1).kIn True.intro (kit_ty (K := X.K) hk) (fun z => nomatch z) fun tk => hQ _ _ rfl (keeps_trans k1 (keeps_tok _ _))
/-- a def that reckons without a trace -/
def QFn (X : Cx) (k : Nat) (g : Addr) (n : Nat) (P : List V → V → Prop) : Prop :=
  ∀ (A : Around) (s : Shared) (us : List Value) (vs : List V) (v : V), Mod X.K X.mg X.base → Room k A → (∀ b o, X.base.get? b = some o → s.heap.get? b = some o) → Vals vs us → vs.length = n → P vs v → codeAny (model X.prog X.w) A (.call (.ref g) ⟨us, []⟩) (fun r s' => ∃ u, r = .ok (.ret u) ∧ RelV v u ∧ Keeps s s') s
/-- f(e, ..) with three arguments -/
theorem qe_call3 {x : Str} {p : Pos} {g : Addr} {P : List V → V → Prop} {v1 v2 v3 : V} (F : QFn X k g 3 P) (hg : QGl env x) (hm : X.mg x = some (.ref g)) (hk : PySem.W.keepIn X.K (.ref g) = true) (ha : QE X env L k a v1) (hb : QE X env L k b v2) (hc : QE X env L k c v3) (hP : P [v1, v2, v3] v) (hdb : (x == ("__debug__" : Str)) = false := by decide)
    (hs : starEach [a, b, c] env = (false, eval a env) :: starEach [b, c] env := by rfl) (hs2 : starEach [b, c] env = (false, eval b env) :: starEach [c] env := by rfl) (hs3 : starEach [c] env = (false, eval c env) :: starEach [] env := by rfl) (hpl : (backTo pos (starEach [b, c] env)).any (·.1) = false := by rfl) : QE X env L k (.Call (.Name x p) [a, b, c] [] pos) v := fun A Ex s Q hr q hQ => by
  refine wpAny_Call_Name_kw (q_glob q hg hm ?_ hdb)
  refine PySem.W.callWith_K (h₀ := X.base) q.mod.kin hk (args_cons (ha A Ex s _ hr q fun u1 s1 r1 k1 => args_cons (hb A Ex s1 _ hr (q.keeps k1) fun u2 s2 r2 k2 => args_cons (hc A Ex s2 _ hr ((q.keeps k1).keeps k2) fun u3 s3 r3 k3 => args_nil ?_) hs3) hs2) hs) hs hpl
  have q3 := ((q.keeps k1).keeps k2).keeps k3
  refine ⟨q3.kIn, wpAny_call (codeAny_mono (F A s3 _ _ v q.mod hr q3.bk (.cons r1 (.cons r2 (.cons r3 .nil))) rfl hP) fun r s' hq => ?_)⟩
  obtain ⟨u, rfl, rv, kk⟩ := hq
  exact hQ u s' rv (keeps_trans (keeps_trans (keeps_trans k1 k2) k3) kk)
/-- f(e) -/
theorem qe_call1 {x : Str} {p : Pos} {g : Addr} {P : List V → V → Prop} {v1 : V} (F : QFn X k g 1 P) (hg : QGl env x) (hm : X.mg x = some (.ref g)) (hk : PySem.W.keepIn X.K (.ref g) = true) (ha : QE X env L k a v1) (hP : P [v1] v) (hdb : (x == ("__debug__" : Str)) = false := by decide)
    (hs : starEach [a] env = (false, eval a env) :: starEach [] env := by rfl) (hpl : (backTo pos (starEach [] env)).any (·.1) = false := by rfl) : QE X env L k (.Call (.Name x p) [a] [] pos) v := fun A Ex s Q hr q hQ => by
  refine wpAny_Call_Name_kw (q_glob q hg hm ?_ hdb)
  refine PySem.W.callWith_K (h₀ := X.base) q.mod.kin hk (args_cons (ha A Ex s _ hr q fun u1 s1 r1 k1 => args_nil ?_) hs) hs hpl
  have q1 := q.keeps k1
  refine ⟨q1.kIn, wpAny_call (codeAny_mono (F A s1 _ _ v q.mod hr q1.bk (.cons r1 .nil) rfl hP) fun r s' hq => ?_)⟩
  obtain ⟨u, rfl, rv, kk⟩ := hq
  exact hQ u s' rv (keeps_trans k1 kk)
end
def retE (st : Stmt) : Expr := match defBody st with
  | [.Return (some e) _] => e
  | _ => .Constant .none 0 ⟨0, 0, 0, 0⟩
def retP (st : Stmt) : Pos := match defBody st with
  | [.Return (some _) p] => p
  | _ => ⟨0, 0, 0, 0⟩
/-- a def whose body is «return e» -/
theorem qfn_ret {X : Cx} {x qual : Str} {st : Stmt} {f : Addr} {fd : FuncData} {ps : List Str} {k : Nat} {P : List V → V → Prop} (F : Fun X.K x qual st f fd) (S : FnScope ps ps (defScope st)) (hl : ∀ y ∈ ps, (defScope st).names.lookup y = some .local) (hbd : defBody st = [.Return (some (retE st)) (retP st)])
    (hb : Binds X.K fd ps []) (h : ∀ (env : Env) (vs : List V) (v : V), env.scope = defScope st → vs.length = ps.length → P vs v → QE X env (ps.zip vs) k (retE st) v) : QFn X (k + 1) f ps.length P := fun A s us vs v hmod hr bk rv hn hP => by
  obtain ⟨oc, od, kV, doc, pm, an, cdv, ct, osl, rfl, lk, hcd⟩ := F.ex
  have KX : X.K.In s.heap := hmod.kin.keeps bk
  have lim : s.heap.NoLimit := hmod.nolimit.keeps bk
  have hlu : us.length = ps.length := by rw [← rv.length]; exact hn
  have hbb := hb s us KX (by rw [List.append_nil]; exact hlu)
  rw [List.append_nil] at hbb
  refine codeAny_call_function hr.depth (KX _ _ lk) rfl S.co S.gen rfl (PySem.W.codeRec_of KX hcd) (hbb _ _ _ _ ?_)
  refine wpAny_newFunctionEnv_cells S.kind (fun ⟨n, u⟩ hy => .inl (hl n (List.of_mem_zip hy).1)) fun env he s1 x => ?_
  subst he
  have hrd := hr.deeper (newEnv (defScope st) s.heap.objs.size mainGlobals (cellsFrom (s.heap.objs.size + 1) (defScope st).names []) (qual ++ ".<locals>.") (some f) cdv none builtinsNs)
  obtain ⟨h1, tk, rfl, hk⟩ := x.done
  refine ⟨lim.keeps hk, codeAny_func ?_⟩
  show wpAny _ _ (execs (defBody st) _) _ _ _
  rw [hbd]
  refine wpAny_execs_cons (wpAny_Return_some (h _ vs v rfl hn hP _ _ _ _ hrd ⟨S.kind, rfl, rfl, hmod, fun b o e => hk b o (bk b o e), _, x.toInCall.ns, fun y w hy => ?_⟩ fun u s' r kk => ⟨u, rfl, r, keeps_trans ⟨h1, tk, rfl, hk⟩ kk⟩))
  obtain ⟨i, h1, h2⟩ : ∃ i, ps[i]? = some y ∧ vs[i]? = some w := by
    obtain ⟨i, hi⟩ := List.getElem?_of_mem (PySem.mem_of_lookup hy)
    rw [List.getElem?_zip_eq_some] at hi
    exact ⟨i, hi⟩
  obtain ⟨u, h3, h4⟩ := rv.get h2
  have hkd := hl y (List.mem_of_getElem? h1)
  exact ⟨u, h4, .inl ⟨hkd, bindL_get S.nd h1 h3 hkd⟩⟩
end BC
set_option Elab.async false
set_option linter.all false
set_option maxRecDepth 100000
set_option maxHeartbeats 2000000
namespace BC
open PySem PySem.Spec PyProof.Rows L2 GxR
theorem lookup_of_mem {α : Type} : ∀ {l : List (Str × α)} {n : Str} {c : α}, (n, c) ∈ l → (∀ p ∈ l, p.1 = n → p.2 = c) → l.lookup n = some c
  | [], _, _, h, _ => nomatch h
  | (k, v) :: r, n, c, h, hu => by
    rw [List.lookup_cons]
    cases hb : n == k with
    | true =>
      have : k = n := (beq_iff_eq.mp hb).symm
      have := hu (k, v) List.mem_cons_self this
      simp at this
      rw [this]
    | false =>
      rcases List.mem_cons.mp h with h | h
      · cases h
        simp at hb
      · exact lookup_of_mem h fun p hp => hu p (List.mem_cons_of_mem _ hp)
theorem clo_lookup {cells : List (Str × Addr)} {names : List (Str × NameKind)} {y : Str} {c : Addr} (hm : (y, NameKind.free) ∈ names) (hc : cells.lookup y = some c) : (cloFrom cells names []).lookup y = some c := by
  have h := cloFrom_has (cells := cells) (acc := []) hm
  rw [hc] at h
  refine lookup_of_mem h fun p hp e => ?_
  obtain ⟨q1, q2⟩ := p
  rcases cloFrom_mem hp with z | ⟨_, z⟩
  · exact nomatch z
  · have e : q1 = y := e
    subst e
    rw [hc] at z
    exact z
/-- a generator expression that is ready to be walked: pb tells the truth of what comes -/
def Ready1 (X : Cx) (pins : List (Addr × Obj)) (σ : L2.St) (H1 : Hp) (P : Addr) (n : Nat) (pb : Nat → Bool) (g : Addr) (s5 : Shared) : Prop :=
  ∃ (fp wr : List Addr) (G : Array GenState → Array GenState → Prop) (F : Nat → Value → Prop) (St : Nat → Shared → Prop),
    WalksS X.prog X.w X.A.in1 g fp wr G n F St ∧ St 0 s5 ∧ (∀ j y, F j y → y = .bool (pb j)) ∧
    ∀ s', Moved wr G s5 s' → ∃ H2, Tabbed P H1 H2 ∧ Inv X pins σ H2 s'
section
variable {X : Cx} {pins : List (Addr × Obj)} {σ : L2.St} {H1 : Hp} {s1 : Shared} {P c : Addr} {t0 : Array Value}
/-- g has what s1 had, only the code table at P may have grown -/
structure Kept (P : Addr) (t0 : Array Value) (s1 : Shared) (g : Heap) : Prop where
  all : ∀ b o, b ≠ P → s1.heap.get? b = some o → g.get? b = some o
  tab : ∃ more, g.get? P = some { cls := .none, data := .fields (t0 ++ more) } ∧ TriplesOk (t0 ++ more).toList
theorem statics_off (I : Inv X pins σ H1 s1) (hP : H1 P = some (.tbl t0)) : cStatics ≠ P ∧ cStatics < s1.heap.objs.size := by
  have lim : s1.heap.NoLimit := I.nolimit
  have there : s1.heap.get? P = some { cls := .none, data := .fields t0 } := I.hok P _ hP
  obtain ⟨_, at0, _⟩ := lim
  refine ⟨fun z => ?_, at0.lt⟩
  obtain ⟨o, _, _, q, dt, _⟩ := at0
  rw [z, there] at q
  cases q
  cases dt
theorem blt_of (I : Inv X pins σ H1 s1) (TB : TabB X.base X.mg c P) {g : Heap} {tk : Nat} {Q : Addr → Shared → Prop} (kp : Kept P t0 s1 g) (q : Q builtinsNs { s1 with heap := g, toks := tk }) :
    wpAny (model X.prog X.w) X.A (builtinsFor X.env.globals X.env.builtins) Q X.xe { s1 with heap := g, toks := tk } := by
  have ns : g.Ns mainGlobals X.mg := (I.mod.glob.keeps I.bk).extBut kp.all TB.gP
  obtain ⟨m, om, h1, h2, h3, h4, h5, h6, h7, h8⟩ := TB.bm
  rw [I.ok.glob]
  exact wpAny_builtinsFor ns h1 h2 (kp.all m om h4 (I.bk m om h5)) h6 h7 h8 q
theorem code_of (I : Inv X pins σ H1 s1) (hP : H1 P = some (.tbl t0)) (ht : TriplesOk t0.toList) (TB : TabB X.base X.mg c P) (hcode : X.env.code = .ref c) {h2 : Heap} {tk2 : Nat} {pos : Pos} {qual : Str} {scope : Scope} {Q : Value → Shared → Prop}
    (k2 : ∀ b o, s1.heap.get? b = some o → h2.get? b = some o) (q : ∀ code h3 tk, Kept P t0 s1 h3 → Heap.ExtBut P h2 h3 → h2.objs.size ≤ h3.objs.size → Q code { s1 with heap := h3, toks := tk }) :
    wpAny (model X.prog X.w) X.A (genexprCode X.env pos qual scope) Q X.xe { s1 with heap := h2, toks := tk2 } := by
  have there : h2.get? P = some { cls := .none, data := .fields t0 } := k2 P _ (I.hok P _ hP)
  have hd : PySem.W.CodeHd h2 c P := TB.code.keeps fun b u e => k2 _ _ (I.bk b u e)
  cases found : codeAmong pos t0.toList with
  | some cv => exact wpAny_genexprCode_hit hcode (hd.code there ht) found (q cv h2 tk2 ⟨fun b o _ e => k2 b o e, #[], by simpa using there, by simpa using ht⟩ (Heap.ExtBut.refl P h2) (Nat.le_refl _))
  | none =>
    refine wpAny_genexprCodeX hcode (hd.code there ht) (hd.tab there) found fun cn h3 tk ext lo hi isC _ tabA _ => q _ h3 tk ⟨fun b o nb e => ext b o nb (k2 b o e), _, tabA.2, ?_⟩ ext (Nat.le_trans lo (Nat.le_of_lt hi))
    obtain ⟨_, _, _, _, _, _, _, _, _, _, _, _, _, _, _, _, _, _, _, tri, _⟩ := isC
    exact tri
theorem ready_of (I : Inv X pins σ H1 s1) (hP : H1 P = some (.tbl t0)) {h3 h5 : Heap} {tk : Nat} {gs : GenState} (kp : Kept P t0 s1 h3) (k5 : ∀ b o, h3.get? b = some o → h5.get? b = some o) (bare : gs.bare = true) {fp wr : List Addr} (fresh : ∀ b ∈ wr, s1.heap.objs.size ≤ b)
    {g : Addr} {n N : Nat} {F : Nat → Value → Prop} {St : Nat → Shared → Prop} {pb : Nat → Bool} (W : WalksS X.prog X.w X.A.in1 g fp wr (GenOnlyQ N) n F St) (hF : ∀ j y, F j y → y = .bool (pb j))
    (st : St 0 { s1 with gens := s1.gens.push gs, toks := tk, heap := h5 }) : Ready1 X pins σ H1 P n pb g { s1 with gens := s1.gens.push gs, toks := tk, heap := h5 } := by
  refine ⟨fp, wr, _, F, St, W, st, hF, fun s' mv => ?_⟩
  obtain ⟨more, tb, tri⟩ := kp.tab
  have out : ∀ b o, s1.heap.get? b = some o → b ∉ wr := fun b o e hb => Nat.lt_irrefl _ (Nat.lt_of_lt_of_le (Heap.lt_size e) (fresh b hb))
  have there : s1.heap.get? P = some { cls := .none, data := .fields t0 } := I.hok P _ hP
  have inv := inv_tab (more := more) (h' := s'.heap) (g' := s'.gens) (d' := s'.drawn) (t' := s'.toks) I hP (fun b o nb e => mv.heap b o (out b o e) (k5 b o (kp.all b o nb e))) (mv.heap P _ (out P _ there) (k5 P _ tb)) (AllBare.movedS (I.bare.push bare) mv)
  rw [sh_eta s1 s' mv.os] at inv
  exact ⟨_, ⟨⟨_, upd_same, tri⟩, fun _ nb => upd_ne nb⟩, inv⟩
end
section
variable {X : Cx} {pins : List (Addr × Obj)} {σ : L2.St} {H : Hp} {s : Shared}
/-- what the walked thing is to bring: laid over s1, whose table at P is ps -/
structure Src1 (X : Cx) (P : Addr) (s1 s2 : Shared) (I : Addr) (fp wr : List Addr) (n : Nat) (Pf : Nat → Value → Prop) (St : Nat → Heap → Prop) : Prop where
  same : ∃ h2 tk2, s2 = { s1 with heap := h2, toks := tk2 } ∧ (∀ b o, s1.heap.get? b = some o → h2.get? b = some o) ∧ s1.heap.objs.size ≤ h2.objs.size
  walks : ∀ A' : Around, A'.handled = none → Walks X.prog X.w A' I fp wr n Pf St
  st : St 0 s2.heap
  lt : ∀ b ∈ fp, b < s2.heap.objs.size ∧ b ≠ P
  new : ∀ b ∈ wr, s1.heap.objs.size ≤ b
theorem gen1 {c P : Addr} {elt iter : Expr} {x : Str} {px gpos : Pos} {scope : Scope} {te : TE} {k : Nat} {Q' : Value → Shared → Prop} {R : (n : Nat) → (Nat → Bool) → Hp → Prop}
    (hr : Room (k + 3) X.A) (TB : TabB X.base X.mg c P) (hcode : X.env.code = .ref c) (S : GenS X.env scope x) (hi : PE X iter te) (hs : ∀ v, genFold iter X.env v = pure v) (I : Inv X pins σ H s)
    (h : te σ H fun v H1 => TabG H1 P ∧ ∀ u s1, RelV v u → Inv X pins σ H1 s1 → wpAny (model X.prog X.w) X.A (pyIter u) (fun it s2 => ∃ Ia fp wr n Pf St pb, it = .ref Ia ∧ Src1 X P s1 s2 Ia fp wr n Pf St ∧ R n pb H1 ∧
      ∀ (cenv : Env) (A' : Around) (E' : Value → Shared → Prop) (i : Nat) (y : Value) (s' : Shared) (m : Str → Option Value), cenv.scope = scope → cenv.globals = mainGlobals → cenv.builtins = builtinsNs → cenv.cells = cloFrom X.env.cells scope.names [] → Room k A' → Pf i y → s'.heap.Ns cenv.locals m → m x = some y →
        (∀ b o, b ≠ P → b ∉ wr → s1.heap.get? b = some o → s'.heap.get? b = some o) → wpAny (model X.prog X.w) A' (eval elt cenv) (fun z s3 => z = .bool (pb i) ∧ Keeps s' s3) E' s') X.xe s1)
    (hQ : ∀ n pb H1 g s5, R n pb H1 → Ready1 X pins σ H1 P n pb g s5 → Q' (.ref g) s5) :
    wpAny (model X.prog X.w) X.A (eval (.GeneratorExp elt [⟨.Name x px, iter, [], 0⟩] scope gpos) X.env) Q' X.xe s := by
  have dp := hr.dp
  have un := hr.un
  refine wpAny_GeneratorExp_walksQD hr.hd S.co (closure_ok S.free) S.cell S.dot S.loc S.kind (by omega) (thn (hi.run pins s σ H _ I h) fun xv s1 ⟨v, H1, I1, r1, ⟨t0, hP, ht⟩, q1⟩ => thn (q1 xv s1 r1 I1) fun it s2 ⟨Ia, fp, wr, n, Pf, St0, pb, e0, Z, hR, hel⟩ => ?_) hs
  obtain ⟨⟨h2, tk2, rfl, k2, sz⟩, W, st, lt, new⟩ := Z
  have lim := I1.nolimit.keeps k2
  have off := statics_off I1 hP
  refine ⟨lim, code_of I1 hP ht TB hcode k2 fun code h3 tk kp ext le3 => blt_of I1 TB kp ?_⟩
  refine ⟨Ia, fp, wr, n, Pf, St0, fun _ => true, fun i y => y = .bool (pb i), e0, W, (W X.A hr.hd).frame _ _ _ st fun b hb u e => ext b u (lt b hb).2 e, fun b hb => Nat.lt_of_lt_of_le (lt b hb).1 le3, lim.extBut ext off.1, fun z => absurd (Nat.lt_of_lt_of_le off.2 (new _ z)) (Nat.lt_irrefl _), fun href kr => ⟨fun A2 E2 i y s2 m2 _ _ _ _ _ _ _ => ?_, fun A2 E2 i y s2 m2 hA hD hU hy _ hn hm hk => ?_⟩, fun g h5 tk5 gs bare _ _ k5 W5 at5 => hQ n pb H1 g _ hR ?_⟩
  · rw [List.forIn_nil]
    exact wpAny_pure ⟨rfl, keeps_refl s2⟩
  · exact hel _ A2 E2 i y s2 m2 rfl I1.ok.glob rfl rfl ⟨hA, by omega, by omega⟩ hy hn hm fun b o nb nw e => hk b (List.mem_range.mpr (Heap.lt_size (kp.all b o nb e))) nw o (kr b o (kp.all b o nb e))
  · rw [GxR.passing_true, List.length_range] at W5
    refine ready_of I1 hP kp k5 bare (fun b hb => ?_) W5.in4_1 (fun j y ⟨i, hij, hy⟩ => ?_) at5
    · rcases List.mem_cons.mp hb with rfl | hb
      · exact Nat.le_trans sz le3
      · exact new b hb
    · obtain ⟨_, rfl⟩ := List.getElem?_eq_some_iff.mp hij
      rw [hy, List.getElem_range]
/-! ### all(.. for x in a tuple of ints) -/
def intsOf : List D → Option (List Int)
  | [] => some []
  | .int i :: r => (intsOf r).map (i :: ·)
  | _ :: _ => none
def slotInts (S : SS) : List Nat → Option (List Int)
  | [] => some []
  | i :: r => match S[i]? with
    | some (.val (.int z)) => (slotInts S r).map (z :: ·)
    | _ => none
theorem intsOf_dp {K : PySem.W.Frag} {B : Hp} : ∀ {ds : List D} {vs : List V} {ns : List Int}, intsOf ds = some ns → DpAll K B vs ds → vs = ns.map V.int
  | [], _, _, h, .nil => by cases h; rfl
  | .int i :: r, _, _, h, .cons dv rv => by
    simp only [intsOf, Option.map_eq_some_iff] at h
    obtain ⟨ns, h1, h2⟩ := h
    subst h2
    cases dv
    rw [intsOf_dp h1 rv]
    rfl
  | .none :: _, _, _, h, _ => by cases h
  | .bool _ :: _, _, _, h, _ => by cases h
  | .str _ :: _, _, _, h, _ => by cases h
  | .list _ :: _, _, _, h, _ => by cases h
  | .tuple _ :: _, _, _, h, _ => by cases h
  | .dict _ :: _, _, _, h, _ => by cases h
theorem slotInts_get {S : SS} : ∀ {is : List Nat} {zs : List Int}, slotInts S is = some zs → zs.length = is.length ∧ ∀ (j : Nat) (z : Int), zs[j]? = some z → ∃ i, is[j]? = some i ∧ S[i]? = some (.val (.int z))
  | [], _, h => by cases h; exact ⟨rfl, fun j z e => by simp at e⟩
  | i :: r, zs, h => by
    unfold slotInts at h
    split at h
    · rename_i z0 e0
      simp only [Option.map_eq_some_iff] at h
      obtain ⟨ws, h1, h2⟩ := h
      subst h2
      obtain ⟨l1, g1⟩ := slotInts_get h1
      refine ⟨by simp [l1], fun j z e => ?_⟩
      cases j with
      | zero => simp at e; subst e; exact ⟨i, rfl, e0⟩
      | succ j => exact g1 j z (by simpa using e)
    · cases h
/-- all(elt for x in e): the free names' slots; pb of their ints and the item -/
def xAll (is : List Nat) (pb : List Int → Int → Bool) (fe : DX) : DX := fun S => (fe S).bind fun p => match p.1 with
  | .tuple ds => (intsOf ds).bind fun ns => (slotInts p.2 is).map fun zs => (.bool (ns.all (pb zs)), p.2)
  | _ => none
def atP (l : List Int) (q : Int → Bool) (j : Nat) : Bool := ((l[j]?).map q).getD true
theorem all_at (l : List Int) (q : Int → Bool) : (List.range l.length).all (atP l q) = l.all q := by
  rw [Bool.eq_iff_iff, List.all_eq_true, List.all_eq_true]
  constructor
  · intro h b hb
    obtain ⟨j, hj, e⟩ := List.getElem_of_mem hb
    have z := h j (List.mem_range.mpr hj)
    unfold atP at z
    rw [List.getElem?_eq_getElem hj, e] at z
    exact z
  · intro h j hj
    have hj' := List.mem_range.mp hj
    unfold atP
    rw [List.getElem?_eq_getElem hj']
    exact h _ (List.getElem_mem hj')
theorem Rep.tabbed {E : En} {B H H' : Hp} {S : SS} {P : Addr} (R : Rep E B H σ S) (hP : P ∈ E.T) (h : Tabbed P H H') : Rep E B H' σ S := by
  obtain ⟨⟨ps, e, t⟩, hk⟩ := h
  obtain ⟨⟨ps0, e0, t0⟩, n0⟩ := R.tabs P hP
  have ne : ∀ {q : Addr} {o : HO}, H q = some o → NoTbl o → q ≠ P := fun {q o} h1 h2 z => by
    rw [z, e0] at h1
    exact h2 _ (Option.some.inj h1).symm
  refine ⟨R.base, fun b o q => ?_, fun p h nt => R.new p h fun xs z => nt xs (by rw [hk p (ne z ntTup)]; exact z), fun p o h1 h2 h3 => ?_, fun p h1 => ?_, fun P' hP' => ?_, R.par, R.len, R.val, fun i c hi => ?_, R.sep⟩
  · have hb : b ≠ P := fun z => by rw [z, n0] at q; cases q
    rw [hk b hb]; exact R.sub b o q
  · have h4 := R.frame p o h1 h2 h3
    rw [hk p (ne h4 h2)]; exact h4
  · by_cases hp : p = P
    · rw [hp, e]; simp
    · rw [hk p hp]; exact R.keep p h1
  · by_cases hp : P' = P
    · rw [hp]; exact ⟨⟨ps, e, t⟩, n0⟩
    · obtain ⟨⟨ps1, e1, t1⟩, n1⟩ := R.tabs P' hP'
      exact ⟨⟨ps1, by rw [hk P' hp]; exact e1, t1⟩, n1⟩
  · obtain ⟨a, o, g1, g2, g3, g4, g5⟩ := R.own i c hi
    exact ⟨a, o, g1, g2, by rw [hk a (ne g3 (cellR_no g4))]; exact g3, g4, g5⟩
theorem d_all {E : En} {c P : Addr} {elt e : Expr} {x : Str} {px p pos gpos : Pos} {scope : Scope} {fe : DX} {k : Nat} {fvs : List (Str × Nat)} {pb : List Int → Int → Bool} (hK : X.K = E.K) (hP : P ∈ E.T)
    (hr : Room (k + 3) X.A) (hg : Gl X "all") (hm : X.mg "all" = none) (TB : TabB X.base X.mg c P) (hcode : X.env.code = .ref c) (S : GenS X.env scope x) (he : PE X e (up E fe))
    (hfv : ∀ q ∈ fvs, X.N[q.2]? = some q.1 ∧ X.env.scope.names.lookup q.1 = some .cell ∧ (q.1, NameKind.free) ∈ scope.names ∧ scope.names.lookup q.1 = some .free)
    (hel : ∀ (cenv : Env) (zs : List Int) (n : Int), cenv.scope = scope → zs.length = fvs.length → QE X cenv ((x, .int n) :: (fvs.map (·.1)).zip (zs.map V.int)) k elt (.bl (pb zs n)))
    (hs : ∀ v, genFold e X.env v = pure v := by intro _; rfl)
    (hse : starEach [.GeneratorExp elt [⟨.Name x px, e, [], 0⟩] scope gpos] X.env = (false, eval (.GeneratorExp elt [⟨.Name x px, e, [], 0⟩] scope gpos) X.env) :: starEach [] X.env := by rfl) :
    PE X (.Call (.Name "all" p) [.GeneratorExp elt [⟨.Name x px, e, [], 0⟩] scope gpos] [] pos) (up E (xAll (fvs.map (·.2)) pb fe)) := by
  refine ⟨fun pins s σ H Q I ⟨B, S0, d, S', R, e0, kk⟩ => ?_⟩
  unfold xAll at e0
  simp only [Option.bind_eq_some_iff] at e0
  obtain ⟨⟨d1, S1⟩, e1, e2⟩ := e0
  cases d1 <;> (try (simp at e2; done))
  rename_i ds
  simp only [Option.bind_eq_some_iff, Option.map_eq_some_iff] at e2
  obtain ⟨ns, e3, zs, e4, e5⟩ := e2
  cases e5
  obtain ⟨lz, gz⟩ := slotInts_get e4
  refine wpAny_Call_Name_kw (ld_blt I hg hm (u := .builtin "all") (by decide +kernel) ?_ (by decide) (by decide))
  refine PyProof.Rows.callWith_builtin1 ?_ hse (by rfl)
  rw [hse]
  show wpAny _ _ (spliced ((false, eval (.GeneratorExp elt [⟨.Name x px, e, [], 0⟩] scope gpos) X.env) :: backTo pos (starEach [] X.env))) _ _ s
  refine Calls.spliced_cons (gen1 (R := fun n q H1 => n = ns.length ∧ q = atP ns (pb zs) ∧ ∃ B1, Same B B1 ∧ Rep E B1 H1 σ S') hr TB hcode S he hs I ?_ fun n q H1 g s5 hR hG => ?_)
  · refine ⟨B, S0, _, S', R, e1, fun v B1 H1 s1 R1 dv => ⟨(R1.tabs P hP).1, fun u st ru I1 => ?_⟩⟩
    cases dv with
    | @tup a vs _ h r =>
      cases ru
      have ev := intsOf_dp e3 r
      obtain ⟨its, rv, pl, hz⟩ := I1.tuple (xs := vs) (a := a) (by rw [hK]; exact same_seqT R1.sub h)
      obtain ⟨⟨ps, hps, _⟩, _⟩ := R1.tabs P hP
      have hPs : st.heap.get? P = some { cls := .none, data := .fields ps } := I1.hok P _ hps
      have haP : a ≠ P := fun z => by
        obtain ⟨o, ho, hc, _⟩ := pl
        rw [z, hPs] at ho
        cases ho
        cases hc
      have hPlt := Heap.lt_size hPs
      have hal := pl.lt
      have hits : its.length = ns.length := by rw [← rv.length, ev, List.length_map]
      have pl' : st.heap.IsTuple a its.toArray := pl
      obtain ⟨m1, hm1, hl1⟩ := I1.loc
      refine wpAny_pyIter_tuple pl' ⟨st.heap.objs.size, [st.heap.objs.size, a], [st.heap.objs.size], its.toArray.size, _, _, atP ns (pb zs), rfl, ⟨⟨_, st.toks, rfl, fun b o q => Heap.get?_push_of_some _ q, by rw [Heap.size_push]; omega⟩, fun A' hA => Walks.tuple hA st.heap.objs.size a (Nat.ne_of_lt hal) its.toArray, ⟨⟨_, Heap.get?_push_size _ rfl, rfl, rfl⟩, pl'.push _⟩, fun b hb => ?_, fun b hb => ?_⟩, ⟨by simp [hits], rfl, B1, s1, R1⟩, ?_⟩
      · rcases List.mem_cons.mp hb with z | z
        · rw [z]; exact ⟨by rw [Heap.size_push]; exact Nat.lt_succ_self _, fun w => by rw [w] at hPlt; exact Nat.lt_irrefl _ hPlt⟩
        · rw [List.mem_singleton.mp z]; exact ⟨by rw [Heap.size_push]; exact Nat.lt_succ_of_lt hal, haP⟩
      · rw [List.mem_singleton.mp hb]; exact Nat.le_refl _
      · intro cenv A' E' i y s' m hc hcg hcb hcc hrA hy hn hmx hk
        have hy2 : its[i]? = some y := by simpa using hy
        obtain ⟨hi, _⟩ := List.getElem?_eq_some_iff.mp hy2
        have hi2 : i < ns.length := by omega
        have hv : vs[i]? = some (.int ns[i]) := by rw [ev, List.getElem?_map, List.getElem?_eq_getElem hi2]; rfl
        obtain ⟨u, hu, ru⟩ := rv.get hv
        rw [hy2] at hu
        cases hu
        have hPlt2 : P < st.heap.objs.size := hPlt
        have big : ∀ b o, b ≠ P → st.heap.get? b = some o → s'.heap.get? b = some o := fun b o hb e => hk b o hb (fun z => by
          rw [List.mem_singleton.mp z] at e
          exact Nat.lt_irrefl _ (Heap.lt_size e)) e
        have hq : QC X cenv ((x, .int ns[i]) :: (fvs.map (·.1)).zip (zs.map V.int)) s' := by
          refine ⟨by rw [hc]; exact S.kind, hcg, hcb, I1.mod, fun b o e => big b o (fun z => ?_) (I1.bk b o e), m, hn, fun z w hw => ?_⟩
          · have := (I1.bs b o e).2
            rw [z] at this
            rw [this] at hps
            cases hps
          · rw [List.lookup_cons] at hw
            split at hw
            · rename_i hzx
              have : z = x := by simpa using hzx
              subst this
              cases hw
              exact ⟨_, ru, .inl ⟨by show cenv.scope.names.lookup _ = _; rw [hc]; exact S.loc, hmx⟩⟩
            · obtain ⟨j, hj⟩ := List.getElem?_of_mem (PySem.mem_of_lookup hw)
              rw [List.getElem?_zip_eq_some] at hj
              obtain ⟨hj1, hj2⟩ := hj
              rw [List.getElem?_map, Option.map_eq_some_iff] at hj1 hj2
              obtain ⟨q, hq1, hq2⟩ := hj1
              obtain ⟨zz, hz1, hz2⟩ := hj2
              obtain ⟨i0, hi0, hS⟩ := gz j zz hz1
              rw [List.getElem?_map, hq1] at hi0
              cases hi0
              obtain ⟨f1, f2, f3, f4⟩ := hfv q (List.mem_of_getElem? hq1)
              obtain ⟨v0, g1, g2⟩ := R1.val q.2 _ hS
              cases g2
              obtain ⟨u0, ru0, lk⟩ := hl1 q.2 q.1 _ f1 g1 (.inr (.inl f2))
              subst hz2
              have hq2 : q.1 = z := hq2
              rcases lk with ⟨kk0, _⟩ | ⟨_, cc, hcc2, ob, hob, hdt⟩
              · have : X.env.scope.names.lookup q.1 = some .local := kk0
                rw [f2] at this
                cases this
              · refine ⟨u0, ru0, .inr ⟨.inr ?_, cc, ?_, ob, big cc ob (fun w => ?_) hob, hdt⟩⟩
                · show cenv.scope.names.lookup z = _
                  rw [hc, ← hq2]; exact f4
                · rw [hcc, ← hq2]; exact clo_lookup f3 hcc2
                · rw [w, hPs] at hob
                  cases hob
                  cases hdt
        refine hel cenv zs ns[i] hc (by rw [lz, List.length_map]) A' E' s' _ hrA hq fun u s3 r3 k3 => ⟨?_, k3⟩
        have : atP ns (pb zs) i = pb zs ns[i] := by
          unfold atP
          rw [List.getElem?_eq_getElem hi2]
          rfl
        rw [this]
        exact r3
  · obtain ⟨rfl, rfl, B1, s1, R1⟩ := hR
    obtain ⟨fp, wr, G, F, Stt, W, hst, htr, hI⟩ := hG
    refine Calls.spliced_nil ?_
    have TT : TruthOf X.prog X.w X.A.in1 F (atP ns (pb zs)) := fun j y sj Qj Ej hy hQj => by
      rw [htr j y hy]
      exact wpAny_truthy_bool hQj
    refine call_all_walkS (W.self 0 _ _ _ hst ⟨g, fp, wr, G, _, F, Stt, _, rfl, W, hst, TT, fun s' hmv => ?_⟩)
    obtain ⟨H2, hT, J⟩ := hI s' hmv
    have R2 := R1.tabbed hP hT
    refine ⟨.bl _, H2, J, rfl, ?_⟩
    rw [all_at]
    exact kk _ B1 H2 s1 R2 (.bl _)
end
end BC
set_option Elab.async false
set_option linter.all false
set_option maxRecDepth 100000
set_option maxHeartbeats 2000000
namespace BC
open PySem PySem.Spec PyProof.Rows L2 GxR
section
variable {X : Cx} {E : En} {a b c e : Expr} {es : List Expr} {fa fb fc fe : DX} {fr fl : DA} {pos : Pos} {σ : L2.St} {S : SS} {B H : Hp} {T : List Addr} {ow : List Nat}
theorem Bx.hold {s : Shared} {H : Hp} {scope : Scope} {ce : Env} {fp : List Addr} {p : Addr} {o : HO} (b : Bx X E T ow) : Bx (X.blk s H scope ce fp) (E.hold p o) T ow := ⟨b.K, b.T, b.pa⟩
theorem Bx.held {p : Addr} {o : HO} (b : Bx X E T ow) : Bx X (E.hold p o) T ow := ⟨b.K, b.T, b.pa⟩
theorem Bx.en {E' : En} (b : Bx X E T ow) (h1 : E'.K = E.K) (h2 : E'.T = E.T) (h3 : E'.pa = E.pa) : Bx X E' T ow := ⟨b.K.trans h1.symm, h2.trans b.T, by rw [h3]; exact b.pa⟩
theorem dpAll_range {K : PySem.W.Frag} {B : Hp} (lo hi : Int) : DpAll K B (rgV lo hi) (rangeD lo (hi - lo).toNat) := by
  unfold rgV rangeD
  generalize (hi - lo).toNat = n
  have : ∀ l : List Nat, DpAll K B (l.map fun i => V.int (lo + (i : Nat))) (l.map fun k => PyData.int (lo + (k : Nat))) := fun l => by
    induction l with
    | nil => exact .nil
    | cons x r ih => exact .cons (.int _) ih
  exact this _
instance (a b : Int) : Decidable (RgOk a b) := by unfold RgOk; infer_instance
def xTupR (fa fb : DX) : DX := x2 (fun d e => match d, e with
  | .int i, .int j => if RgOk i j then some (.tuple (rangeD i (j - i).toNat)) else none
  | _, _ => none) fa fb
theorem d_tupR {p p2 pos2 : Pos} (hc : X.calm = true) (hg : Gl X "tuple") (hm : X.mg "tuple" = none) (hg2 : Gl X "range") (hm2 : X.mg "range" = none) (ha : PE X a (up E fa)) (hb : PE X b (up E fb))
    (na : starEach [a, b] X.env = (false, eval a X.env) :: starEach [b] X.env := by rfl) (nb : starEach [b] X.env = (false, eval b X.env) :: starEach [] X.env := by rfl) (hp : (backTo pos2 (starEach [b] X.env)).any (·.1) = false := by rfl)
    (nr : starEach [.Call (.Name "range" p2) [a, b] [] pos2] X.env = (false, eval (.Call (.Name "range" p2) [a, b] [] pos2) X.env) :: starEach [] X.env := by rfl) :
    PE X (.Call (.Name "tuple" p) [.Call (.Name "range" p2) [a, b] [] pos2] [] pos) (up E (xTupR fa fb)) :=
  PE.imp (pe_tupRg hc hg hm (prg_2 hg2 hm2 ha hb na nb hp) nr) fun σ H Q ⟨B, S, d, S', R, e, k⟩ => by
    unfold xTupR x2 at e
    simp only [Option.bind_eq_some_iff, Option.map_eq_some_iff] at e
    obtain ⟨⟨d1, S1⟩, e1, ⟨d2, S2⟩, e2, z, e3, e4⟩ := e
    cases e4
    cases d1 <;> cases d2 <;> (try (simp at e3; done))
    rename_i i j
    simp only at e3
    split at e3
    · rename_i hr
      cases e3
      refine ⟨B, S, _, S1, R, e1, fun x B1 H1 s1 R1 dx => ⟨B1, S1, _, S2, R1, e2, fun y B2 H2 s2 R2 dy => ?_⟩⟩
      cases dx
      cases dy
      refine ⟨i, j, rfl, rfl, hr, fun q hq => ?_⟩
      obtain ⟨s3, R3, d3⟩ := new_tup R2 hq (dpAll_range i j)
      exact k _ _ _ ((s1.trans s2).trans s3) R3 d3
    · cases e3
/-- the promise's own numbers: a name of the module -/
theorem in_list {α : Type} {x : α} {l r : List α} (h : x ∈ l) : x ∈ l ++ r := List.mem_append_left _ h
end
/-! ### a generator expression's scope -/
def gsC (fsc scope : Scope) (x : Str) : Bool :=
  (match scope.kind with | .function => true | _ => false) && !scope.isCoroutine && (scope.names.all fun y => match y.2 with | .cell => false | _ => true) && decide (scope.names.lookup (".0" : Str) = some NameKind.local) && decide (scope.names.lookup x = some NameKind.local) &&
    (scope.names.all fun y => match y.2 with | .free => decide (fsc.names.lookup y.1 = some NameKind.cell) | _ => true)
theorem gs_mk {fsc scope : Scope} {x : Str} {env : Env} {n : Nat} (henv : env.cells = cellsFrom n fsc.names []) (h : gsC fsc scope x = true) : GenS env scope x := by
  unfold gsC at h
  simp only [Bool.and_eq_true, List.all_eq_true, decide_eq_true_eq, Bool.not_eq_true'] at h
  obtain ⟨⟨⟨⟨⟨h1, h2⟩, h3⟩, h4⟩, h5⟩, h6⟩ := h
  refine ⟨?_, h2, fun y hy e => ?_, h4, h5, fun y hy e => ?_⟩
  · split at h1
    · assumption
    · cases h1
  · have q := h3 y hy
    rw [e] at q
    cases q
  · have q := h6 y hy
    rw [e] at q
    simp only [decide_eq_true_eq] at q
    rw [henv]
    exact cell_has q
def fvC (N : List Str) (fsc scope : Scope) (fvs : List (Str × Nat)) : Bool :=
  fvs.all fun q => decide (N[q.2]? = some q.1) && decide (fsc.names.lookup q.1 = some NameKind.cell) && decide ((q.1, NameKind.free) ∈ scope.names) && decide (scope.names.lookup q.1 = some NameKind.free)
theorem fv_mk {N : List Str} {fsc scope : Scope} {fvs : List (Str × Nat)} (h : fvC N fsc scope fvs = true) : ∀ q ∈ fvs, N[q.2]? = some q.1 ∧ fsc.names.lookup q.1 = some .cell ∧ (q.1, NameKind.free) ∈ scope.names ∧ scope.names.lookup q.1 = some .free := by
  unfold fvC at h
  simp only [Bool.and_eq_true, List.all_eq_true, decide_eq_true_eq] at h
  exact fun q hq => let ⟨⟨⟨a, b⟩, c⟩, d⟩ := h q hq; ⟨a, b, c, d⟩
theorem two_of {α : Type} {l : List α} (h : l.length = 2) : ∃ a b, l = [a, b] := by
  match l, h with
  | [a, b], _ => exact ⟨a, b, rfl⟩
/-! ### the law's end -/
def noTbl (H : Hp) : Hp := fun p => match H p with
  | some (.tbl _) => none
  | o => o
theorem noTbl_same (H : Hp) : Same (noTbl H) H := fun p o e => by
  unfold noTbl at e
  split at e
  · cases e
  · exact e
theorem rep_law {K : PySem.W.Frag} {T : List Addr} {H : Hp} {a : Addr} {ns : List Int} (hT : ∀ P ∈ T, H P = some (.tbl #[])) (hS : SqL K H a (ns.map V.int)) : Rep ⟨K, noTbl H, H, T, []⟩ (noTbl H) H ([V.ref a].map some) [.val (.list (ns.map PyData.int))] := by
  have hS' : SqL K (noTbl H) a (ns.map V.int) := by
    rcases hS with (h | ⟨o, h⟩) | h
    · exact .inl (.inl (by unfold noTbl; rw [h]))
    · exact .inl (.inr ⟨o, by unfold noTbl; rw [h]⟩)
    · exact .inr h
  refine ⟨Same.refl _, noTbl_same H, fun _ _ _ => rfl, fun _ _ h _ _ => h, fun _ h => h, fun P hP => ?_, (fun q hq => nomatch hq), rfl, fun i d h => ?_, fun i c h => ?_, fun i j c c' x _ h => ?_⟩
  · have e := hT P hP
    exact ⟨⟨#[], e, by simp [TriplesOk]⟩, by show noTbl H P = none; unfold noTbl; rw [e]⟩
  · match i, h with
    | 0, h =>
      cases h
      exact ⟨_, rfl, .lst hS' (dpAll_ints ns)⟩
    | i + 1, h => simp at h
  · match i, h with
    | 0, h => cases h
    | i + 1, h => simp at h
  · match i, h with
    | 0, h => cases h
    | i + 1, h => simp at h
/-- what the judge's head knows of each def's table -/
def TabAll (K : PySem.W.Frag) (q : Program) (h : Heap) : Prop := ∀ (x : Str) (f c P : Addr) (o : Obj) (fd : FuncData) (e : Value) (dd : Option Addr) (vs : Array Value) (sl : Array (Option Value)), ((recsOf q).any fun e => e.name == x) = true → PySem.W.nsIn K mainGlobals x = some (some (.ref f)) → K.lookup f = some o → o.data = .func fd → fd.code = .ref c → K.lookup c = some ⟨e, dd, .fields vs, sl⟩ → vs[11]? = some (.ref P) →
  h.get? P = some { cls := .none, data := .fields #[] } ∧ PySem.W.CodeHd h c P
theorem walk_D {l : PySem.W.OpenLaw} {n k : Nat} {q : Program} {loose : List Str} {XP : (Str → Option Value) → Heap → Prop} {YP : World → Heap → Prop} {d : DefRec} {K : Params → PySem.W.Frag} {x : Str}
    (hn : l.most = some n) (hn2 : n ≤ sizeLine) (hdf : d.params.defaults = []) (hr : Room k callerA) (hY : ∀ (w : World) (h : Heap), YP w h → (K w.params).In h)
    (F : ∀ (w : World) (mg : Str → Option Value) (fa : Addr) (h : Heap), YP w h → (K w.params).In h → h.Ns mainGlobals mg → mg d.name = some (.ref fa) → TabAll (K w.params) q h → LamX.LawAtS l w (K w.params) CX0 k n x mg fa h) :
    PySem.W.WalkO q loose XP YP l.row.toRowW d [] (fun f vs => PySem.call f vs) := by
  refine Att.attach_callB hn hdf fun w s₀ s₁ mg mb fa o pm cd doc a vs ns G Y ho hd hcd hmg hobj hints hlen hbits hg => ?_
  have KX := hY w _ Y
  have tab : TabAll (K w.params) q s₁.heap := fun x f c P o1 fd1 e dd vs1 sl hrec kx k1 k2 k3 k4 k5 => by
    obtain ⟨dL, hm, hn1⟩ := List.any_eq_true.mp hrec
    have hn2 : dL.name = x := beq_iff_eq.mp hn1
    obtain ⟨a', o', fd', c', P', h1, h2, h3, h4, h5, h6⟩ := G.T.tab dL hm
    have hx := PySem.W.mg_of KX G.T.g kx
    rw [hn2, hx] at h1
    cases h1
    have g1 := KX _ _ k1
    rw [g1] at h2
    cases h2
    rw [k2] at h3
    cases h3
    rw [k3] at h4
    cases h4
    obtain ⟨hT, hP⟩ := id h6
    obtain ⟨oc, vc, e1, _, e3, e4⟩ := hT
    have g2 := KX _ _ k4
    rw [g2] at e1
    cases e1
    cases e3
    rw [k5] at e4
    cases e4
    exact ⟨hP, .of h5 h6⟩
  obtain ⟨fd, cs, sp, hT, nT, C, hb, hsp, hF⟩ := F w mg fa _ Y KX G.T.g hmg tab
  exact LamX.law_callTs KX G.T.g G.T.b G.T.builtins G.T.nolimit hg hT nT C G.T.bmain hobj hints (Nat.le_trans hlen hn2) hr hF hb (fun H hH hS => hsp H a ns hlen hbits hH hS) fun H e s' h => h
/-- the law's promise at the script -/
theorem law_sp {K : PySem.W.Frag} {cs : List (Addr × Addr)} {f : FD} (h : ∀ ns : List Int, ns.length ≤ 63 → ∃ outs, f [.val (.list (ns.map PyData.int))] = some (.bool true, outs)) {H : Hp} {a : Addr} {ns : List Int} (hl : ns.length ≤ 63) (hT : ∀ p ∈ cs, H p.2 = some (.tbl #[])) (hS : SqL K H a (ns.map V.int)) :
    FnD K (cs.map (·.2)) 1 [] f [.ref a] H (fun v _ => v = .bl true) fun _ _ _ => False := by
  obtain ⟨outs, e⟩ := h ns hl
  refine ⟨⟨K, noTbl H, H, cs.map (·.2), []⟩, _, _, outs, rfl, rfl, rfl, rfl, fun i c hc => ?_, fun i c x hc => ?_, rep_law (fun P hP => ?_) hS, e, fun v B' H' _ _ dv => by cases dv; rfl⟩
  · match i, hc with
    | 0, h => cases h
    | i + 1, h => simp at h
  · match i, hc with
    | 0, h => cases h
    | i + 1, h => simp at h
  · obtain ⟨p, hp, e⟩ := List.mem_map.mp hP
    rw [← e]
    exact hT p hp
end BC
set_option Elab.async false
set_option linter.all false
set_option maxRecDepth 100000
set_option maxHeartbeats 2000000
namespace BC
open PySem PySem.Spec PyProof.Rows L2 GxR
section
variable {X : Cx} {E : En} {e : Expr} {fe : DX} {pos : Pos}
/-- isinstance(x, (one class, another)) -/
def xIsiT (T1 T2 : String) (fe : DX) : DX := fun S => (fe S).bind fun p => (tyD p.1).bind fun t => (kitB t T1).bind fun b => if b = true then some (.bool true, p.2) else (kitB t T2).map fun b2 => (.bool b2, p.2)
theorem kitAny_two {K : PySem.W.Frag} {t T1 T2 : String} {b b2 : Bool} (h1 : kitB t T1 = some b) (h2 : b = false → kitB t T2 = some b2) : PySem.W.kitAny K (.type t) [.type T1, .type T2] = some (b || b2) := by
  have k1 := kit_ty (K := K) h1
  simp only [PySem.W.kitAny, k1]
  cases b with
  | true => rfl
  | false =>
    have k2 := kit_ty (K := K) (h2 rfl)
    simp only [k2]
    cases b2 <;> rfl
theorem d_isiT {p p2 p3 pt : Pos} {x1} {T1 T2 : Str} {N1 N2 : String} (hK : X.K = E.K) (hg : Gl X "isinstance") (hm : X.mg "isinstance" = none) (hg1 : Gl X T1) (hm1 : X.mg T1 = none) (hv1 : bootBuiltins T1 = some (.type N1)) (hg2 : Gl X T2) (hm2 : X.mg T2 = none) (hv2 : bootBuiltins T2 = some (.type N2)) (he : PE X e (up E fe))
    (hn1 : T1 ≠ "__name__" := by decide) (hdb1 : (T1 == ("__debug__" : Str)) = false := by decide) (hn2 : T2 ≠ "__name__" := by decide) (hdb2 : (T2 == ("__debug__" : Str)) = false := by decide)
    (hs : starEach [e, .Tuple [.Name T1 p2, .Name T2 p3] x1 pt] X.env = (false, eval e X.env) :: starEach [.Tuple [.Name T1 p2, .Name T2 p3] x1 pt] X.env := by rfl)
    (hs2 : starEach [.Tuple [.Name T1 p2, .Name T2 p3] x1 pt] X.env = (false, eval (.Tuple [.Name T1 p2, .Name T2 p3] x1 pt) X.env) :: starEach [] X.env := by rfl)
    (hs3 : starEach [.Name T1 p2, .Name T2 p3] X.env = (false, eval (.Name T1 p2) X.env) :: starEach [.Name T2 p3] X.env := by rfl)
    (hs4 : starEach [.Name T2 p3] X.env = (false, eval (.Name T2 p3) X.env) :: starEach [] X.env := by rfl)
    (hpl : (backTo pos (starEach [.Tuple [.Name T1 p2, .Name T2 p3] x1 pt] X.env)).any (·.1) = false := by rfl) :
    PE X (.Call (.Name "isinstance" p) [e, .Tuple [.Name T1 p2, .Name T2 p3] x1 pt] [] pos) (up E (xIsiT N1 N2 fe)) :=
  PE.imp (pe_callB call_isiTY hg hm (by decide +kernel) (pa_cons he (pa_cons (pe_tup (pa_cons (pe_bltn (v := .ty N1) hg1 hm1 hv1 rfl hn1 hdb1) (pa_cons (pe_bltn (v := .ty N2) hg2 hm2 hv2 rfl hn2 hdb2) pa_nil hs4) hs3)) pa_nil hs2) hs) (by decide) (by decide) hs hpl) fun σ H Q ⟨B, S, d, S', R, e, k⟩ => by
    unfold xIsiT at e
    simp only [Option.bind_eq_some_iff] at e
    obtain ⟨⟨d1, S1⟩, e1, t, e2, bb, e3, e4⟩ := e
    refine ⟨B, S, d1, _, R, e1, fun v B1 H1 s1 R1 dv => ?_⟩
    refine ⟨(by show 2 ≤ sizeLine; decide), fun q hq => ?_⟩
    have s2 := same_upd (o := .tup [.ty N1, .ty N2]) (R1.sub.free hq)
    have R2 := R1.laid (o := .tup [.ty N1, .ty N2]) hq ntTup
    cases hb : bb with
    | true =>
      rw [hb] at e3 e4
      simp only [if_true] at e4
      cases e4
      exact ⟨v, q, [.ty N1, .ty N2], _, [.type N1, .type N2], true, rfl, upd_same, .cons (.ty N1) (.cons (.ty N2) .nil), tyX_of hK R2 (dp_mono s2 dv) e2, kitAny_two (b2 := true) e3 (fun z => nomatch z), k _ _ _ (s1.trans s2) R2 (.bl _)⟩
    | false =>
      rw [hb] at e3 e4
      simp only [Bool.false_eq_true, if_false, Option.map_eq_some_iff] at e4
      obtain ⟨b2, e5, e6⟩ := e4
      cases e6
      exact ⟨v, q, [.ty N1, .ty N2], _, [.type N1, .type N2], b2, rfl, upd_same, .cons (.ty N1) (.cons (.ty N2) .nil), tyX_of hK R2 (dp_mono s2 dv) e2, kitAny_two (b := false) e3 (fun _ => e5), k _ _ _ (s1.trans s2) R2 (.bl _)⟩
end
end BC
set_option Elab.async false
set_option linter.all false
set_option maxRecDepth 100000
set_option maxHeartbeats 2000000
namespace BC
open PySem PySem.Spec PyProof.Rows L2 GxR
section
variable {X : Cx} {pins : List (Addr × Obj)} {σ : L2.St} {H : Hp} {s : Shared}
/-- what is walked in pairs: laid over s1, whose table at P is ps -/
structure Src2 (X : Cx) (P : Addr) (s1 s2 : Shared) (I : Addr) (fp wr : List Addr) (n : Nat) (Pf : Nat → Array Value → Prop) (St : Nat → Heap → Prop) (Mid : Nat → Addr → Heap → Prop) : Prop where
  same : ∃ h2 tk2, s2 = { s1 with heap := h2, toks := tk2 } ∧ (∀ b o, s1.heap.get? b = some o → h2.get? b = some o) ∧ s1.heap.objs.size ≤ h2.objs.size
  walks : ∀ A' : Around, A'.handled = none → WalksU X.prog X.w A' I fp wr n Pf St Mid
  two : ∀ i vals, Pf i vals → ∃ va vb, vals = #[va, vb]
  st : St 0 s2.heap
  lt : ∀ b ∈ fp, b < s2.heap.objs.size ∧ b ≠ P
  new : ∀ b ∈ wr, s1.heap.objs.size ≤ b
theorem gen2 {c P : Addr} {elt iter : Expr} {xa xb : Str} {pxa pxb pt gpos : Pos} {kt : Nat} {scope : Scope} {k : Nat} {Q' : Value → Shared → Prop} {R : (n : Nat) → (Nat → Bool) → Hp → Prop}
    (hr : Room (k + 3) X.A) (TB : TabB X.base X.mg c P) (hcode : X.env.code = .ref c) (S : GenS X.env scope xa) (hxb : scope.names.lookup xb = some .local) (hab : xa ≠ xb) (hs : ∀ v, genFold iter X.env v = pure v)
    (h : wpAny (model X.prog X.w) X.A (eval iter X.env) (fun xv s1' => wpAny (model X.prog X.w) X.A (pyIter xv) (fun it s2 => ∃ s1 H1 Ia fp wr n Pf St Mid pb, it = .ref Ia ∧ Inv X pins σ H1 s1 ∧ TabG H1 P ∧ Src2 X P s1 s2 Ia fp wr n Pf St Mid ∧ R n pb H1 ∧
      ∀ (cenv : Env) (A' : Around) (E' : Value → Shared → Prop) (i : Nat) (va vb : Value) (s' : Shared) (m : Str → Option Value), cenv.scope = scope → cenv.globals = mainGlobals → cenv.builtins = builtinsNs → Room k A' → Pf i #[va, vb] → s'.heap.Ns cenv.locals m → m xa = some va → m xb = some vb →
        (∀ b o, b ≠ P → b ∉ wr → s1.heap.get? b = some o → s'.heap.get? b = some o) → wpAny (model X.prog X.w) A' (eval elt cenv) (fun z s3 => z = .bool (pb i) ∧ Keeps s' s3) E' s') X.xe s1') X.xe s)
    (hQ : ∀ n pb H1 g s5, R n pb H1 → Ready1 X pins σ H1 P n pb g s5 → Q' (.ref g) s5) :
    wpAny (model X.prog X.w) X.A (eval (.GeneratorExp elt [⟨.Tuple [.Name xa pxa, .Name xb pxb] kt pt, iter, [], 0⟩] scope gpos) X.env) Q' X.xe s := by
  have dp := hr.dp
  have un := hr.un
  refine wpAny_GeneratorExp_walksQTD hr.hd S.co (closure_ok S.free) S.cell S.dot S.loc hxb hab S.kind (by omega) (thn h fun xv s0 q0 => thn q0 fun it s2 ⟨s1, H1, Ia, fp, wr, n, Pf, St0, Mid, pb, e0, I1, ⟨t0, hP, ht⟩, Z, hR, hel⟩ => ?_) hs
  obtain ⟨⟨h2, tk2, rfl, k2, sz⟩, W, two, st, lt, new⟩ := Z
  have lim := I1.nolimit.keeps k2
  have off := statics_off I1 hP
  refine ⟨lim, code_of I1 hP ht TB hcode k2 fun code h3 tk kp ext le3 => blt_of I1 TB kp ?_⟩
  refine ⟨Ia, fp, wr, n, Pf, St0, Mid, fun _ => true, fun i y => y = .bool (pb i), e0, W, two, (W X.A hr.hd).frame _ _ _ st fun b hb u e => ext b u (lt b hb).2 e, fun b hb => Nat.lt_of_lt_of_le (lt b hb).1 le3, lim.extBut ext off.1, fun z => absurd (Nat.lt_of_lt_of_le off.2 (new _ z)) (Nat.lt_irrefl _), fun href kr => ⟨fun A2 E2 i ya yb s2 m2 _ _ _ _ _ _ _ _ => ?_, fun A2 E2 i ya yb s2 m2 hA hD hU hy _ hn hma hmb hk => ?_⟩, fun g h5 tk5 gs bare _ _ k5 W5 at5 => hQ n pb H1 g _ hR ?_⟩
  · rw [List.forIn_nil]
    exact wpAny_pure ⟨rfl, keeps_refl s2⟩
  · exact hel _ A2 E2 i ya yb s2 m2 rfl I1.ok.glob rfl ⟨hA, by omega, by omega⟩ hy hn hma hmb fun b o nb nw e => hk b (List.mem_range.mpr (Heap.lt_size (kp.all b o nb e))) nw o (kr b o (kp.all b o nb e))
  · rw [GxR.passing_true, List.length_range] at W5
    refine ready_of I1 hP kp k5 bare (fun b hb => ?_) W5.in4_1 (fun j y ⟨i, hij, hy⟩ => ?_) at5
    · rcases List.mem_cons.mp hb with rfl | hb
      · exact Nat.le_trans sz le3
      · exact new b hb
    · obtain ⟨_, rfl⟩ := List.getElem?_eq_some_iff.mp hij
      rw [hy, List.getElem_range]
def atG {α : Type} (l : List α) (q : α → Bool) (j : Nat) : Bool := ((l[j]?).map q).getD true
theorem all_atG {α : Type} (l : List α) (q : α → Bool) : (List.range l.length).all (atG l q) = l.all q := by
  rw [Bool.eq_iff_iff, List.all_eq_true, List.all_eq_true]
  constructor
  · intro h b hb
    obtain ⟨j, hj, e⟩ := List.getElem_of_mem hb
    have z := h j (List.mem_range.mpr hj)
    unfold atG at z
    rw [List.getElem?_eq_getElem hj, e] at z
    exact z
  · intro h j hj
    have hj' := List.mem_range.mp hj
    unfold atG
    rw [List.getElem?_eq_getElem hj']
    exact h _ (List.getElem_mem hj')
/-- all(elt for x, y in zip(a, b)) -/
def xAllZ (pb : Int → Int → Bool) (fr : DA) : DX := fun S => (fr S).bind fun p => match p.1 with
  | [.tuple ds, .tuple es] => (intsOf ds).bind fun ns => (intsOf es).map fun ms => (.bool ((ns.zip ms).all fun q => pb q.1 q.2), p.2)
  | _ => none
/-- two names, ints -/
theorem qc_two {scope : Scope} {cenv : Env} {xa xb : Str} {s1 s' : Shared} {va vb : Value} {i j : Int} {m : Str → Option Value} (hk : scope.kind = .function) (hxa : scope.names.lookup xa = some .local) (hxb : scope.names.lookup xb = some .local)
    (hc : cenv.scope = scope) (hcg : cenv.globals = mainGlobals) (hcb : cenv.builtins = builtinsNs) (I1 : Inv X pins σ H s1) (hbk : ∀ b o, X.base.get? b = some o → s'.heap.get? b = some o) (hn : s'.heap.Ns cenv.locals m) (hma : m xa = some va) (hmb : m xb = some vb) (ra : RelV (.int i) va) (rb : RelV (.int j) vb) :
    QC X cenv [(xa, .int i), (xb, .int j)] s' := by
  refine ⟨by rw [hc]; exact hk, hcg, hcb, I1.mod, hbk, m, hn, fun z w hw => ?_⟩
  rw [List.lookup_cons] at hw
  split at hw
  · rename_i hz
    have : z = xa := by simpa using hz
    subst this
    cases hw
    exact ⟨_, ra, .inl ⟨by show cenv.scope.names.lookup _ = _; rw [hc]; exact hxa, hma⟩⟩
  · rw [List.lookup_cons] at hw
    split at hw
    · rename_i hz
      have : z = xb := by simpa using hz
      subst this
      cases hw
      exact ⟨_, rb, .inl ⟨by show cenv.scope.names.lookup _ = _; rw [hc]; exact hxb, hmb⟩⟩
    · cases hw
theorem ints_get {its : List Value} {vs : List V} {ns : List Int} (rv : Vals vs its) (ev : vs = ns.map V.int) {i : Nat} {y : Value} (hy : its[i]? = some y) : ∃ n, ns[i]? = some n ∧ RelV (.int n) y := by
  obtain ⟨hi, _⟩ := List.getElem?_eq_some_iff.mp hy
  have hl : its.length = ns.length := by rw [← rv.length, ev, List.length_map]
  have hi2 : i < ns.length := by omega
  have hv : vs[i]? = some (.int ns[i]) := by rw [ev, List.getElem?_map, List.getElem?_eq_getElem hi2]; rfl
  obtain ⟨u, hu, ru⟩ := rv.get hv
  rw [hy] at hu
  cases hu
  exact ⟨_, List.getElem?_eq_getElem hi2, ru⟩
theorem d_allZ {E : En} {c P : Addr} {elt e e2 : Expr} {xa xb : Str} {pxa pxb pt p pz pos gpos zpos : Pos} {kt : Nat} {scope : Scope} {fr : DA} {k : Nat} {pb : Int → Int → Bool} (hK : X.K = E.K) (hP : P ∈ E.T)
    (hr : Room (k + 3) X.A) (hg : Gl X "all") (hm : X.mg "all" = none) (hgz : Gl X "zip") (hmz : X.mg "zip" = none) (TB : TabB X.base X.mg c P) (hcode : X.env.code = .ref c) (S : GenS X.env scope xa) (hxb : scope.names.lookup xb = some .local) (hab : xa ≠ xb) (he : PA X [e, e2] (upA E fr))
    (hel : ∀ (cenv : Env) (i j : Int), cenv.scope = scope → QE X cenv [(xa, .int i), (xb, .int j)] k elt (.bl (pb i j)))
    (hs : ∀ v, genFold (.Call (.Name "zip" pz) [e, e2] [] zpos) X.env v = pure v := by intro _; rfl)
    (hsz : starEach [e, e2] X.env = (false, eval e X.env) :: starEach [e2] X.env := by rfl) (hplz : (backTo zpos (starEach [e2] X.env)).any (·.1) = false := by rfl)
    (hse : starEach [.GeneratorExp elt [⟨.Tuple [.Name xa pxa, .Name xb pxb] kt pt, .Call (.Name "zip" pz) [e, e2] [] zpos, [], 0⟩] scope gpos] X.env = (false, eval (.GeneratorExp elt [⟨.Tuple [.Name xa pxa, .Name xb pxb] kt pt, .Call (.Name "zip" pz) [e, e2] [] zpos, [], 0⟩] scope gpos) X.env) :: starEach [] X.env := by rfl) :
    PE X (.Call (.Name "all" p) [.GeneratorExp elt [⟨.Tuple [.Name xa pxa, .Name xb pxb] kt pt, .Call (.Name "zip" pz) [e, e2] [] zpos, [], 0⟩] scope gpos] [] pos) (up E (xAllZ pb fr)) := by
  refine ⟨fun pins s σ H Q I ⟨B, S0, d, S', R, e0, kk⟩ => ?_⟩
  unfold xAllZ at e0
  simp only [Option.bind_eq_some_iff] at e0
  obtain ⟨⟨ds0, S1⟩, e1, e2'⟩ := e0
  split at e2'
  case h_2 => cases e2'
  rename_i ds es hds
  simp only at hds
  subst hds
  simp only [Option.bind_eq_some_iff, Option.map_eq_some_iff] at e2'
  obtain ⟨ns, e3, ms, e4, e5⟩ := e2'
  cases e5
  refine wpAny_Call_Name_kw (ld_blt I hg hm (u := .builtin "all") (by decide +kernel) ?_ (by decide) (by decide))
  refine PyProof.Rows.callWith_builtin1 ?_ hse (by rfl)
  rw [hse]
  show wpAny _ _ (spliced ((false, eval (.GeneratorExp elt [⟨.Tuple [.Name xa pxa, .Name xb pxb] kt pt, .Call (.Name "zip" pz) [e, e2] [] zpos, [], 0⟩] scope gpos) X.env) :: backTo pos (starEach [] X.env))) _ _ s
  refine Calls.spliced_cons (gen2 (pins := pins) (σ := σ) (R := fun n q H1 => n = (ns.zip ms).length ∧ q = atG (ns.zip ms) (fun q => pb q.1 q.2) ∧ ∃ B1, Same B B1 ∧ Rep E B1 H1 σ S') hr TB hcode S hxb hab hs ?_ fun n q H1 g s5 hR hG => ?_)
  · refine Call_ (ld_blt I hgz hmz PyProof.Rows.boot_zip (PyProof.Rows.callWith_type1 (thn (he.run zpos pins s σ H _ I ⟨B, S0, _, S', R, e1, fun vs B1 H1 s1 R1 dv => (⟨B1, s1, R1, dv⟩ : ∃ B1, Same B B1 ∧ Rep E B1 H1 σ S' ∧ DpAll E.K B1 vs [.tuple ds, .tuple es])⟩) fun us st ⟨vs, H1, I1, r1, B1, s1, R1, dv⟩ => ?_) hsz hplz))
    cases dv with
    | cons d1 dr =>
      cases dr with
      | cons d2 dr2 =>
        cases dr2
        cases d1 with
        | @tup a va _ ha ra =>
          cases d2 with
          | @tup b vb _ hb rb =>
            cases r1 with
            | cons ru rr =>
              cases rr with
              | cons ru2 rr2 =>
                cases rr2
                cases ru
                cases ru2
                have ev := intsOf_dp e3 ra
                have ew := intsOf_dp e4 rb
                obtain ⟨its, rv, pl, _⟩ := I1.tuple (xs := va) (a := a) (by rw [hK]; exact same_seqT R1.sub ha)
                obtain ⟨its2, rv2, pl2, _⟩ := I1.tuple (xs := vb) (a := b) (by rw [hK]; exact same_seqT R1.sub hb)
                obtain ⟨⟨ps, hps, ht⟩, _⟩ := R1.tabs P hP
                have hPs : st.heap.get? P = some { cls := .none, data := .fields ps } := I1.hok P _ hps
                have hPlt := Heap.lt_size hPs
                have haP : a ≠ P := fun z => by
                  obtain ⟨o, ho, hc, _⟩ := pl
                  rw [z, hPs] at ho
                  cases ho
                  cases hc
                have hbP : b ≠ P := fun z => by
                  obtain ⟨o, ho, hc, _⟩ := pl2
                  rw [z, hPs] at ho
                  cases ho
                  cases hc
                have hal := pl.lt
                have hbl := pl2.lt
                have hits : its.length = ns.length := by rw [← rv.length, ev, List.length_map]
                have hits2 : its2.length = ms.length := by rw [← rv2.length, ew, List.length_map]
                have pl' : st.heap.IsTuple a its.toArray := pl
                have pl2' : st.heap.IsTuple b its2.toArray := pl2
                refine RZ.call_zipT pl' pl2' fun h' hz hTI hTO h1 h2 hsz' hk => wpAny_pyIter_zip hz ?_
                have fpb : ∀ q ∈ (st.heap.objs.size + 4) :: (st.heap.objs.size + 2) :: (st.heap.objs.size + 3) :: ([st.heap.objs.size, a] ++ [st.heap.objs.size + 1, b]), q < h'.objs.size ∧ q ≠ P := fun q hq => by
                  have e' : q = st.heap.objs.size + 4 ∨ q = st.heap.objs.size + 2 ∨ q = st.heap.objs.size + 3 ∨ q = st.heap.objs.size ∨ q = a ∨ q = st.heap.objs.size + 1 ∨ q = b := by simpa using hq
                  have hne : ∀ j : Nat, P ≠ st.heap.objs.size + j := fun j => Nat.ne_of_lt (Nat.lt_of_lt_of_le hPlt (Nat.le_add_right _ _))
                  rcases e' with z | z | z | z | z | z | z
                  · exact ⟨by rw [z, hsz']; exact Nat.add_lt_add_left (by decide) _, fun w => hne 4 (w.symm.trans z)⟩
                  · exact ⟨by rw [z, hsz']; exact Nat.add_lt_add_left (by decide) _, fun w => hne 2 (w.symm.trans z)⟩
                  · exact ⟨by rw [z, hsz']; exact Nat.add_lt_add_left (by decide) _, fun w => hne 3 (w.symm.trans z)⟩
                  · exact ⟨by rw [z, hsz']; exact Nat.lt_add_of_pos_right (by decide), fun w => hne 0 (w.symm.trans z)⟩
                  · exact ⟨by rw [z, hsz']; exact Nat.lt_of_lt_of_le hal (Nat.le_add_right _ _), fun w => haP (z.symm.trans w)⟩
                  · exact ⟨by rw [z, hsz']; exact Nat.add_lt_add_left (by decide) _, fun w => hne 1 (w.symm.trans z)⟩
                  · exact ⟨by rw [z, hsz']; exact Nat.lt_of_lt_of_le hbl (Nat.le_add_right _ _), fun w => hbP (z.symm.trans w)⟩
                have newb : ∀ q ∈ [st.heap.objs.size + 4, st.heap.objs.size + 3, st.heap.objs.size, st.heap.objs.size + 1], st.heap.objs.size ≤ q := fun q hq => by
                  have e' : q = st.heap.objs.size + 4 ∨ q = st.heap.objs.size + 3 ∨ q = st.heap.objs.size ∨ q = st.heap.objs.size + 1 := by simpa using hq
                  rcases e' with z | z | z | z
                  · rw [z]; exact Nat.le_add_right _ _
                  · rw [z]; exact Nat.le_add_right _ _
                  · rw [z]; exact Nat.le_refl _
                  · rw [z]; exact Nat.le_add_right _ _
                have sep := zip_sep2 (N := st.heap.objs.size) (fp1 := [a]) (fp2 := [b]) (fun q hq => by rw [List.mem_singleton.mp hq]; exact hal) (fun q hq => by rw [List.mem_singleton.mp hq]; exact hbl)
                refine ⟨st, H1, st.heap.objs.size + 4, _, _, min its.toArray.size its2.toArray.size, _, _, _, atG (ns.zip ms) (fun q => pb q.1 q.2), rfl, I1, (R1.tabs P hP).1, ⟨⟨h', st.toks, rfl, hk, by rw [hsz']; exact Nat.le_add_right _ _⟩, fun A' hA => (WalksT.zipD2 sep (Draws.tuple (A := A'.in1) hA st.heap.objs.size a (Nat.ne_of_lt hal) its.toArray) (Draws.tuple (A := A'.in1) hA (st.heap.objs.size + 1) b (Nat.ne_of_lt (Nat.lt_succ_of_lt hbl)) its2.toArray)).toU, fun i vals hp => ?_, ⟨hz, hTI, ⟨_, _, hTO⟩, ⟨h1, pl'.at fun o q => hk _ o q⟩, ⟨h2, pl2'.at fun o q => hk _ o q⟩⟩, fpb, newb⟩, ⟨by simp [hits, hits2], rfl, B1, s1, R1⟩, ?_⟩
                · obtain ⟨x1, x2, _, _, ez⟩ := hp
                  exact ⟨x1, x2, ez⟩
                · intro cenv A' E' i wa wb s' m hc hcg hcb hrA hy hn hma hmb hkk
                  obtain ⟨x1, x2, g1, g2, ez⟩ := hy
                  obtain ⟨ez1, ez2⟩ : wa = x1 ∧ wb = x2 := by simpa using ez
                  subst ez1 ez2
                  obtain ⟨n1, q1, rn1⟩ := ints_get rv ev (i := i) (y := wa) (by simpa using g1)
                  obtain ⟨n2, q2, rn2⟩ := ints_get rv2 ew (i := i) (y := wb) (by simpa using g2)
                  have big : ∀ b o, b ≠ P → st.heap.get? b = some o → s'.heap.get? b = some o := fun b o hb e => hkk b o hb (fun z => by
                    have hl := Heap.lt_size e
                    exact absurd (Nat.lt_of_lt_of_le hl (newb b z)) (Nat.lt_irrefl _)) e
                  have hq := qc_two (X := X) S.kind S.loc hxb hc hcg hcb I1 (fun b o e => big b o (fun z => by
                    have := (I1.bs b o e).2
                    rw [z] at this
                    rw [this] at hps
                    cases hps) (I1.bk b o e)) hn hma hmb rn1 rn2
                  refine hel cenv n1 n2 hc A' E' s' _ hrA hq fun u s3 r3 k3 => ⟨?_, k3⟩
                  have : atG (ns.zip ms) (fun q => pb q.1 q.2) i = pb n1 n2 := by
                    unfold atG
                    have : (ns.zip ms)[i]? = some (n1, n2) := List.getElem?_zip_eq_some.mpr ⟨q1, q2⟩
                    rw [this]
                    rfl
                  rw [this]
                  exact r3
  · obtain ⟨rfl, rfl, B1, s1, R1⟩ := hR
    obtain ⟨fp, wr, G, F, Stt, W, hst, htr, hI⟩ := hG
    refine Calls.spliced_nil ?_
    have TT : TruthOf X.prog X.w X.A.in1 F (atG (ns.zip ms) (fun q => pb q.1 q.2)) := fun j y sj Qj Ej hy hQj => by
      rw [htr j y hy]
      exact wpAny_truthy_bool hQj
    refine call_all_walkS (W.self 0 _ _ _ hst ⟨g, fp, wr, G, _, F, Stt, _, rfl, W, hst, TT, fun s' hmv => ?_⟩)
    obtain ⟨H2, hT, J⟩ := hI s' hmv
    have R2 := R1.tabbed hP hT
    refine ⟨.bl _, H2, J, rfl, ?_⟩
    rw [all_atG]
    exact kk _ B1 H2 s1 R2 (.bl _)
end
end BC
set_option Elab.async false
set_option linter.all false
set_option maxRecDepth 100000
set_option maxHeartbeats 2000000
namespace BC
open PySem PySem.Spec PyProof.Rows L2 GxR
/-! ### enumerate over a tuple -/
/-- the heap behind enumerate(v): v's iterator and the counter, from 0, over it -/
def countLaid (h : Heap) (io : Obj) : Heap := (h.push io).push ⟨.type "enumerate", none, .fields #[.none, .bool false, .ref h.objs.size, rawInt 0, .none, .none], #[]⟩
theorem new_enum1 {v : Value} {io : Obj} {Ok : Heap → Prop} (bg : Begins v io Ok) :
    Meets (Builtin.«enumerate.__new__» ⟨[.type "enumerate", v], []⟩) fun _ R s => Ok s.heap ∧ R (.ok (.ret (.ref (s.heap.push io).objs.size))) { s with heap := countLaid s.heap io } := by
  refine .of_wp fun P w A R s hyp => ?_
  obtain ⟨hp, gs, dr, tk, os⟩ := s
  obtain ⟨ok, fin⟩ := hyp
  have sb := sub_enumerate
  have start : ∀ {A2 : Around} {E2 Q2 : Value → Shared → Prop}, Q2 (.ref hp.objs.size) ⟨hp.push io, gs, dr, tk, os⟩ → wpAny (model P w) A2 (pyIter v) Q2 E2 ⟨hp, gs, dr, tk, os⟩ := fun q => bg.iter P w _ _ _ _ ok q
  wp_walk using start
  refine wpAny_stack_any fun _ => wpAny_pure ?_
  split
  case h_1 c _ _ _ _ _ => cases c == Value.type "enumerate" <;> (wp_walk using start; exact ⟨_, rfl, fin⟩)
  case h_2 => wp_walk using start; exact ⟨_, rfl, fin⟩
section
variable {prog : Program} {w : World} {A : Around} {E : Value → Shared → Prop} {s : Shared}
theorem countLaid_size {h : Heap} {io : Obj} : (countLaid h io).objs.size = h.objs.size + 2 := by simp only [countLaid, Heap.size_push]
theorem countLaid_keeps {h : Heap} {io : Obj} {b : Addr} {o : Obj} (e : h.get? b = some o) : (countLaid h io).get? b = some o := Heap.get?_push_of_some _ (Heap.get?_push_of_some _ e)
theorem enum_begins1 {v : Value} {io : Obj} {Ok : Heap → Prop} {Q : Value → Shared → Prop} (bg : Begins v io Ok) (ok : Ok s.heap)
    (k : ∀ h', IsEnum h' (s.heap.objs.size + 1) s.heap.objs.size 0 .none → h'.get? s.heap.objs.size = some io → h'.objs.size = s.heap.objs.size + 2 → (∀ b o, s.heap.get? b = some o → h'.get? b = some o) → Q (.ref (s.heap.objs.size + 1)) { s with heap := h' }) :
    wpAny (model prog w) A (call (.type "enumerate") [v]) Q E s := by
  have top : IsEnum (countLaid s.heap io) (s.heap.objs.size + 1) s.heap.objs.size 0 .none := by
    have g := Heap.get?_push_size (s.heap.push io) (o := ⟨.type "enumerate", none, .fields #[.none, .bool false, .ref s.heap.objs.size, rawInt 0, .none, .none], #[]⟩) rfl
    rw [Heap.size_push] at g
    exact g
  refine callType_new F.called_enumerate (by decide) (F.typeCall_enumerate_1 _) (F.newCall_enumerate_1 _) (fun obj => F.args_object_init_2 obj _) F.entry_enumerate_new (new_enum1 bg) ⟨ok, ?_⟩
  show _ ∧ _
  rw [Heap.size_push]
  exact ⟨⟨_, top, rfl⟩, k _ top (Heap.get?_push_of_some _ (Heap.get?_push_size _ bg.free)) countLaid_size fun _ _ => countLaid_keeps⟩
end
/-- the tuple at a, each item in a new pair behind its number, counted from k0 -/
def IteT (K : PySem.W.Frag) (a : Addr) (k0 : Int) (n : Nat) : It :=
  ⟨fun i H => ∃ (xs : List V) (x : V), SqT K H a xs ∧ xs.length = n ∧ xs[i]? = some x, fun i H v H' => ∃ T x, v = .ref T ∧ H T = none ∧ H' = upd H T (.tup [.int (k0 + (i : Nat)), x]) ∧ ∀ xs, SqT K H a xs → xs[i]? = some x, fun i H => ∃ xs : List V, SqT K H a xs ∧ xs.length = n ∧ n ≤ i⟩
theorem turn_enumT {P : Program} {w : World} {K : PySem.W.Frag} {elts : List Expr} {kk : Nat} {tpos : Pos} (k0 : Int) (n : Nat) (a e it : Addr) (hai : a ≠ it) (hei : e ≠ it) (hea : e ≠ a) :
    Turn P w K (.Tuple elts kk tpos) (IteT K a k0 n) [e, it] e (fun i h => (∃ old, IsEnum h e it (k0 + (i : Int)) old) ∧ h.IsTupleIter it a i ∧ i ≤ n) where
  mem := List.mem_cons_self
  obj := fun i h ⟨⟨_, se⟩, ⟨io, si, _, sd⟩, _⟩ b hb => (List.mem_cons.mp hb).elim (fun z => by subst z; exact ⟨_, se, fun _ c => nomatch c⟩) fun z => ⟨io, (List.mem_singleton.mp z) ▸ si, fun _ c => by rw [sd] at c; exact nomatch c⟩
  keep := fun i h h' ⟨⟨old, se⟩, si, le⟩ kp => ⟨⟨old, kp e List.mem_cons_self _ se⟩, si.at fun o q => kp it (List.mem_cons_of_mem _ List.mem_cons_self) o q, le⟩
  item := by
    intro X eP ew eK calm i pins s σ H E I own st here
    subst eP ew eK
    obtain ⟨⟨old, se⟩, si, le⟩ := st
    obtain ⟨xs, x, seq, len, nth⟩ := here
    obtain ⟨us, rel, tup, _⟩ := I.tuple seq
    obtain ⟨u, nthu, ru⟩ := rel.get nth
    have below : ∀ b ∈ [e, it], b < s.heap.objs.size := fun b hb => (List.mem_cons.mp hb).elim (fun z => z ▸ Heap.lt_size se) fun z => by
      obtain ⟨_, q, _⟩ := si
      exact (List.mem_singleton.mp z) ▸ Heap.lt_size q
    have W := WalksT.enumFrom (prog := X.prog) (w := X.w) (A := X.A) k0 (Draws.tuple (A := X.A.in1) (I.ok.hd calm) it a hai us.toArray) e hei (by simp [hei, hea]) List.mem_cons_self
    refine W.item i s _ _ (by have := (List.getElem?_eq_some_iff.mp nthu).1; simpa using this) ⟨⟨old, se⟩, si, tup⟩ fun T vals g tk pair up isT mid kp => ?_
    obtain ⟨t, y, nthy, rfl⟩ := pair
    obtain rfl : u = y := Option.some.inj (nthu.symm.trans (by simpa using nthy))
    have off : T ∉ [e, it] := fun z => Nat.lt_irrefl _ (Nat.lt_of_lt_of_le (below T z) up)
    refine ⟨_, rfl, W.go elts kk tpos i T { s with heap := g, toks := tk } _ _ mid fun g2 st2 kp2 => ?_⟩
    have obj : ObjOk X.prog X.w (upd H T (.tup [.int (k0 + (i : Nat)), x])) g2 T (.tup [.int (k0 + (i : Nat)), x]) :=
      ⟨(by decide : 2 ≤ sizeLine), [.int (k0 + (i : Int)) t, u], .cons ⟨t, rfl⟩ (.cons ru .nil), isT.at fun o q => kp2 T o off q⟩
    have I2 := I.turnedNew (t' := tk) (ch := [e, it]) (fun b o nb q => kp2 b o nb (kp b o nb q)) own up obj
    have lt : i < n := len ▸ (List.getElem?_eq_some_iff.mp nth).1
    exact ⟨.ref T, _, I2, rfl, ⟨T, x, rfl, I.hok.fresh up, rfl, fun ys q => I.tuple_inj q seq ▸ nth⟩, ⟨st2.1, st2.2.1, lt⟩, fun b hb => by rw [upd_ne (Nat.ne_of_lt (Nat.lt_of_lt_of_le (below b hb) up))]; exact (own b hb).1⟩
  done := by
    intro X eP ew eK calm i pins s σ H E I own st over
    subst eP ew eK
    obtain ⟨⟨old, se⟩, si, le⟩ := st
    obtain ⟨xs, seq, len, ge⟩ := over
    obtain ⟨us, rel, tup, _⟩ := I.tuple seq
    have size : us.toArray.size = i := by have := rel.length; simp; omega
    have W := WalksT.enumFrom (prog := X.prog) (w := X.w) (A := X.A) k0 (Draws.tuple (A := X.A.in1) (I.ok.hd calm) it a hai us.toArray) e hei (by simp [hei, hea]) List.mem_cons_self
    exact W.done s _ _ (by rw [size]; exact ⟨⟨old, se⟩, si, tup⟩) fun g tk kp => ⟨rfl, I.turnedL (t' := tk) (ch := [e, it]) kp own⟩
  self := fun A i s Q E st q => wpAny_pyIter_enum st.1.choose_spec q
/-- numbers before the items -/
def enumD (k0 : Int) (ds : List D) : List D := (List.range ds.length).map fun i => match ds[i]? with
  | some d => .tuple [.int (k0 + (i : Nat)), d]
  | none => .none
theorem enumD_len (k0 : Int) (ds : List D) : (enumD k0 ds).length = ds.length := by simp [enumD]
theorem enumD_get {k0 : Int} {ds : List D} {i : Nat} {d : D} (h : (enumD k0 ds)[i]? = some d) : ∃ x, ds[i]? = some x ∧ d = .tuple [.int (k0 + (i : Nat)), x] := by
  unfold enumD at h
  rw [List.getElem?_map, Option.map_eq_some_iff] at h
  obtain ⟨j, h1, h2⟩ := h
  obtain ⟨h3, h4⟩ := List.getElem?_eq_some_iff.mp h1
  rw [List.getElem_range] at h4
  subst h4
  rw [List.length_range] at h3
  rw [List.getElem?_eq_getElem h3] at h2
  exact ⟨_, List.getElem?_eq_getElem h3, h2.symm⟩
section
variable {X : Cx} {E : En} {e : Expr} {fe : DX} {pos : Pos}
theorem ite_D {K : PySem.W.Frag} {B : Hp} {a : Addr} {vs : List V} {ds : List D} (k0 : Int) (h : B a = some (.tup vs)) (r : DpAll K B vs ds) : ItD K B (IteT K a k0 ds.length) (enumD k0 ds) := by
  refine ⟨fun i H q hi => ?_, fun i H x H' d q ed y => ?_, fun i H q hi => ⟨vs, same_seqT q h, dpAll_len r, by rw [enumD_len] at hi; exact hi⟩⟩
  · rw [enumD_len] at hi
    obtain ⟨v, g1, g2⟩ := dpAll_get r (List.getElem?_eq_getElem hi)
    exact ⟨vs, v, same_seqT q h, dpAll_len r, g1⟩
  · obtain ⟨x1, e1, e2⟩ := enumD_get ed
    obtain ⟨T, v, rfl, hT, hH, y2⟩ := y
    obtain ⟨v2, g1, g2⟩ := dpAll_get r e1
    have := y2 vs (same_seqT q h)
    rw [g1] at this
    cases this
    exact .inr ⟨T, _, _, rfl, hT, hH, e2, .cons (.int _) (.cons g2 .nil)⟩
/-- for .. in enumerate(a tuple) -/
def iEn1 (fr : DA) : DA := fun S => (fr S).bind fun p => match p.1 with
  | [.tuple ds] => some (enumD 0 ds, p.2)
  | _ => none
theorem i_en1 {p tpos : Pos} {elts : List Expr} {kk : Nat} {fr : DA} (hK : X.K = E.K) (hg : Gl X "enumerate") (hm : X.mg "enumerate" = none) (ha : PA X [e] (upA E fr)) (hs : starEach [e] X.env = [(false, eval e X.env)] := by rfl) :
    PI X (.Tuple elts kk tpos) (.Call (.Name "enumerate" p) [e] [] pos) (upI E (iEn1 fr)) := by
  refine ⟨fun pins s σ H R I ⟨B, S, d, S', R0, e0, k⟩ => ?_⟩
  unfold iEn1 at e0
  simp only [Option.bind_eq_some_iff] at e0
  obtain ⟨⟨ds0, S1⟩, e1, e2⟩ := e0
  split at e2
  case h_2 => cases e2
  rename_i ds hds
  simp only at hds
  subst hds
  cases e2
  refine Call_ (ld_blt I hg hm boot_enumerate (PyProof.Rows.callWith_type1 (thn (ha.run pos pins s σ H _ I ⟨B, S, _, S1, R0, e1, fun vs B1 H1 s1 R1 dv => (⟨B1, s1, R1, dv⟩ : ∃ B1, Same B B1 ∧ Rep E B1 H1 σ S1 ∧ DpAll E.K B1 vs [.tuple ds])⟩) fun us st ⟨vs, H1, I1, r1, B1, s1, R1, dv⟩ => ?_) hs rfl))
  obtain ⟨v, rfl, dx⟩ := dpAll1 dv
  cases dx with
  | @tup a va _ ha2 ra =>
    cases r1 with
    | cons ru rr =>
      cases rr
      cases ru
      have hq : SqT X.K H1 a va := by rw [hK]; exact same_seqT R1.sub ha2
      obtain ⟨its, rv, p', hz⟩ := I1.tuple hq
      have hal := p'.lt
      refine enum_begins1 (begins_tuple a its.toArray) p' fun h' he hit hsz hk => wpAny_pyIter_enum he ?_
      have I2 : Inv X pins σ H1 { st with heap := h' } := I1.kept (t' := st.toks) hk
      refine ⟨st.heap.objs.size + 1, [st.heap.objs.size + 1, st.heap.objs.size], _, _, H1, rfl, I2, turn_enumT 0 ds.length a (st.heap.objs.size + 1) st.heap.objs.size (Nat.ne_of_lt hal) (Nat.succ_ne_self _) (Nat.ne_of_gt (Nat.lt_succ_of_lt hal)), ⟨⟨.none, he⟩, ⟨_, hit, rfl, rfl⟩, Nat.zero_le _⟩, fun b hb => ?_, k _ B1 H1 s1 R1 (by rw [hK]; exact ite_D 0 ha2 ra)⟩
      have e' : b = st.heap.objs.size + 1 ∨ b = st.heap.objs.size := by simpa using hb
      have hle : st.heap.objs.size ≤ b := by
        rcases e' with z | z
        · rw [z]; exact Nat.le_add_right _ _
        · rw [z]; exact Nat.le_refl _
      exact I1.fpOk hle (I1.hok.fresh hle)
end
end BC
set_option Elab.async false
set_option linter.all false
set_option maxRecDepth 100000
set_option maxHeartbeats 2000000
namespace BC
open PySem PySem.Spec PyProof.Rows L2 GxR
section
variable {X : Cx} {E : En} {a b : Expr} {fa fb : DX} {pos : Pos}
/-- list(range(i, j)) -/
def xLstR (fa fb : DX) : DX := x2 (fun d e => match d, e with
  | .int i, .int j => if RgOk i j then some (.list (rangeD i (j - i).toNat)) else none
  | _, _ => none) fa fb
theorem d_lstR {p p2 pos2 : Pos} (hc : X.calm = true) (hg : Gl X "list") (hm : X.mg "list" = none) (hg2 : Gl X "range") (hm2 : X.mg "range" = none) (ha : PE X a (up E fa)) (hb : PE X b (up E fb))
    (na : starEach [a, b] X.env = (false, eval a X.env) :: starEach [b] X.env := by rfl) (nb : starEach [b] X.env = (false, eval b X.env) :: starEach [] X.env := by rfl) (hp : (backTo pos2 (starEach [b] X.env)).any (·.1) = false := by rfl)
    (nr : starEach [.Call (.Name "range" p2) [a, b] [] pos2] X.env = (false, eval (.Call (.Name "range" p2) [a, b] [] pos2) X.env) :: starEach [] X.env := by rfl) :
    PE X (.Call (.Name "list" p) [.Call (.Name "range" p2) [a, b] [] pos2] [] pos) (up E (xLstR fa fb)) :=
  PE.imp (pe_listRg hc hg hm (prg_2 hg2 hm2 ha hb na nb hp) nr) fun σ H Q ⟨B, S, d, S', R, e, k⟩ => by
    unfold xLstR x2 at e
    simp only [Option.bind_eq_some_iff, Option.map_eq_some_iff] at e
    obtain ⟨⟨d1, S1⟩, e1, ⟨d2, S2⟩, e2, z, e3, e4⟩ := e
    cases e4
    cases d1 <;> cases d2 <;> (try (simp at e3; done))
    rename_i i j
    simp only at e3
    split at e3
    · rename_i hr
      cases e3
      refine ⟨B, S, _, S1, R, e1, fun x B1 H1 s1 R1 dx => ⟨B1, S1, _, S2, R1, e2, fun y B2 H2 s2 R2 dy => ?_⟩⟩
      cases dx
      cases dy
      refine ⟨i, j, rfl, rfl, hr, fun q hq => ?_⟩
      obtain ⟨s3, R3, d3⟩ := new_lst R2 hq (dpAll_range i j)
      exact k _ _ _ ((s1.trans s2).trans s3) R3 d3
    · cases e3
end
end BC
set_option Elab.async false
set_option linter.all false
set_option maxRecDepth 100000
set_option maxHeartbeats 2000000
namespace BC
open PySem PySem.Spec PyProof.Rows L2 GxR
section
variable {X : Cx} {pins : List (Addr × Obj)} {σ : L2.St} {H : Hp} {s : Shared}
/-- the numbers from k0 beside the items -/
def numI (k0 : Int) (ns : List Int) : List (Int × Int) := ((List.range ns.length).map fun i => k0 + (i : Nat)).zip ns
theorem numI_len (k0 : Int) (ns : List Int) : (numI k0 ns).length = ns.length := by simp [numI]
theorem numI_get {k0 : Int} {ns : List Int} {i : Nat} {n : Int} (h : ns[i]? = some n) : (numI k0 ns)[i]? = some (k0 + (i : Nat), n) := by
  have hi := (List.getElem?_eq_some_iff.mp h).1
  refine List.getElem?_zip_eq_some.mpr ⟨?_, h⟩
  rw [List.getElem?_map, List.getElem?_eq_getElem (by rw [List.length_range]; exact hi), List.getElem_range]
  rfl
/-- all(elt for x, y in enumerate(a, k0)) -/
def xAllE (pb : Int → Int → Bool) (fr : DA) : DX := fun S => (fr S).bind fun p => match p.1 with
  | [.tuple ds, .int k0] => if -(2 ^ 62) ≤ k0 ∧ k0 < 2 ^ 62 then (intsOf ds).map fun ns => (.bool ((numI k0 ns).all fun q => pb q.1 q.2), p.2) else none
  | _ => none
theorem d_allE {E : En} {c P : Addr} {elt e e2 : Expr} {xa xb : Str} {pxa pxb pt p pz pos gpos zpos : Pos} {kt : Nat} {scope : Scope} {fr : DA} {k : Nat} {pb : Int → Int → Bool} (hK : X.K = E.K) (hP : P ∈ E.T)
    (hr : Room (k + 3) X.A) (hg : Gl X "all") (hm : X.mg "all" = none) (hgz : Gl X "enumerate") (hmz : X.mg "enumerate" = none) (TB : TabB X.base X.mg c P) (hcode : X.env.code = .ref c) (S : GenS X.env scope xa) (hxb : scope.names.lookup xb = some .local) (hab : xa ≠ xb) (he : PA X [e, e2] (upA E fr))
    (hel : ∀ (cenv : Env) (i j : Int), cenv.scope = scope → QE X cenv [(xa, .int i), (xb, .int j)] k elt (.bl (pb i j)))
    (hs : ∀ v, genFold (.Call (.Name "enumerate" pz) [e, e2] [] zpos) X.env v = pure v := by intro _; rfl)
    (hsz : starEach [e, e2] X.env = (false, eval e X.env) :: starEach [e2] X.env := by rfl) (hplz : (backTo zpos (starEach [e2] X.env)).any (·.1) = false := by rfl)
    (hse : starEach [.GeneratorExp elt [⟨.Tuple [.Name xa pxa, .Name xb pxb] kt pt, .Call (.Name "enumerate" pz) [e, e2] [] zpos, [], 0⟩] scope gpos] X.env = (false, eval (.GeneratorExp elt [⟨.Tuple [.Name xa pxa, .Name xb pxb] kt pt, .Call (.Name "enumerate" pz) [e, e2] [] zpos, [], 0⟩] scope gpos) X.env) :: starEach [] X.env := by rfl) :
    PE X (.Call (.Name "all" p) [.GeneratorExp elt [⟨.Tuple [.Name xa pxa, .Name xb pxb] kt pt, .Call (.Name "enumerate" pz) [e, e2] [] zpos, [], 0⟩] scope gpos] [] pos) (up E (xAllE pb fr)) := by
  refine ⟨fun pins s σ H Q I ⟨B, S0, d, S', R, e0, kk⟩ => ?_⟩
  unfold xAllE at e0
  simp only [Option.bind_eq_some_iff] at e0
  obtain ⟨⟨ds0, S1⟩, e1, e2'⟩ := e0
  split at e2'
  case h_2 => cases e2'
  rename_i ds k0 hds
  simp only at hds
  subst hds
  split at e2'
  case isFalse => cases e2'
  rename_i hk0
  simp only [Option.map_eq_some_iff] at e2'
  obtain ⟨ns, e3, e5⟩ := e2'
  cases e5
  refine wpAny_Call_Name_kw (ld_blt I hg hm (u := .builtin "all") (by decide +kernel) ?_ (by decide) (by decide))
  refine PyProof.Rows.callWith_builtin1 ?_ hse (by rfl)
  rw [hse]
  show wpAny _ _ (spliced ((false, eval (.GeneratorExp elt [⟨.Tuple [.Name xa pxa, .Name xb pxb] kt pt, .Call (.Name "enumerate" pz) [e, e2] [] zpos, [], 0⟩] scope gpos) X.env) :: backTo pos (starEach [] X.env))) _ _ s
  refine Calls.spliced_cons (gen2 (pins := pins) (σ := σ) (R := fun n q H1 => n = (numI k0 ns).length ∧ q = atG (numI k0 ns) (fun q => pb q.1 q.2) ∧ ∃ B1, Same B B1 ∧ Rep E B1 H1 σ S') hr TB hcode S hxb hab hs ?_ fun n q H1 g s5 hR hG => ?_)
  · refine Call_ (ld_blt I hgz hmz boot_enumerate (PyProof.Rows.callWith_type1 (thn (he.run zpos pins s σ H _ I ⟨B, S0, _, S', R, e1, fun vs B1 H1 s1 R1 dv => (⟨B1, s1, R1, dv⟩ : ∃ B1, Same B B1 ∧ Rep E B1 H1 σ S' ∧ DpAll E.K B1 vs [.tuple ds, .int k0])⟩) fun us st ⟨vs, H1, I1, r1, B1, s1, R1, dv⟩ => ?_) hsz hplz))
    cases dv with
    | cons d1 dr =>
      cases dr with
      | cons d2 dr2 =>
        cases dr2
        cases d2
        cases d1 with
        | @tup a va _ ha ra =>
          cases r1 with
          | cons ru rr =>
            cases rr with
            | cons ru2 rr2 =>
              cases rr2
              cases ru
              obtain ⟨tk0, rfl⟩ := ru2
              have ev := intsOf_dp e3 ra
              obtain ⟨its, rv, pl, _⟩ := I1.tuple (xs := va) (a := a) (by rw [hK]; exact same_seqT R1.sub ha)
              obtain ⟨⟨ps, hps, ht⟩, _⟩ := R1.tabs P hP
              have hPs : st.heap.get? P = some { cls := .none, data := .fields ps } := I1.hok P _ hps
              have hPlt := Heap.lt_size hPs
              have haP : a ≠ P := fun z => by
                obtain ⟨o, ho, hc, _⟩ := pl
                rw [z, hPs] at ho
                cases ho
                cases hc
              have hal := pl.lt
              have hits : its.length = ns.length := by rw [← rv.length, ev, List.length_map]
              have pl' : st.heap.IsTuple a its.toArray := pl
              refine enum_begins (begins_tuple a its.toArray) pl' (Int.le_trans (by decide) hk0.1) (Int.lt_trans hk0.2 (by decide)) fun h' ienum hit hsz' hk => wpAny_pyIter_enum ienum ?_
              have hne : ∀ j : Nat, P ≠ st.heap.objs.size + j := fun j => Nat.ne_of_lt (Nat.lt_of_lt_of_le hPlt (Nat.le_add_right _ _))
              have fpb : ∀ q ∈ (st.heap.objs.size + 1) :: [st.heap.objs.size, a], q < h'.objs.size ∧ q ≠ P := fun q hq => by
                have e' : q = st.heap.objs.size + 1 ∨ q = st.heap.objs.size ∨ q = a := by simpa using hq
                rcases e' with z | z | z
                · exact ⟨by rw [z, hsz']; exact Nat.add_lt_add_left (by decide) _, fun w => hne 1 (w.symm.trans z)⟩
                · exact ⟨by rw [z, hsz']; exact Nat.lt_add_of_pos_right (by decide), fun w => hne 0 (w.symm.trans z)⟩
                · exact ⟨by rw [z, hsz']; exact Nat.lt_of_lt_of_le hal (Nat.le_add_right _ _), fun w => haP (z.symm.trans w)⟩
              have newb : ∀ q ∈ [st.heap.objs.size + 1, st.heap.objs.size], st.heap.objs.size ≤ q := fun q hq => by
                have e' : q = st.heap.objs.size + 1 ∨ q = st.heap.objs.size := by simpa using hq
                rcases e' with z | z
                · exact z ▸ Nat.le_add_right _ _
                · exact z ▸ Nat.le_refl _
              refine ⟨st, H1, st.heap.objs.size + 1, _, _, its.toArray.size, _, _, _, atG (numI k0 ns) (fun q => pb q.1 q.2), rfl, I1, (R1.tabs P hP).1, ⟨⟨h', st.toks, rfl, hk, by rw [hsz']; exact Nat.le_add_right _ _⟩, fun A' hA => (WalksT.enumFrom k0 (Draws.tuple (A := A'.in1) hA st.heap.objs.size a (Nat.ne_of_lt hal) its.toArray) (st.heap.objs.size + 1) (Nat.succ_ne_self _) (fun z => by rcases List.mem_cons.mp z with z | z; exact absurd z (Nat.succ_ne_self _); exact absurd (List.mem_singleton.mp z) (Nat.ne_of_gt (Nat.lt_succ_of_lt hal))) List.mem_cons_self).toU, fun i vals hp => ?_, ⟨⟨.none, by simpa using ienum⟩, ⟨_, hit, rfl, rfl⟩, pl'.at fun o q => hk _ o q⟩, fpb, newb⟩, ⟨by simp [hits, numI_len], rfl, B1, s1, R1⟩, ?_⟩
              · obtain ⟨x1, x2, _, ez⟩ := hp
                exact ⟨_, _, ez⟩
              · intro cenv A' E' i wa wb s' m hc hcg hcb hrA hy hn hma hmb hkk
                obtain ⟨x1, x2, g2, ez⟩ := hy
                obtain ⟨ez1, ez2⟩ : wa = .int (k0 + (i : Int)) x1 ∧ wb = x2 := by simpa using ez
                subst ez1 ez2
                obtain ⟨n2, q2, rn2⟩ := ints_get rv ev (i := i) (y := wb) (by simpa using g2)
                have big : ∀ b o, b ≠ P → st.heap.get? b = some o → s'.heap.get? b = some o := fun b o hb e => hkk b o hb (fun z => by
                  have hl := Heap.lt_size e
                  exact absurd (Nat.lt_of_lt_of_le hl (newb b z)) (Nat.lt_irrefl _)) e
                have hq := qc_two (X := X) S.kind S.loc hxb hc hcg hcb I1 (fun b o e => big b o (fun z => by
                  have := (I1.bs b o e).2
                  rw [z] at this
                  rw [this] at hps
                  cases hps) (I1.bk b o e)) hn hma hmb (i := k0 + (i : Int)) (j := n2) ⟨x1, rfl⟩ rn2
                refine hel cenv (k0 + (i : Int)) n2 hc A' E' s' _ hrA hq fun u s3 r3 k3 => ⟨?_, k3⟩
                have : atG (numI k0 ns) (fun q => pb q.1 q.2) i = pb (k0 + (i : Int)) n2 := by
                  unfold atG
                  rw [numI_get q2]
                  rfl
                rw [this]
                exact r3
  · obtain ⟨rfl, rfl, B1, s1, R1⟩ := hR
    obtain ⟨fp, wr, G, F, Stt, W, hst, htr, hI⟩ := hG
    refine Calls.spliced_nil ?_
    have TT : TruthOf X.prog X.w X.A.in1 F (atG (numI k0 ns) (fun q => pb q.1 q.2)) := fun j y sj Qj Ej hy hQj => by
      rw [htr j y hy]
      exact wpAny_truthy_bool hQj
    refine call_all_walkS (W.self 0 _ _ _ hst ⟨g, fp, wr, G, _, F, Stt, _, rfl, W, hst, TT, fun s' hmv => ?_⟩)
    obtain ⟨H2, hT, J⟩ := hI s' hmv
    have R2 := R1.tabbed hP hT
    refine ⟨.bl _, H2, J, rfl, ?_⟩
    rw [all_atG]
    exact kk _ B1 H2 s1 R2 (.bl _)
end
end BC
set_option Elab.async false
set_option linter.all false
set_option maxRecDepth 100000
set_option maxHeartbeats 2000000
namespace BC
open PySem PySem.Spec PyProof.Rows L2 GxR
/-- at most so many turns -/
def runWhile (y : DT) (f : SX) : Nat → SS → Option Res
  | 0, _ => none
  | n + 1, S => (y S).bind fun p => if p.1 = true then (f p.2).bind fun r => match r with
      | .nx S' => runWhile y f n S'
      | .ct S' => runWhile y f n S'
      | .bk S' => some (.nx S')
      | .rt d S' => some (.rt d S')
    else some (.nx p.2)
theorem runWhile_more {y : DT} {f : SX} {r : Res} : ∀ {n : Nat} {S : SS} (m : Nat), runWhile y f n S = some r → runWhile y f (n + m) S = some r
  | 0, S, m, h => by cases h
  | n + 1, S, m, h => by
    have e : n + 1 + m = (n + m) + 1 := by omega
    rw [e]
    unfold runWhile at h ⊢
    simp only [Option.bind_eq_some_iff] at h ⊢
    obtain ⟨p, h1, h2⟩ := h
    refine ⟨p, h1, ?_⟩
    split at h2
    · rename_i hp
      rw [if_pos hp]
      simp only [Option.bind_eq_some_iff] at h2 ⊢
      obtain ⟨q, h3, h4⟩ := h2
      refine ⟨q, h3, ?_⟩
      cases q with
      | nx S' => exact runWhile_more m h4
      | ct S' => exact runWhile_more m h4
      | bk S' => exact h4
      | rt d S' => exact h4
    · rename_i hp
      rw [if_neg hp]
      exact h2
section
variable {X : Cx} {E : En} {pos : Pos}
theorem s_while {c : Expr} {body : List Stmt} {y : DT} {f : SX} {n : Nat} (hp : PassesOwn (model X.prog X.w) X.A X.env X.xe) (hc : PT X c (upT E y)) (hb : PSs X body (upS E f)) : PS X (.While c body [] pos) (upS E (runWhile y f n)) :=
  PS.imp (ps_while hp hc hb) fun σ H D ⟨B, S, r, R, e, k⟩ => by
    refine ⟨fun m σ2 H2 => ∃ B2 S2, Same B B2 ∧ Rep E B2 H2 σ2 S2 ∧ runWhile y f m S2 = some r, ⟨n, B, S, Same.refl B, R, e⟩, fun m σ2 H2 ⟨B2, S2, s2, R2, e2⟩ => ?_⟩
    cases m with
    | zero => cases e2
    | succ m =>
      unfold runWhile at e2
      simp only [Option.bind_eq_some_iff] at e2
      obtain ⟨⟨b, S3⟩, e3, e4⟩ := e2
      refine ⟨B2, S2, b, S3, R2, e3, fun B3 H3 s3 R3 => ?_⟩
      cases b with
      | false =>
        simp only [Bool.false_eq_true, if_false] at e4 ⊢
        cases e4
        exact k σ2 B3 H3 (s2.trans s3) R3
      | true =>
        simp only [if_true, Option.bind_eq_some_iff] at e4 ⊢
        obtain ⟨q, e5, e6⟩ := e4
        refine ⟨fun σ4 H4 => ∃ B4 S4, Same B B4 ∧ Rep E B4 H4 σ4 S4 ∧ runWhile y f m S4 = some r, fun σ4 H4 ⟨B4, S4, h1, h2, h3⟩ => ⟨m, Nat.lt_succ_self m, B4, S4, h1, h2, h3⟩, B3, S3, q, R3, e5, ?_⟩
        cases q with
        | nx S' => exact fun σ4 B4 H4 s4 R4 => ⟨B4, S', (s2.trans s3).trans s4, R4, e6⟩
        | ct S' => exact fun σ4 B4 H4 s4 R4 => ⟨B4, S', (s2.trans s3).trans s4, R4, e6⟩
        | bk S' => cases e6; exact fun σ4 B4 H4 s4 R4 => k σ4 B4 H4 ((s2.trans s3).trans s4) R4
        | rt d S' => cases e6; exact fun v σ4 B4 H4 s4 R4 dv => k v σ4 B4 H4 ((s2.trans s3).trans s4) R4 dv
end
end BC
set_option Elab.async false
set_option linter.all false
set_option maxRecDepth 100000
set_option maxHeartbeats 2000000
namespace BC
open PySem PySem.Spec PyProof.Rows L2 GxR
section
variable {X : Cx} {E : En} {e e2 : Expr} {pos : Pos}
/-- for .. in enumerate(a tuple, k0) -/
def iEn2 (fr : DA) : DA := fun S => (fr S).bind fun p => match p.1 with
  | [.tuple ds, .int k0] => if -(2 ^ 62) ≤ k0 ∧ k0 < 2 ^ 62 then some (enumD k0 ds, p.2) else none
  | _ => none
theorem i_en2 {p tpos : Pos} {elts : List Expr} {kk : Nat} {fr : DA} (hK : X.K = E.K) (hg : Gl X "enumerate") (hm : X.mg "enumerate" = none) (ha : PA X [e, e2] (upA E fr))
    (hs : starEach [e, e2] X.env = (false, eval e X.env) :: starEach [e2] X.env := by rfl) (hpl : (backTo pos (starEach [e2] X.env)).any (·.1) = false := by rfl) :
    PI X (.Tuple elts kk tpos) (.Call (.Name "enumerate" p) [e, e2] [] pos) (upI E (iEn2 fr)) := by
  refine ⟨fun pins s σ H R I ⟨B, S, d, S', R0, e0, k⟩ => ?_⟩
  unfold iEn2 at e0
  simp only [Option.bind_eq_some_iff] at e0
  obtain ⟨⟨ds0, S1⟩, e1, ev⟩ := e0
  split at ev
  case h_2 => cases ev
  rename_i ds k0 hds
  simp only at hds
  subst hds
  split at ev
  case isFalse => cases ev
  rename_i hk0
  cases ev
  refine Call_ (ld_blt I hg hm boot_enumerate (PyProof.Rows.callWith_type1 (thn (ha.run pos pins s σ H _ I ⟨B, S, _, S1, R0, e1, fun vs B1 H1 s1 R1 dv => (⟨B1, s1, R1, dv⟩ : ∃ B1, Same B B1 ∧ Rep E B1 H1 σ S1 ∧ DpAll E.K B1 vs [.tuple ds, .int k0])⟩) fun us st ⟨vs, H1, I1, r1, B1, s1, R1, dv⟩ => ?_) hs hpl))
  obtain ⟨v, w, rfl, dx, dy⟩ := dpAll2 dv
  cases dy
  cases dx with
  | @tup a va _ ha2 ra =>
    cases r1 with
    | cons ru rr =>
      cases rr with
      | cons ru2 rr2 =>
        cases rr2
        cases ru
        obtain ⟨tk0, rfl⟩ := ru2
        obtain ⟨its, rv, tup, _⟩ := I1.tuple (xs := va) (a := a) (by rw [hK]; exact same_seqT R1.sub ha2)
        have hal := tup.lt
        refine enum_begins (begins_tuple a its.toArray) tup (Int.le_trans (by decide) hk0.1) (Int.lt_trans hk0.2 (by decide)) fun h' ie hit _ hk => wpAny_pyIter_enum ie ?_
        refine ⟨st.heap.objs.size + 1, [st.heap.objs.size + 1, st.heap.objs.size], _, _, H1, rfl, I1.kept (t' := st.toks) hk, turn_enumT k0 ds.length a (st.heap.objs.size + 1) st.heap.objs.size (Nat.ne_of_lt hal) (Nat.succ_ne_self _) (Nat.ne_of_gt (Nat.lt_succ_of_lt hal)), ⟨⟨.none, by simpa using ie⟩, ⟨_, hit, rfl, rfl⟩, Nat.zero_le _⟩, fun b hb => ?_, k _ B1 H1 s1 R1 (by rw [hK]; exact ite_D k0 ha2 ra)⟩
        have up : st.heap.objs.size ≤ b := (List.mem_cons.mp hb).elim (fun z => z ▸ Nat.le_add_right _ _) fun z => (List.mem_singleton.mp z) ▸ Nat.le_refl _
        exact I1.fpOk up (I1.hok.fresh up)
/-- pairs -/
def zipD (ds es : List D) : List D := (ds.zip es).map fun q => .tuple [q.1, q.2]
theorem zipD_get {ds es : List D} {i : Nat} {d : D} (h : (zipD ds es)[i]? = some d) : ∃ x y, ds[i]? = some x ∧ es[i]? = some y ∧ d = .tuple [x, y] := by
  unfold zipD at h
  rw [List.getElem?_map, Option.map_eq_some_iff] at h
  obtain ⟨⟨x, y⟩, h1, h2⟩ := h
  obtain ⟨h3, h4⟩ := List.getElem?_zip_eq_some.mp h1
  exact ⟨x, y, h3, h4, h2.symm⟩
theorem zipD_len (ds es : List D) : (zipD ds es).length = min ds.length es.length := by simp [zipD]
theorem itz_D {K : PySem.W.Frag} {B : Hp} {a b : Addr} {vs ws : List V} {ds es : List D} (h : B a = some (.tup vs)) (h2 : B b = some (.tup ws)) (r : DpAll K B vs ds) (r2 : DpAll K B ws es) : ItD K B (RZ.ItzT K a b) (zipD ds es) := by
  refine ⟨fun i H q hi => ?_, fun i H x H' d q ed y => ?_, fun i H q hi => ⟨vs, ws, same_seqT q h, same_seqT q h2, ?_⟩⟩
  · rw [zipD_len] at hi
    obtain ⟨v, g1, _⟩ := dpAll_get r (List.getElem?_eq_getElem (show i < ds.length by omega))
    obtain ⟨w, g2, _⟩ := dpAll_get r2 (List.getElem?_eq_getElem (show i < es.length by omega))
    exact ⟨vs, ws, v, w, same_seqT q h, same_seqT q h2, g1, g2⟩
  · obtain ⟨x1, y1, e1, e2, e3⟩ := zipD_get ed
    obtain ⟨T, v, w, rfl, hT, hH, yv, yw⟩ := y
    obtain ⟨v2, g1, d1⟩ := dpAll_get r e1
    obtain ⟨w2, g2, d2⟩ := dpAll_get r2 e2
    have z1 := yv vs (same_seqT q h)
    have z2 := yw ws (same_seqT q h2)
    rw [g1] at z1
    rw [g2] at z2
    cases z1
    cases z2
    exact .inr ⟨T, _, _, rfl, hT, hH, e3, .cons d1 (.cons d2 .nil)⟩
  · rw [zipD_len] at hi
    rw [dpAll_len r, dpAll_len r2]
    omega
/-- for .. in zip(a tuple, a tuple) -/
def iZip (fr : DA) : DA := fun S => (fr S).bind fun p => match p.1 with
  | [.tuple ds, .tuple es] => some (zipD ds es, p.2)
  | _ => none
theorem i_zip {p tpos : Pos} {elts : List Expr} {kk : Nat} {fr : DA} (hK : X.K = E.K) (hg : Gl X "zip") (hm : X.mg "zip" = none) (ha : PA X [e, e2] (upA E fr))
    (hs : starEach [e, e2] X.env = (false, eval e X.env) :: starEach [e2] X.env := by rfl) (hpl : (backTo pos (starEach [e2] X.env)).any (·.1) = false := by rfl) :
    PI X (.Tuple elts kk tpos) (.Call (.Name "zip" p) [e, e2] [] pos) (upI E (iZip fr)) := PI.imp (RZ.pi_zipA hg hm ha hs hpl) fun σ H R ⟨B, S, d, S', R0, e0, k⟩ => by
  unfold iZip at e0
  simp only [Option.bind_eq_some_iff] at e0
  obtain ⟨⟨ds0, S1⟩, e1, ev⟩ := e0
  split at ev
  case h_2 => cases ev
  rename_i ds es hds
  simp only at hds
  subst hds
  cases ev
  refine ⟨B, S, _, S1, R0, e1, fun vs B1 H1 s1 R1 dv => ?_⟩
  obtain ⟨v, w, rfl, dx, dy⟩ := dpAll2 dv
  cases dx with
  | @tup a va _ ha2 ra =>
    cases dy with
    | @tup b vb _ hb2 rb =>
      exact ⟨a, b, va, vb, rfl, .inr ⟨by rw [hK]; exact same_seqT R1.sub ha2, by rw [hK]; exact same_seqT R1.sub hb2, k _ B1 H1 s1 R1 (by rw [hK]; exact itz_D ha2 hb2 ra rb)⟩⟩
end
end BC
set_option Elab.async false
set_option linter.all false
set_option maxRecDepth 100000
set_option maxHeartbeats 2000000
namespace BC
open PySem PySem.Spec PyProof.Rows L2 GxR
section
variable {X : Cx} {E : En} {a b c : Expr} {pos : Pos}
theorem dpAll3 {K : PySem.W.Frag} {B : Hp} {vs : List V} {d1 d2 d3 : D} (h : DpAll K B vs [d1, d2, d3]) : ∃ v1 v2 v3, vs = [v1, v2, v3] ∧ Dp K B v1 d1 ∧ Dp K B v2 d2 ∧ Dp K B v3 d3 := by
  cases h with
  | cons h1 r => obtain ⟨v2, v3, rfl, h2, h3⟩ := dpAll2 r; exact ⟨_, v2, v3, rfl, h1, h2, h3⟩
/-- x, y, z = a, b, c, plain local names: stored from the right -/
def sPar3 (i j l : Nat) (fr : DA) : SX := fun S => (fr S).bind fun p => match p.1 with
  | [d1, d2, d3] => (setV l d3 p.2).bind fun S1 => (setV j d2 S1).bind fun S2 => (setV i d1 S2).map .nx
  | _ => none
theorem s_par3 {i j l : Nat} {x y z : Str} {px py pz pt : Pos} {kt k2 pt2} {fr : DA} (hp : ∀ q ∈ E.pa, q.1 ≠ i) (hp2 : ∀ q ∈ E.pa, q.1 ≠ j) (hp3 : ∀ q ∈ E.pa, q.1 ≠ l) (calm : X.calm = true) (nd : X.N.Nodup) (hi : X.N[i]? = some x) (hj : X.N[j]? = some y) (hl : X.N[l]? = some z)
    (hx : X.env.scope.names.lookup x = some .local) (hy : X.env.scope.names.lookup y = some .local) (hz : X.env.scope.names.lookup z = some .local) (ha : PA X [a, b, c] (upA E fr))
    (hw : swappedStores [.Tuple [.Name x px, .Name y py, .Name z pz] kt pt] (.Tuple [a, b, c] k2 pt2) X.env = pure (some [x, y, z]))
    (hs : swapsWithSole [.Tuple [.Name x px, .Name y py, .Name z pz] kt pt] (.Tuple [a, b, c] k2 pt2) pos.line X.env = pure false := by rfl) :
    PS X (.Assign [.Tuple [.Name x px, .Name y py, .Name z pz] kt pt] (.Tuple [a, b, c] k2 pt2) pos) (upS E (sPar3 i j l fr)) := by
  refine ⟨fun pins s σ H G I ⟨B, S, r, R, e, k⟩ => ?_⟩
  unfold sPar3 setV at e
  simp only [Option.bind_eq_some_iff] at e
  obtain ⟨⟨ds, S1⟩, e1, e2⟩ := e
  split at e2
  case h_2 => cases e2
  rename_i d1 d2 d3 hd
  simp only at hd
  subst hd
  simp only [Option.bind_eq_some_iff, Option.map_eq_some_iff] at e2
  obtain ⟨S2, e3, S3, e4, S4, e5, e6⟩ := e2
  split at e3
  case isFalse => cases e3
  rename_i l1
  cases e3
  split at e4
  case isFalse => cases e4
  rename_i l2
  cases e4
  split at e5
  case isFalse => cases e5
  rename_i l3
  cases e5
  cases e6
  rw [exec_Assign_arm]
  refine wpAny_bind (wpAny_standAt ?_)
  rw [hs]
  refine wpAny_bind (wpAny_pure ?_)
  rw [if_neg Bool.false_ne_true]
  refine wpAny_bind (Tuple_ (thn (ha.run _ pins s σ H _ I ⟨B, S, _, S1, R, e1, fun vs B1 H1 s1 R1 dv => (⟨B1, s1, R1, dv⟩ : ∃ B1, Same B B1 ∧ Rep E B1 H1 σ S1 ∧ DpAll E.K B1 vs [d1, d2, d3])⟩) fun us st ⟨vs, H1, I1, r1, B1, s1, R1, dv⟩ => ?_))
  obtain ⟨v1, v2, v3, rfl, q1, q2, q3⟩ := dpAll3 dv
  obtain ⟨u1, u2, u3, rfl, t1, t2, t3⟩ : ∃ u1 u2 u3, us = [u1, u2, u3] ∧ RelV v1 u1 ∧ RelV v2 u2 ∧ RelV v3 u3 := by
    rcases r1 with _ | ⟨a1, _ | ⟨a2, _ | ⟨a3, _ | _⟩⟩⟩
    exact ⟨_, _, _, rfl, a1, a2, a3⟩
  refine wpAny_newObj_type ?_ (by show 3 ≤ sizeLine; decide)
  have I2 : Inv X pins σ H1 { st with heap := st.heap.push { cls := .type "tuple", data := .seq [u1, u2, u3].toArray } } := I1.kept (t' := st.toks) fun _ _ q => Heap.get?_push_of_some _ q
  rw [hw]
  refine wpAny_bind (wpAny_pure ?_)
  show wpAny (model X.prog X.w) X.A (do rule "assign.swapped-stores"; let items ← unpackItems (.ref st.heap.objs.size) 3 none; assignInOrder [fun v => bindName X.env z v, fun v => bindName X.env y v, fun v => bindName X.env x v] items.reverse; pure Flow.next) _ _ _
  refine wpAny_bind (wpAny_rule (wpAny_bind (unpackItems_tuple (items := #[u1, u2, u3]) (I.ok.hd calm) (IsTup.new st.heap _) fun h3 ext => ?_)))
  have I3 := I2.kept (h' := h3) (t' := st.toks) fun b o q => ext b o (Nat.ne_of_lt (Heap.lt_size q)) q
  show wpAny _ _ (assignInOrder [fun v => bindName X.env z v, fun v => bindName X.env y v, fun v => bindName X.env x v] [u3, u2, u1] >>= fun _ => pure Flow.next) _ _ _
  refine wpAny_bind (assignInOrder_cons (wpAny_bindName (store_ok I3 nd hl (.inl hz) t3 (fun _ J1 => ?_) (.inr hz))))
  refine assignInOrder_cons (wpAny_bindName (store_ok J1 nd hj (.inl hy) t2 (fun _ J2 => ?_) (.inr hy)))
  refine assignInOrder_cons (wpAny_bindName (store_ok J2 nd hi (.inl hx) t1 (fun _ J3 => assignInOrder_nil (wpAny_pure ?_)) (.inr hx)))
  exact ⟨_, H1, J3, k _ B1 H1 s1 (((R1.set q3 hp3 l1).set q2 hp2 l2).set q1 hp l3)⟩
end
end BC
set_option Elab.async false
set_option linter.all false
set_option maxRecDepth 100000
set_option maxHeartbeats 2000000
namespace BC
open PySem PySem.Spec PyProof.Rows L2 GxR
section
variable {S : SS} {fa fb fc fe : DX} {fr fl : DA} {ya yb : DT} {f g : SX}
@[simp] theorem xC_eq {d : D} : xC d S = some (d, S) := rfl
@[simp] theorem xV_eq {i : Nat} : xV i S = match S[i]? with | some (.val d) => some (d, S) | _ => none := rfl
@[simp] theorem xF_eq {i : Nat} : xF i S = match S[i]? with | some (.val d) => some (d, S) | some (.own (.lst ds)) => some (.list ds, S.set i (.val (.list ds))) | _ => none := rfl
@[simp] theorem x2_eq {h : D → D → Option D} : x2 h fa fb S = (fa S).bind fun p => (fb p.2).bind fun q => (h p.1 q.1).map fun z => (z, q.2) := rfl
@[simp] theorem xT_eq : xT fa S = (fa S).bind fun p => match p.1 with | .bool b => some (b, p.2) | _ => none := rfl
@[simp] theorem xCh_eq {h h' : D → D → Option D} : xCh h h' fa fb fc S = (fa S).bind fun p => (fb p.2).bind fun q => (h p.1 q.1).bind fun z => match z with
  | .bool true => (fc q.2).bind fun r => (h' q.1 r.1).map fun y => (y, r.2)
  | .bool false => some (.bool false, q.2)
  | _ => none := rfl
@[simp] theorem xAnd_eq : xAnd fa fb S = (fa S).bind fun p => match p.1 with | .bool true => fb p.2 | .bool false => some (.bool false, p.2) | _ => none := rfl
@[simp] theorem xOr_eq : xOr fa fb S = (fa S).bind fun p => match p.1 with | .bool false => fb p.2 | .bool true => some (.bool true, p.2) | _ => none := rfl
@[simp] theorem xNot_eq : xNot fa S = (fa S).bind fun p => match p.1 with | .bool b => some (.bool (!b), p.2) | _ => none := rfl
@[simp] theorem yAnd_eq : yAnd ya yb S = (ya S).bind fun p => if p.1 = true then yb p.2 else some (false, p.2) := rfl
@[simp] theorem yOr_eq : yOr ya yb S = (ya S).bind fun p => if p.1 = true then some (true, p.2) else yb p.2 := rfl
@[simp] theorem yNot_eq : yNot ya S = (ya S).map fun p => (!p.1, p.2) := rfl
@[simp] theorem xIf_eq : xIf ya fa fb S = (ya S).bind fun p => if p.1 = true then fa p.2 else fb p.2 := rfl
@[simp] theorem x1_eq {h : D → Option D} : x1 h fa S = (fa S).bind fun p => (h p.1).map fun z => (z, p.2) := rfl
@[simp] theorem gNeg_eq {i : Int} : gNeg (.int i) = some (.int (-i)) := rfl
@[simp] theorem gAdd_ii {i j : Int} : gAdd (.int i) (.int j) = some (.int (i + j)) := rfl
@[simp] theorem gAdd_tt {xs ys : List D} : gAdd (.tuple xs) (.tuple ys) = if xs.length + ys.length ≤ 100000 then some (.tuple (xs ++ ys)) else none := rfl
@[simp] theorem gSub_ii {i j : Int} : gSub (.int i) (.int j) = some (.int (i - j)) := rfl
theorem gMul_r {i j : Int} (h : -(2 ^ 64) < j ∧ j < 2 ^ 64) : gMul (.int i) (.int j) = some (.int (i * j)) := if_pos (.inr h)
@[simp] theorem gMul_ii {i j : Int} : gMul (.int i) (.int j) = if (-(2 ^ 64) < i ∧ i < 2 ^ 64) ∨ (-(2 ^ 64) < j ∧ j < 2 ^ 64) then some (.int (i * j)) else none := rfl
@[simp] theorem gMul_ti {xs : List D} {k : Int} : gMul (.tuple xs) (.int k) = if xs ≠ [] ∧ 2 ≤ k ∧ k ≤ 1000 ∧ xs.length ≤ 1000 then some (.tuple (List.replicate k.toNat xs).flatten) else none := rfl
@[simp] theorem gDiv_ii {i j : Int} : gDiv (.int i) (.int j) = if 0 < j ∧ j < 1073741824 then some (.int (i / j)) else none := rfl
@[simp] theorem gMod_ii {i j : Int} : gMod (.int i) (.int j) = if 0 < j then some (.int (i % j)) else none := rfl
@[simp] theorem gPow_ii {i j : Int} : gPow (.int i) (.int j) = if 0 ≤ j ∧ j ≤ 1000000 ∧ i.natAbs < 2 ^ 64 then some (.int (i ^ j.toNat)) else none := rfl
@[simp] theorem gI_ii {p : Int → Int → Bool} {i j : Int} : gI p (.int i) (.int j) = some (.bool (p i j)) := rfl
@[simp] theorem gIs_bb {i j : Bool} : gIs (.bool i) (.bool j) = some (.bool (decide (i = j))) := rfl
@[simp] theorem gIsNot_bb {i j : Bool} : gIsNot (.bool i) (.bool j) = some (.bool (!decide (i = j))) := rfl
@[simp] theorem gIs_n {d : D} : gIs d .none = some (.bool (isNo d)) := by cases d <;> rfl
@[simp] theorem gIsNot_n {d : D} : gIsNot d .none = some (.bool (!isNo d)) := by cases d <;> rfl
@[simp] theorem isNo_n : isNo .none = true := rfl
@[simp] theorem isNo_i {i : Int} : isNo (.int i) = false := rfl
@[simp] theorem isNo_t {l : List D} : isNo (.tuple l) = false := rfl
@[simp] theorem yNil_eq : yNil S = some ([], S) := rfl
@[simp] theorem yCons_eq : yCons fe fr S = (fe S).bind fun p => (fr p.2).map fun q => (p.1 :: q.1, q.2) := rfl
@[simp] theorem xTup_eq : xTup fr S = (fr S).bind fun p => if p.1.length ≤ 100000 then some (.tuple p.1, p.2) else none := rfl
@[simp] theorem xLst_eq : xLst fr S = (fr S).bind fun p => if p.1.length ≤ 100000 then some (.list p.1, p.2) else none := rfl
@[simp] theorem yLst_eq : yLst fr S = (fr S).bind fun p => if p.1.length ≤ 100000 then some p else none := rfl
@[simp] theorem xL_eq : xL fl S = (fl S).map fun p => (.list p.1, p.2) := rfl
@[simp] theorem xCall_eq {h : List D → Option D} : xCall h fr S = (fr S).bind fun p => (h p.1).map fun z => (z, p.2) := rfl
@[simp] theorem gLen_t {l : List D} : gLen [.tuple l] = some (.int (l.length : Nat)) := rfl
@[simp] theorem gLen_l {l : List D} : gLen [.list l] = some (.int (l.length : Nat)) := rfl
@[simp] theorem gInt_i {i : Int} : gInt [.int i] = some (.int i) := rfl
@[simp] theorem gMin_i {i j : Int} : gMin [.int i, .int j] = some (.int (if j < i then j else i)) := rfl
@[simp] theorem gMax_i {i j : Int} : gMax [.int i, .int j] = some (.int (if j > i then j else i)) := rfl
@[simp] theorem gAbs_i {i : Int} : gAbs [.int i] = some (.int (if i < 0 then -i else i)) := rfl
@[simp] theorem gTupOf_t {l : List D} : gTupOf [.tuple l] = some (.tuple l) := rfl
@[simp] theorem gTupOf_l {l : List D} : gTupOf [.list l] = some (.tuple l) := rfl
@[simp] theorem xIsi_eq {T : String} : xIsi T fe S = (fe S).bind fun p => (tyD p.1).bind fun t => (kitB t T).map fun b => (.bool b, p.2) := rfl
@[simp] theorem tyD_i {i : Int} : tyD (.int i) = some "int" := rfl
@[simp] theorem tyD_t {l : List D} : tyD (.tuple l) = some "tuple" := rfl
@[simp] theorem tyD_l {l : List D} : tyD (.list l) = some "list" := rfl
@[simp] theorem tyD_n : tyD .none = some "NoneType" := rfl
@[simp] theorem tyD_b {b : Bool} : tyD (.bool b) = some "bool" := rfl
@[simp] theorem kit1 : kitB "int" "int" = some true := by decide +kernel
@[simp] theorem kit2 : kitB "int" "bool" = some false := by decide +kernel
@[simp] theorem kit3 : kitB "tuple" "tuple" = some true := by decide +kernel
@[simp] theorem kit4 : kitB "tuple" "int" = some false := by decide +kernel
@[simp] theorem kit5 : kitB "int" "tuple" = some false := by decide +kernel
@[simp] theorem kit6 : kitB "tuple" "list" = some false := by decide +kernel
@[simp] theorem kit7 : kitB "int" "str" = some false := by decide +kernel
@[simp] theorem xIxO_eq {i : Nat} : xIxO i fb S = match S[i]? with
  | some (.own (.lst _)) => (fb S).bind fun p => match p.2[i]?, p.1 with
    | some (.own (.lst ds)), .int k => ((ixN ds.length k).bind fun j => ds[j]?).map fun z => (z, p.2)
    | _, _ => none
  | _ => none := rfl
@[simp] theorem gIx_ti {l : List D} {i : Int} : gIx (.tuple l) (.int i) = (ixN l.length i).bind fun j => l[j]? := rfl
@[simp] theorem gIx_li {l : List D} {i : Int} : gIx (.list l) (.int i) = (ixN l.length i).bind fun j => l[j]? := rfl
@[simp] theorem xLenO_eq {i : Nat} : xLenO i S = match S[i]? with | some (.own (.lst ds)) => some (.int (ds.length : Nat), S) | _ => none := rfl
@[simp] theorem oNo_eq : oNo S = some (none, S) := rfl
@[simp] theorem oSm_eq : oSm fe S = (fe S).bind fun p => match p.1 with | .int i => some (some i, p.2) | _ => none := rfl
@[simp] theorem xSl_eq {fl fh : DO} : xSl fa fl fh S = (fa S).bind fun p => (fl p.2).bind fun l => (fh l.2).bind fun h => match p.1 with
  | .tuple ds => some (.tuple (cutD ds l.1 h.1), h.2)
  | _ => none := rfl
@[simp] theorem sNx_eq : sNx S = some (.nx S) := rfl
@[simp] theorem sSeq_eq : sSeq f g S = (f S).bind fun r => match r with | .nx S' => g S' | r => some r := rfl
@[simp] theorem sExpr_eq : sExpr fe S = (fe S).map fun p => .nx p.2 := rfl
@[simp] theorem sRet_eq : sRet fe S = (fe S).map fun p => .rt p.1 p.2 := rfl
@[simp] theorem sIf_eq : sIf ya f g S = (ya S).bind fun p => if p.1 = true then f p.2 else g p.2 := rfl
@[simp] theorem setV_eq {i : Nat} {d : D} : setV i d S = if i < S.length then some (S.set i (.val d)) else none := rfl
@[simp] theorem setL_eq {i : Nat} {ds : List D} : setL i ds S = if i < S.length then some (S.set i (.own (.lst ds))) else none := rfl
@[simp] theorem sSet_eq {i : Nat} : sSet i fe S = (fe S).bind fun p => (setV i p.1 p.2).map .nx := rfl
@[simp] theorem sSetL_eq {i : Nat} : sSetL i fl S = (fl S).bind fun p => (setL i p.1 p.2).map .nx := rfl
@[simp] theorem sAsg_eq {st : D → SS → Option SS} : sAsg st fe S = (fe S).bind fun p => (st p.1 p.2).map .nx := rfl
@[simp] theorem setV2_eq {i j : Nat} {x y : D} : setV2 i j (.tuple [x, y]) S = (setV i x S).bind (setV j y) := rfl
@[simp] theorem sPar_eq {i j : Nat} : sPar i j fr S = (fr S).bind fun p => match p.1 with
  | [d, e] => (setV i d p.2).bind fun S1 => (setV j e S1).map .nx
  | _ => none := rfl
@[simp] theorem sParL_eq {i j : Nat} : sParL i j fl fe S = (fl S).bind fun p => (fe p.2).bind fun q => (setL i p.1 q.2).bind fun S1 => (setV j q.1 S1).map .nx := rfl
@[simp] theorem sApp_eq {i : Nat} : sApp i fe S = match S[i]? with
  | some (.own (.lst _)) => (fe S).bind fun p => match p.2[i]? with
    | some (.own (.lst ds)) => if ds.length < 100000 then some (.nx (p.2.set i (.own (.lst (ds ++ [p.1]))))) else none
    | _ => none
  | _ => none := rfl
@[simp] theorem sSetI_eq {i : Nat} {fk : DX} : sSetI i fk fe S = (fe S).bind fun p => match p.2[i]? with
  | some (.own (.lst _)) => (fk p.2).bind fun q => match q.2[i]?, q.1 with
    | some (.own (.lst ds)), .int k => (ixN ds.length k).map fun j => .nx (q.2.set i (.own (.lst (ds.set j p.1))))
    | _, _ => none
  | _ => none := rfl
@[simp] theorem xFn_eq {f : FD} : xFn f fr S = (fr S).bind fun p => (f (p.1.map .val)).map fun q => (q.1, p.2) := rfl
@[simp] theorem xFnO_eq {f : FD} {i : Nat} : xFnO f i fr S = match S[i]? with
  | some (.own _) => (fr S).bind fun p => match p.2[i]? with
    | some (.own c) => (f (.own c :: p.1.map .val)).bind fun q => match q.2[(0 : Nat)]? with
      | some (.own c') => some (q.1, p.2.set i (.own c'))
      | _ => none
    | _ => none
  | _ => none := rfl
@[simp] theorem fnF_eq {m : Nat} {sx : SX} {as : SS} : fnF m sx as = (sx (as ++ List.replicate m .no)).bind fun r => match r with
  | .rt d S' => some (d, outsOf as S')
  | .nx S' => some (.none, outsOf as S')
  | _ => none := rfl
@[simp] theorem xAll_eq {is : List Nat} {pb : List Int → Int → Bool} : xAll is pb fe S = (fe S).bind fun p => match p.1 with
  | .tuple ds => (intsOf ds).bind fun ns => (slotInts p.2 is).map fun zs => (.bool (ns.all (pb zs)), p.2)
  | _ => none := rfl
@[simp] theorem intsOf_map (ns : List Int) : intsOf (ns.map PyData.int) = some ns := by
  induction ns with
  | nil => rfl
  | cons x r ih => simp [intsOf, ih]
@[simp] theorem iSeq_eq : iSeq fe S = (fe S).bind fun p => match p.1 with | .tuple ds => some (ds, p.2) | _ => none := rfl
@[simp] theorem iLst_eq : iLst fe S = (fe S).bind fun p => match p.1 with | .list ds => some (ds, p.2) | _ => none := rfl
@[simp] theorem iR1_eq : iR1 fr S = (fr S).bind fun p => match p.1 with
  | [.int j] => if -(2 ^ 62) ≤ j ∧ j < 2 ^ 62 then some (rangeD 0 j.toNat, p.2) else none
  | _ => none := rfl
@[simp] theorem iR2_eq : iR2 fr S = (fr S).bind fun p => match p.1 with
  | [.int i, .int j] => if -(2 ^ 62) ≤ i ∧ i < 2 ^ 62 ∧ -(2 ^ 62) ≤ j ∧ j < 2 ^ 62 then some (rangeD i (j - i).toNat, p.2) else none
  | _ => none := rfl
@[simp] theorem sFor_eq {fs : DA} {st : D → SS → Option SS} {body : SX} : sFor fs st body S = (fs S).bind fun p => runFor st body p.1 p.2 := rfl
@[simp] theorem runFor_nil {st : D → SS → Option SS} {body : SX} : runFor st body [] S = some (.nx S) := rfl
@[simp] theorem yLc_eq {fs : DA} {st : D → SS → Option SS} {tt : DT} {te : DX} {vs : List Nat} : yLc fs st tt te vs S = (fs S).bind fun p => (runLc st tt te vs p.1 [] (wipeS p.2 vs)).map fun q => (q.1, restS p.2 q.2 vs) := rfl
@[simp] theorem runLc_nil {st : D → SS → Option SS} {tt : DT} {te : DX} {vs : List Nat} {acc : List D} : runLc st tt te vs [] acc S = some (acc, S) := rfl
@[simp] theorem yesT_eq : yesT S = some (true, S) := rfl
@[simp] theorem xTupR_eq : xTupR fa fb S = (fa S).bind fun p => (fb p.2).bind fun q => (match p.1, q.1 with
  | .int i, .int j => if RgOk i j then some (PyData.tuple (rangeD i (j - i).toNat)) else none
  | _, _ => none).map fun z => (z, q.2) := rfl
@[simp] theorem slotInts_nil : slotInts S [] = some [] := rfl
theorem slotInts_cons {i : Nat} {r : List Nat} : slotInts S (i :: r) = match S[i]? with | some (.val (.int z)) => (slotInts S r).map (z :: ·) | _ => none := rfl
@[simp] theorem outs_nil {S : SS} : outsOf [] S = [] := by cases S <;> rfl
@[simp] theorem outs_oo {c c' : Cell} {as S : SS} : outsOf (.own c :: as) (.own c' :: S) = .own c' :: outsOf as S := rfl
@[simp] theorem outs_v {d : D} {s : Slot} {as S : SS} : outsOf (.val d :: as) (s :: S) = .no :: outsOf as S := by cases s <;> rfl
end
/-- a tuple of ints -/
abbrev tI (l : List Int) : D := .tuple (l.map PyData.int)
theorem ixN_in {n : Nat} {k : Int} (h0 : 0 ≤ k) (h1 : k < n) : ixN n k = some k.toNat := by
  unfold ixN
  rw [if_pos h0, if_pos h1]
theorem ixN_neg {n : Nat} {k : Int} (h0 : k < 0) (h1 : -(n : Int) ≤ k) : ixN n k = some (k + n).toNat := by
  unfold ixN
  rw [if_neg (by omega), if_pos h1]
theorem sIx_in (n d : Nat) {k : Int} (h0 : 0 ≤ k) : HT.sIx n d (some k) = min k.toNat n := by
  show (if k < 0 then (k + (n : Int)).toNat else min k.toNat n) = min k.toNat n
  rw [if_neg (by omega)]
theorem cutD_lo {ds : List D} {k : Int} (h0 : 0 ≤ k) : cutD ds none (some k) = ds.take k.toNat := by
  unfold cutD
  rw [HT.sIx_none, sIx_in _ _ h0, List.drop_zero, Nat.sub_zero, List.take_eq_take_iff]
  omega
theorem cutD_hi {ds : List D} {k : Int} (h0 : 0 ≤ k) : cutD ds (some k) none = ds.drop k.toNat := by
  unfold cutD
  rw [HT.sIx_none, sIx_in _ _ h0]
  by_cases h : k.toNat ≤ ds.length
  · rw [Nat.min_eq_left h]
    exact List.take_of_length_le (by rw [List.length_drop]; omega)
  · rw [Nat.min_eq_right (by omega), List.drop_of_length_le (Nat.le_refl _), List.drop_of_length_le (by omega)]
    simp
theorem set_split {α : Type} : ∀ (r : List α) (i : Nat) (x : α), i < r.length → r.take i ++ x :: r.drop (i + 1) = r.set i x
  | [], _, _, h => by simp at h
  | a :: r, 0, x, _ => rfl
  | a :: r, i + 1, x, h => by
    simp only [List.take_succ_cons, List.cons_append, List.drop_succ_cons, List.set_cons_succ]
    rw [set_split r i x (by simpa using h)]
theorem rangeD_map (lo : Int) (n : Nat) : rangeD lo n = ((List.range n).map fun k => lo + (k : Nat)).map PyData.int := by
  unfold rangeD; rw [List.map_map]; rfl
end BC
set_option Elab.async false
set_option linter.all false
set_option maxRecDepth 100000
set_option maxHeartbeats 2000000
namespace BC
open PySem PySem.Spec PyProof.Rows L2 GxR
/-! the simp rules of the readings that came after DLm (k36 has its own copies of the first three, in k36_B6) -/
section
variable {S : SS} {fa fb fe : DX} {fr : DA} {y : DT} {f : SX} {pb : Int → Int → Bool}
@[simp] theorem xIsiT_eq {T1 T2 : String} : xIsiT T1 T2 fe S = (fe S).bind fun p => (tyD p.1).bind fun t => (kitB t T1).bind fun b => if b = true then some (.bool true, p.2) else (kitB t T2).map fun b2 => (.bool b2, p.2) := rfl
@[simp] theorem iEn2_eq : iEn2 fr S = (fr S).bind fun p => match p.1 with
  | [.tuple ds, .int k0] => if -(2 ^ 62) ≤ k0 ∧ k0 < 2 ^ 62 then some (enumD k0 ds, p.2) else none
  | _ => none := rfl
@[simp] theorem iZip_eq : iZip fr S = (fr S).bind fun p => match p.1 with
  | [.tuple ds, .tuple es] => some (zipD ds es, p.2)
  | _ => none := rfl
@[simp] theorem xAllE_eq : xAllE pb fr S = (fr S).bind fun p => match p.1 with
  | [.tuple ds, .int k0] => if -(2 ^ 62) ≤ k0 ∧ k0 < 2 ^ 62 then (intsOf ds).map fun ns => (.bool ((numI k0 ns).all fun q => pb q.1 q.2), p.2) else none
  | _ => none := rfl
@[simp] theorem sPar3_eq {i j l : Nat} : sPar3 i j l fr S = (fr S).bind fun p => match p.1 with
  | [d1, d2, d3] => (setV l d3 p.2).bind fun S1 => (setV j d2 S1).bind fun S2 => (setV i d1 S2).map .nx
  | _ => none := rfl
theorem runWhile_succ {n : Nat} : runWhile y f (n + 1) S = (y S).bind fun p => if p.1 = true then (f p.2).bind fun r => match r with
      | .nx S' => runWhile y f n S'
      | .ct S' => runWhile y f n S'
      | .bk S' => some (.nx S')
      | .rt d S' => some (.rt d S')
    else some (.nx p.2) := rfl
end
end BC
set_option Elab.async false
set_option linter.all false
set_option maxRecDepth 100000
set_option maxHeartbeats 2000000
namespace BC
open PySem PySem.Spec PyProof.Rows L2 GxR
theorem tab_conv {base : Heap} {mg : Str → Option Value} {c P : Addr} (h : LamX.TabB base mg c P) : GxR.TabB base mg c P := ⟨h.1, h.2, h.3⟩
end BC
set_option Elab.async false
set_option linter.all false
set_option maxRecDepth 100000
set_option maxHeartbeats 2000000
namespace BC
open PySem PySem.Spec PyProof.Rows L2 GxR
/-! ### t[::-1] of a tuple -/
section
variable {prog : Program} {w : World} {Ar : Around} {Er : Value → Shared → Prop} {st : Shared}
theorem turn_places (k : Nat) : Builtin.Slice.slicePlaces ((k : Int) - 1) (-1) (-1) = k := by
  unfold Builtin.Slice.slicePlaces
  rw [if_neg (by decide)]
  split
  · have e : ((k : Int) - 1 - -1 - 1) / (- -1) = (k : Int) - 1 := by
      rw [Int.neg_neg, Int.ediv_one]; omega
    rw [e]; omega
  · omega
theorem turn_applied {b : Addr} {c : Value} {k : Nat} {G : Int × Int × Nat → Shared → Prop} (hb : st.heap.IsSliceOf b .none .none c) (pc : IsPart c (some (-1))) (g : G ((k : Int) - 1, -1, k) st) :
    wpAny (model prog w) Ar (Builtin.Slice.sliceApplied (.ref b) (pure (k : Int))) G Er st := by
  obtain ⟨ob, at1, _, dat⟩ := id hb
  unfold Builtin.Slice.sliceApplied; unfold Builtin.Slice.sliceFields
  refine wpAny_bind (wpAny_bind (wpAny_field at1 dat (x := .none) rfl (wpAny_bind (wpAny_field at1 dat (x := .none) rfl (wpAny_bind (wpAny_field at1 dat (x := c) rfl (wpAny_pure ?_)))))))
  refine wpAny_bind (HT.slicePart_ pc ?_)
  show wpAny _ _ (if ((-1 : Int) == 0) = true then _ else _) _ _ st
  rw [if_neg (show ¬ (((-1 : Int) == 0) = true) by decide)]
  refine wpAny_bind (HT.slicePart_ .none (wpAny_bind (HT.slicePart_ .none (wpAny_bind (wpAny_pure ?_)))))
  show wpAny _ _ (pure (((k : Int) - 1), (-1 : Int), Builtin.Slice.slicePlaces ((k : Int) - 1) (-1) (-1))) _ _ st
  rw [turn_places]
  exact wpAny_pure g
theorem fm_congr {α β : Type} {f g : α → Option β} : ∀ {l : List α}, (∀ m ∈ l, f m = g m) → l.filterMap f = l.filterMap g
  | [], _ => rfl
  | x :: l, h => by
    rw [List.filterMap_cons, List.filterMap_cons, h x List.mem_cons_self, fm_congr fun m hm => h m (List.mem_cons_of_mem _ hm)]
theorem turn_pick (xs : Array Value) : ((List.range xs.size).filterMap fun (m : Nat) => xs[((xs.size : Int) - 1 + (m : Int) * -1).toNat]?) = xs.toList.reverse := by
  have e : ∀ m ∈ List.range xs.size, xs[((xs.size : Int) - 1 + (m : Int) * -1).toNat]? = xs.toList.reverse[m]? := fun m hm => by
    have hm' := List.mem_range.mp hm
    have z : ((xs.size : Int) - 1 + (m : Int) * -1).toNat = xs.size - 1 - m := by omega
    rw [z, List.getElem?_reverse (by rw [Array.length_toList]; exact hm'), Array.length_toList, Array.getElem?_toList]
  rw [fm_congr e]
  have l : xs.size = xs.toList.reverse.length := by simp
  rw [l]
  generalize xs.toList.reverse = ys
  clear e l
  induction ys with
  | nil => rfl
  | cons y r ih =>
    rw [List.length_cons, List.range_succ_eq_map, List.filterMap_cons]
    simp only [List.getElem?_cons_zero, List.filterMap_map]
    refine congrArg (y :: ·) ?_
    exact ih
theorem turn_item {t b : Addr} {xs : Array Value} {c : Value} {G : Value → Shared → Prop} (tt : IsTup st.heap t xs) (hb : st.heap.IsSliceOf b .none .none c) (pc : IsPart c (some (-1))) (fit : xs.size ≤ sizeLine)
    (g : G (.ref st.heap.objs.size) { st with heap := st.heap.push { cls := .type "tuple", data := .seq xs.toList.reverse.toArray } }) : wpAny (model prog w) Ar (getItem (.ref t) (.ref b)) G Er st := by
  have room : sizeOk (.seq xs.toList.reverse.toArray) := by
    show xs.toList.reverse.toArray.size ≤ sizeLine
    simpa using fit
  obtain ⟨ob, at1, cl, dat⟩ := id hb
  have isS : st.TypeIs (.ref b) "slice" := ⟨ob, at1, cl⟩
  have isT := tt.typeIs
  unfold getItem
  try with_reducible refine wpAny_holding ?_
  first
    | refine wpAny_bind (wpAny_pure ?_)
    | skip
  refine wpAny_bind (wpAny_sequenceKey isT (by decide) (wpAny_bind (wpAny_callSpecial?_slot (name := Str.ofString "__getitem__") isT slot_tuple_getitem (wpAny_call_entry slot_tuple_getitem isT entry_tuple_getitem ?_ (args_tuple_getitem _ _)))))
  show wpAny _ _ (Builtin.Tuple.tupleItemsOf (.ref t) >>= _) _ _ st
  refine wpAny_bind (tupleItemsOf_ tt (wpAny_bind (wpAny_typeOf isS ?_)))
  rw [if_pos (show _ = _ by decide)]
  refine wpAny_bind (turn_applied hb pc ?_)
  have other : ¬ ((((xs.size : Int) - 1) == 0 && (-1 : Int) == 1 && xs.size == xs.size) = true) := by simp
  show wpAny _ _ (if ((((xs.size : Int) - 1) == 0 && (-1 : Int) == 1 && xs.size == xs.size) = true) then _ else _) _ _ st
  rw [if_neg other]
  have tp := turn_pick xs
  rw [tp]
  first
    | exact wpAny_bind (m := Builtin.Tuple.tupleExact _) (wpAny_newObj_type (wpAny_pure ⟨_, rfl, wpAny_pure g⟩) room)
    | exact wpAny_bind (m := Builtin.Tuple.tupleExact _) (wpAny_newObj_type (wpAny_bind (wpAny_pure (wpAny_pure ⟨_, rfl, wpAny_pure g⟩))) room)
    | exact wpAny_bind (wpAny_bind (m := Builtin.Tuple.tupleExact _) (wpAny_newObj_type (wpAny_pure (wpAny_pure ⟨_, rfl, wpAny_pure g⟩)) room))
    | exact wpAny_bind (wpAny_bind (m := Builtin.Tuple.tupleExact _) (wpAny_newObj_type (wpAny_pure ⟨_, rfl, wpAny_pure g⟩) room))
end
section
variable {X : Cx} {E : En} {a : Expr} {fa : DX} {pos : Pos}
def tTurn (K : PySem.W.Frag) (te : TE) : TE := fun σ H Q => te σ H fun x H1 => ∃ p xs, x = .ref p ∧ SqT K H1 p xs ∧ ∀ q, H1 q = none → Q (.ref q) (upd H1 q (.tup xs.reverse))
theorem pe_turn {te : TE} {k : Nat} {p1 p2 p3 : Pos} (he : PE X a te) : PE X (.Subscript a (.Slice none none (some (.UnaryOp .USub (.Constant (.int 1) k p1) p2)) p3) pos) (tTurn X.K te) := by
  constructor
  intro pins s0 σ H0 Q I0 h0
  apply Subscript_
  refine thn (he.run pins s0 σ H0 _ I0 h0) fun v s1 ⟨x, H1, I1, r1, p, xs, ex, hx, q⟩ => ?_
  subst ex
  cases r1
  have step : PO X (some (.UnaryOp .USub (.Constant (.int 1) k p1) p2)) (tPart (tUn (rU fun i => .int (-i)) (tC (.int 1)))) := po_some (pe_un un_neg pe_int)
  apply wpAny_Slice
  rw [evalPart_none]
  refine wpAny_pure (wpAny_pure ?_)
  refine thn (step.run pins s1 σ H1 (fun o G => o = some (-1) ∧ G = H1) I1 ⟨1, rfl, -1, rfl, rfl, rfl⟩) fun vs s4 ⟨o, H4, I4, ps, eo, e4⟩ => ?_
  subst eo e4
  have I5 : Inv X pins σ H4 { s4 with heap := s4.heap.push { cls := .type "slice", data := .fields #[.none, .none, vs] } } := I4.kept (t' := s4.toks) fun b ob z => Heap.get?_push_of_some _ z
  obtain ⟨its, r, tt, fit⟩ := I5.tuple hx
  have ln := r.length
  show wpAny _ _ (subscriptTail a (.Slice none none (some (.UnaryOp .USub (.Constant (.int 1) k p1) p2)) p3) (.ref p) (.ref s4.heap.objs.size)) _ _ _
  apply tail_any (ops := [.ref p, .ref s4.heap.objs.size]) tt.typeIs slot_tuple_getitem.lookup ?_ (by with_unfolding_all rfl)
  refine turn_item tt (Heap.IsSliceOf.new _ .none .none vs) ps (by simpa [← ln] using fit) ?_
  exact ⟨.ref _, _, I5.laid (t' := s4.toks) (o := .tup xs.reverse) (fun b ob z => Heap.get?_push_of_some _ z) (Nat.le_refl _) ⟨by simpa using fit, _, r.reverse, IsTup.new _ _⟩, rfl, q _ (I5.hok.fresh (Nat.le_refl _))⟩
/-- t[::-1] -/
def gTurn : D → Option D
  | .tuple ds => some (.tuple ds.reverse)
  | _ => none
theorem dpAll_rev {K : PySem.W.Frag} {B : Hp} : ∀ {vs : List V} {ds : List D}, DpAll K B vs ds → DpAll K B vs.reverse ds.reverse
  | _, _, .nil => .nil
  | _, _, .cons h r => by
    rw [List.reverse_cons, List.reverse_cons]
    exact dpAll_app (dpAll_rev r) (.cons h .nil)
theorem d_turn {k : Nat} {p1 p2 p3 : Pos} (hK : X.K = E.K) (ha : PE X a (up E fa)) : PE X (.Subscript a (.Slice none none (some (.UnaryOp .USub (.Constant (.int 1) k p1) p2)) p3) pos) (up E (x1 gTurn fa)) :=
  PE.imp (pe_turn ha) fun σ H Q ⟨B, S, d, S', R, e, kk⟩ => by
    unfold x1 at e
    simp only [Option.bind_eq_some_iff, Option.map_eq_some_iff] at e
    obtain ⟨⟨d1, S1⟩, e1, z, e2, e3⟩ := e
    cases e3
    cases d1 <;> (try (simp [gTurn] at e2; done))
    rename_i ds
    cases e2
    refine ⟨B, S, _, S1, R, e1, fun x B1 H1 s1 R1 dx => ?_⟩
    cases dx with
    | @tup a0 vs _ h r =>
      refine ⟨a0, vs, rfl, by rw [hK]; exact same_seqT R1.sub h, fun q hq => ?_⟩
      obtain ⟨s2, R2, d2⟩ := new_tup R1 hq (dpAll_rev r)
      exact kk _ _ _ (s1.trans s2) R2 d2
@[simp] theorem gTurn_t {ds : List D} : gTurn (.tuple ds) = some (.tuple ds.reverse) := rfl
end
end BC
set_option Elab.async false
set_option linter.all false
set_option maxRecDepth 100000
set_option maxHeartbeats 2000000
namespace BC
open PySem PySem.Spec PyProof.Rows L2 GxR
section
variable {X : Cx} {E : En}
/-- divmod(i, j), j positive and below 2 ** 30 -/
def gDivmod : List D → Option D
  | [.int i, .int j] => if 0 < j ∧ j < 1073741824 then some (.tuple [.int (i / j), .int (i % j)]) else none
  | _ => none
@[simp] theorem gDivmod_ii {i j : Int} : gDivmod [.int i, .int j] = if 0 < j ∧ j < 1073741824 then some (.tuple [.int (i / j), .int (i % j)]) else none := rfl
theorem c_divmod : CallD X E (.builtin "divmod") gDivmod := by
  intro σ S B H xs ds z Q R dv hz k
  unfold gDivmod at hz
  split at hz
  · split at hz
    · rename_i hj
      cases hz
      obtain ⟨v, w, rfl, dx, dy⟩ := dpAll2 dv
      cases dx
      cases dy
      refine ⟨_, call_divmod, _, _, rfl, hj, fun p hp => ?_⟩
      obtain ⟨s2, R2, d2⟩ := new_tup R hp (DpAll.cons (Dp.int _) (DpAll.cons (Dp.int _) DpAll.nil))
      exact k _ _ _ s2 R2 d2
    · cases hz
  · cases hz
end
end BC
set_option Elab.async false
set_option linter.all false
set_option maxRecDepth 100000
set_option maxHeartbeats 2000000
namespace BC
open PySem PySem.Spec PyProof.Rows L2 GxR
section
variable {X : Cx} {E : En}
/-- an int in a tuple or list of ints -/
def gIn : D → D → Option D
  | .int i, .tuple ds => (intsOf ds).map fun ns => .bool (ns.any fun n => n == i)
  | .int i, .list ds => (intsOf ds).map fun ns => .bool (ns.any fun n => n == i)
  | _, _ => none
def gNotIn : D → D → Option D
  | .int i, .tuple ds => (intsOf ds).map fun ns => .bool (!ns.any fun n => n == i)
  | .int i, .list ds => (intsOf ds).map fun ns => .bool (!ns.any fun n => n == i)
  | _, _ => none
@[simp] theorem gIn_t {i : Int} {ds : List D} : gIn (.int i) (.tuple ds) = (intsOf ds).map fun ns => .bool (ns.any fun n => n == i) := rfl
@[simp] theorem gIn_l {i : Int} {ds : List D} : gIn (.int i) (.list ds) = (intsOf ds).map fun ns => .bool (ns.any fun n => n == i) := rfl
@[simp] theorem gNotIn_t {i : Int} {ds : List D} : gNotIn (.int i) (.tuple ds) = (intsOf ds).map fun ns => .bool (!ns.any fun n => n == i) := rfl
@[simp] theorem gNotIn_l {i : Int} {ds : List D} : gNotIn (.int i) (.list ds) = (intsOf ds).map fun ns => .bool (!ns.any fun n => n == i) := rfl
theorem inV_ints (i : Int) : ∀ ns : List Int, inV (.int i) (ns.map V.int) = ns.any fun n => n == i
  | [] => rfl
  | n :: ns => by
    have ih := inV_ints i ns
    unfold inV at ih ⊢
    rw [List.map_cons, List.any_cons, List.any_cons, ih]
    rfl
theorem flat_ints : ∀ ns : List Int, (ns.map V.int).all flatV = true
  | [] => rfl
  | n :: ns => by rw [List.map_cons, List.all_cons, flat_ints ns]; rfl
theorem o_in (hK : X.K = E.K) : OpD X E (compareOp .In) gIn := by
  intro σ S B H x y d e z Q R dx dy hz k
  unfold gIn at hz
  split at hz
  · simp only [Option.map_eq_some_iff] at hz
    obtain ⟨ns, h1, h2⟩ := hz
    cases h2
    cases dx
    cases dy with
    | @tup a vs _ h r =>
      have ev := intsOf_dp h1 r
      subst ev
      refine ⟨_, op_in_seq, a, _, rfl, .inr (by rw [hK]; exact same_seqT R.sub h), rfl, flat_ints ns, ?_⟩
      rw [inV_ints]
      exact k _ B H (Same.refl B) R (.bl _)
  · simp only [Option.map_eq_some_iff] at hz
    obtain ⟨ns, h1, h2⟩ := hz
    cases h2
    cases dx
    cases dy with
    | @lst a vs _ h r =>
      have ev := intsOf_dp h1 r
      subst ev
      refine ⟨_, op_in_seq, a, _, rfl, .inl (by rw [hK]; exact R.sub.seq h), rfl, flat_ints ns, ?_⟩
      rw [inV_ints]
      exact k _ B H (Same.refl B) R (.bl _)
  · cases hz
theorem o_notIn (hK : X.K = E.K) : OpD X E (compareOp .NotIn) gNotIn := by
  intro σ S B H x y d e z Q R dx dy hz k
  unfold gNotIn at hz
  split at hz
  · simp only [Option.map_eq_some_iff] at hz
    obtain ⟨ns, h1, h2⟩ := hz
    cases h2
    cases dx
    cases dy with
    | @tup a vs _ h r =>
      have ev := intsOf_dp h1 r
      subst ev
      refine ⟨_, op_notIn_seq, a, _, rfl, .inr (by rw [hK]; exact same_seqT R.sub h), rfl, flat_ints ns, ?_⟩
      rw [inV_ints]
      exact k _ B H (Same.refl B) R (.bl _)
  · simp only [Option.map_eq_some_iff] at hz
    obtain ⟨ns, h1, h2⟩ := hz
    cases h2
    cases dx
    cases dy with
    | @lst a vs _ h r =>
      have ev := intsOf_dp h1 r
      subst ev
      refine ⟨_, op_notIn_seq, a, _, rfl, .inl (by rw [hK]; exact R.sub.seq h), rfl, flat_ints ns, ?_⟩
      rw [inV_ints]
      exact k _ B H (Same.refl B) R (.bl _)
  · cases hz
end
end BC
set_option Elab.async false
set_option linter.all false
set_option maxRecDepth 100000
set_option maxHeartbeats 2000000
namespace BC
open PySem PySem.Spec PyProof.Rows L2 GxR
/-! comprehensions over ints whose element changes nothing -/
theorem runLc_ints {i : Nat} {tt : DT} {te : DX} {p : Int → Bool} {g : Int → D} {S : SS} (hi : i < S.length) : ∀ (l : List Int) (acc : List D), acc.length + l.length ≤ 100000 →
    (∀ x ∈ l, tt (S.set i (.val (.int x))) = some (p x, S.set i (.val (.int x))) ∧ (p x = true → te (S.set i (.val (.int x))) = some (g x, S.set i (.val (.int x))))) →
    runLc (setV i) tt te [i] (l.map PyData.int) acc (S.set i .no) = some (acc ++ (l.filter p).map g, S.set i .no)
  | [], acc, _, _ => by simp
  | x :: l, acc, hl, h => by
    simp only [List.length_cons] at hl
    obtain ⟨h1, h2⟩ := h x List.mem_cons_self
    have e1 : setV i (.int x) (S.set i .no) = some (S.set i (.val (.int x))) := by
      rw [setV_eq, if_pos (by rw [List.length_set]; exact hi), List.set_set]
    have e2 : wipeS (S.set i (.val (.int x))) [i] = S.set i .no := by
      show (S.set i (.val (.int x))).set i .no = _
      rw [List.set_set]
    simp only [List.map_cons, runLc, e1, Option.bind_some, h1]
    by_cases c : p x = true
    · have fit : acc.length < 100000 := by omega
      rw [if_pos c, h2 c, Option.bind_some, if_pos fit, e2, runLc_ints hi l (acc ++ [g x]) (by simp; omega) fun y hy => h y (List.mem_cons_of_mem _ hy)]
      rw [List.filter_cons_of_pos c, List.map_cons, List.append_assoc]
      rfl
    · rw [if_neg c, e2, runLc_ints hi l acc (by omega) fun y hy => h y (List.mem_cons_of_mem _ hy)]
      rw [List.filter_cons_of_neg c]
theorem yLc_ints {i : Nat} {fs : DA} {tt : DT} {te : DX} {p : Int → Bool} {g : Int → D} {S : SS} {l : List Int} (hf : fs S = some (l.map PyData.int, S)) (hi : i < S.length) (hS : S.set i (valOf S[i]?) = S) (hl : l.length ≤ 100000)
    (h : ∀ x ∈ l, tt (S.set i (.val (.int x))) = some (p x, S.set i (.val (.int x))) ∧ (p x = true → te (S.set i (.val (.int x))) = some (g x, S.set i (.val (.int x))))) :
    yLc fs (setV i) tt te [i] S = some ((l.filter p).map g, S) := by
  have e := runLc_ints hi l [] (by simpa using hl) h
  rw [yLc_eq, hf, Option.bind_some]
  have w : wipeS S [i] = S.set i .no := rfl
  show (runLc (setV i) tt te [i] (l.map PyData.int) [] (wipeS S [i])).map _ = _
  rw [w, e, Option.map_some]
  have r : restS S (S.set i .no) [i] = S := by
    show (S.set i .no).set i (valOf S[i]?) = S
    rw [List.set_set, hS]
  simp only [r, List.nil_append]
/-- without a test -/
theorem yLc_map {i : Nat} {fs : DA} {te : DX} {g : Int → D} {S : SS} {l : List Int} (hf : fs S = some (l.map PyData.int, S)) (hi : i < S.length) (hS : S.set i (valOf S[i]?) = S) (hl : l.length ≤ 100000)
    (h : ∀ x ∈ l, te (S.set i (.val (.int x))) = some (g x, S.set i (.val (.int x)))) :
    yLc fs (setV i) yesT te [i] S = some (l.map g, S) := by
  have := yLc_ints (tt := yesT) (p := fun _ => true) hf hi hS hl fun x hx => ⟨yesT_eq, fun _ => h x hx⟩
  rw [this]
  congr 2
  rw [List.filter_eq_self.mpr (fun _ _ => rfl)]
end BC
set_option Elab.async false
set_option linter.all false
set_option maxRecDepth 100000
set_option maxHeartbeats 2000000
namespace BC
open PySem PySem.Spec PyProof.Rows L2 GxR
section
variable {X : Cx} {E : En}
/-- list + list -/
def gAddL : D → D → Option D
  | .list xs, .list ys => if xs.length + ys.length ≤ 100000 then some (.list (xs ++ ys)) else none
  | _, _ => none
@[simp] theorem gAddL_ll {xs ys : List D} : gAddL (.list xs) (.list ys) = if xs.length + ys.length ≤ 100000 then some (.list (xs ++ ys)) else none := rfl
def rJoinL (K : PySem.W.Frag) : R2 := fun x y H Q => ∃ a b xs ys, x = .ref a ∧ y = .ref b ∧ SqL K H a xs ∧ SqL K H b ys ∧ xs.length + ys.length ≤ sizeLine ∧ ∀ p, H p = none → Q (.ref p) (upd H p (.lst (xs ++ ys)))
theorem op_joinL : OpR X (binaryOp .Add) (rJoinL X.K) := by
  rintro pins s σ H x y v u Q I rx ry ⟨a, b, xs, ys, rfl, rfl, ha, hb, fit, q⟩
  cases rx; cases ry
  obtain ⟨js, r, pl, _⟩ := I.list ha
  obtain ⟨js2, r2, pl2, _⟩ := I.list hb
  obtain ⟨⟨c1, d1, t1, w1⟩, g1, k1, n1, m1⟩ := id pl.isList
  obtain ⟨⟨c2, d2, t2, w2⟩, g2, k2, n2, m2⟩ := id pl2.isList
  cases k1; cases k2; cases m1; cases m2
  have l1 := r.length
  have l2 := r2.length
  have works := list_addW a b js.toArray js2.toArray n1 n2 d1 d2 w1 w2 (by rw [List.size_toArray, List.size_toArray]; omega)
  refine concat_meets ⟨_, g1, rfl⟩ ⟨_, g2, rfl⟩ noFill_list_add seq_list_add F.slot_list_add F.entry_list_add (F.args_list_add_2 _ _) works ⟨g1, g2, ?_⟩
  have e : js.toArray ++ js2.toArray = (js ++ js2).toArray := by rw [List.append_toArray]
  rw [e]
  refine ⟨.ref _, _, I.lnew (t' := s.toks) (r.append r2) (by rw [List.length_append]; exact fit), rfl, q _ I.fresh⟩
theorem o_addL (hK : X.K = E.K) : OpD X E (binaryOp .Add) gAddL := by
  intro σ S B H x y d e z Q R dx dy hz k
  unfold gAddL at hz
  split at hz
  · split at hz
    · rename_i hl
      cases hz
      cases dx with
      | @lst a1 xs _ h1 r1 =>
        cases dy with
        | @lst a2 ys _ h2 r2 =>
          refine ⟨_, op_joinL, a1, a2, xs, ys, rfl, rfl, by rw [hK]; exact R.sub.seq h1, by rw [hK]; exact R.sub.seq h2, by rw [dpAll_len r1, dpAll_len r2]; exact line_le hl, fun p hp => ?_⟩
          obtain ⟨s1, R1, d1⟩ := new_lst R hp (dpAll_app r1 r2)
          exact k _ _ _ s1 R1 d1
    · cases hz
  · cases hz
/-- the least of some ints -/
def leastI : Int → List Int → Int
  | m, [] => m
  | m, n :: ns => leastI (if n < m then n else m) ns
theorem leastI_spec : ∀ (ns : List Int) (m : Int), leastI m ns ∈ m :: ns ∧ ∀ y ∈ m :: ns, leastI m ns ≤ y
  | [], m => ⟨List.mem_cons_self, fun y h => by rw [List.mem_singleton.mp h]; exact Int.le_refl _⟩
  | n :: ns, m => by
    obtain ⟨h1, h2⟩ := leastI_spec ns (if n < m then n else m)
    refine ⟨?_, fun y hy => ?_⟩
    · rcases List.mem_cons.mp h1 with z | z
      · show leastI _ ns ∈ _
        rw [z]
        split
        · exact List.mem_cons_of_mem _ List.mem_cons_self
        · exact List.mem_cons_self
      · exact List.mem_cons_of_mem _ (List.mem_cons_of_mem _ z)
    · have h3 := h2 _ List.mem_cons_self
      show leastI _ ns ≤ y
      rcases List.mem_cons.mp hy with z | z
      · rw [z]
        refine Int.le_trans h3 ?_
        split <;> omega
      · rcases List.mem_cons.mp z with z | z
        · rw [z]
          refine Int.le_trans h3 ?_
          split <;> omega
        · exact h2 y (List.mem_cons_of_mem _ z)
def gMinL : List D → Option D
  | [.list ds] => (intsOf ds).bind fun ns => match ns with
    | [] => none
    | m :: ns => some (.int (leastI m ns))
  | _ => none
@[simp] theorem gMinL_l {ds : List D} : gMinL [.list ds] = (intsOf ds).bind fun ns => match ns with
    | [] => none
    | m :: ns => some (.int (leastI m ns)) := rfl
theorem c_minL (hK : X.K = E.K) (hc : X.calm = true) : CallD X E (.builtin "min") gMinL := by
  intro σ S B H xs ds z Q R dv hz k
  unfold gMinL at hz
  split at hz
  · rename_i ds0
    simp only [Option.bind_eq_some_iff] at hz
    obtain ⟨ns, h1, h2⟩ := hz
    cases ns with
    | nil => cases h2
    | cons m ns =>
      cases h2
      obtain ⟨v, rfl, dx⟩ := dpAll1 dv
      cases dx with
      | @lst a vs _ h r =>
        have ev := intsOf_dp h1 r
        subst ev
        refine ⟨_, cr_min hc, a, m :: ns, rfl, by rw [hK]; exact R.sub.seq h, by simp, fun w h3 h4 => ?_⟩
        obtain ⟨h5, h6⟩ := leastI_spec ns m
        have e : w = leastI m ns := Int.le_antisymm (h4 _ h5) (h6 _ h3)
        rw [e]
        exact k _ B H (Same.refl B) R (.int _)
  · cases hz
/-- the sum of some ints -/
def gSum : List D → Option D
  | [.list ds] => (intsOf ds).map fun ns => .int ns.sum
  | _ => none
@[simp] theorem gSum_l {ds : List D} : gSum [.list ds] = (intsOf ds).map fun ns => .int ns.sum := rfl
theorem c_sum (hK : X.K = E.K) (hc : X.calm = true) : CallD X E (.builtin "sum") gSum := by
  intro σ S B H xs ds z Q R dv hz k
  unfold gSum at hz
  split at hz
  · rename_i ds0
    simp only [Option.map_eq_some_iff] at hz
    obtain ⟨ns, h1, h2⟩ := hz
    cases h2
    obtain ⟨v, rfl, dx⟩ := dpAll1 dv
    cases dx with
    | @lst a vs _ h r =>
      have ev := intsOf_dp h1 r
      subst ev
      exact ⟨_, cr_sum hc, a, ns, rfl, by rw [hK]; exact R.sub.seq h, k _ B H (Same.refl B) R (.int _)⟩
  · cases hz
end
end BC
set_option Elab.async false
set_option linter.all false
set_option maxRecDepth 100000
set_option maxHeartbeats 2000000
namespace BC
open PySem PySem.Spec PyProof.Rows L2 GxR
section
variable {X : Cx} {E : En} {a b e : Expr} {fa fe : DX} {pos : Pos}
/-! list(x), a new list -/
def gListOf : List D → Option D
  | [.tuple ds] => some (.list ds)
  | [.list ds] => some (.list ds)
  | _ => none
@[simp] theorem gListOf_t {ds : List D} : gListOf [.tuple ds] = some (.list ds) := rfl
@[simp] theorem gListOf_l {ds : List D} : gListOf [.list ds] = some (.list ds) := rfl
theorem c_listOf (hK : X.K = E.K) : CallD X E (.type "list") gListOf := by
  intro σ S B H xs ds z Q R dv hz k
  unfold gListOf at hz
  split at hz
  · cases hz
    obtain ⟨v, rfl, dx⟩ := dpAll1 dv
    cases dx with
    | tup h r => exact ⟨_, call_list_of, _, _, rfl, .inr (by rw [hK]; exact same_seqT R.sub h), fun p hp => by
        obtain ⟨s1, R1, d1⟩ := new_lst R hp r
        exact k _ _ _ s1 R1 d1⟩
  · cases hz
    obtain ⟨v, rfl, dx⟩ := dpAll1 dv
    cases dx with
    | lst h r => exact ⟨_, call_list_of, _, _, rfl, .inl (by rw [hK]; exact R.sub.seq h), fun p hp => by
        obtain ⟨s1, R1, d1⟩ := new_lst R hp r
        exact k _ _ _ s1 R1 d1⟩
  · cases hz
/-- the items of list(e), a list of one's own -/
def yListOf (fe : DX) : DA := fun S => (fe S).bind fun p => match p.1 with
  | .tuple ds => some (ds, p.2)
  | .list ds => some (ds, p.2)
  | _ => none
@[simp] theorem yListOf_eq {S : SS} : yListOf fe S = (fe S).bind fun p => match p.1 with
  | .tuple ds => some (ds, p.2)
  | .list ds => some (ds, p.2)
  | _ => none := rfl
theorem l_listOf {p : Pos} (hK : X.K = E.K) (hg : Gl X "list") (hm : X.mg "list" = none) (ha : PE X e (up E fe))
    (hs : starEach [e] X.env = (false, eval e X.env) :: starEach [] X.env := by rfl) (hpl : (backTo pos (starEach ([] : List Expr) X.env)).any (·.1) = false := by rfl) : PE X (.Call (.Name "list" p) [e] [] pos) (upL E (yListOf fe)) :=
  PE.imp (pe_callTy call_list_of hg hm (by decide +kernel) (d_cons ha d_nil hs) (by decide) (by decide) hs hpl) fun σ H Q ⟨B, S, d, S', R, e0, k⟩ => by
    unfold yListOf at e0
    simp only [Option.bind_eq_some_iff] at e0
    obtain ⟨⟨d1, S1⟩, e1, e2⟩ := e0
    have y : yCons fe yNil S = some ([d1], S1) := by rw [yCons_eq, e1]; rfl
    refine ⟨B, S, [d1], S1, R, y, fun vs B1 H1 s1 R1 dv => ?_⟩
    obtain ⟨v, rfl, dx⟩ := dpAll1 dv
    cases d1 <;> (try (simp at e2; done))
    · obtain ⟨rfl, rfl⟩ := e2
      cases dx with
      | lst h r => exact ⟨_, _, rfl, .inl (by rw [hK]; exact R1.sub.seq h), fun q hq => k q _ B1 _ s1 (R1.fresh hq ntLst) upd_same (R1.sub.free hq) (h0_of R1 hq) (own_ne R1 hq) r⟩
    · obtain ⟨rfl, rfl⟩ := e2
      cases dx with
      | tup h r => exact ⟨_, _, rfl, .inr (by rw [hK]; exact same_seqT R1.sub h), fun q hq => k q _ B1 _ s1 (R1.fresh hq ntLst) upd_same (R1.sub.free hq) (h0_of R1 hq) (own_ne R1 hq) r⟩
/-! x in a tuple of any shaped data -/
def gInT : D → D → Option D := fun d e => match e with
  | .tuple ds => if SeqAt.shaped d = true ∧ SeqAt.shaped (.tuple ds) = true then some (.bool (ds.any fun z => PyData.eqv z d)) else none
  | _ => none
@[simp] theorem gInT_t {d : D} {ds : List D} : gInT d (.tuple ds) = if SeqAt.shaped d = true ∧ SeqAt.shaped (.tuple ds) = true then some (.bool (ds.any fun z => PyData.eqv z d)) else none := rfl
def rInT (K : PySem.W.Frag) : R2 := fun x y H Q => ∃ d ds, Dp K H x d ∧ Dp K H y (.tuple ds) ∧ SeqAt.shaped d = true ∧ SeqAt.shaped (.tuple ds) = true ∧ Q (.bl (ds.any fun z => PyData.eqv z d)) H
theorem op_inTup (room : X.A.units + 65 < cLine) : OpR X (compareOp .In) (rInT X.K) := by
  rintro pins s σ H x y v u Q I rx ry ⟨d, ds, dx, dy, sx, sy, q⟩
  obtain ⟨as, reads1⟩ := dx.reads I rx
  obtain ⟨bs, reads2⟩ := dy.reads I ry
  have c1 := SeqAt.canLay_of_shaped sy
  have c2 := SeqAt.canLay_of_shaped sx
  exact SeqAt.in_tuple_reads reads2 reads1 c1 c2 (room_in_shaped sx room) ⟨.bl _, H, I, rfl, q⟩
theorem room65 {k : Nat} {A : Around} (r : Room k A) : A.units + 65 < cLine := by have := r.un; omega
theorem o_inT (hK : X.K = E.K) (room : X.A.units + 65 < cLine) : OpD X E (compareOp .In) gInT := by
  intro σ S B H x y d e z Q R dx dy hz k
  unfold gInT at hz
  split at hz
  · split at hz
    · rename_i h
      cases hz
      exact ⟨_, op_inTup room, d, _, by rw [hK]; exact dp_mono R.sub dx, by rw [hK]; exact dp_mono R.sub dy, h.1, h.2, k _ B H (Same.refl B) R (.bl _)⟩
    · cases hz
  · cases hz
/-! a, b = y, [] -/
def sParR (i j : Nat) (fe : DX) : SX := fun S => (fe S).bind fun q => (setV i q.1 q.2).bind fun S1 => (setL j [] S1).map .nx
@[simp] theorem sParR_eq {i j : Nat} {S : SS} : sParR i j fe S = (fe S).bind fun q => (setV i q.1 q.2).bind fun S1 => (setL j [] S1).map .nx := rfl
theorem s_parR {i j : Nat} {x y : Str} {px py pt : Pos} {lp kt k2 pt2} (hp : ∀ q ∈ E.pa, q.1 ≠ i) (hp2 : ∀ q ∈ E.pa, q.1 ≠ j) (hc : X.calm = true) (hN : X.N.Nodup) (hi : X.N[i]? = some x) (hj : X.N[j]? = some y) (hij : i ≠ j)
    (hx : X.env.scope.names.lookup x = some .local) (hy : X.env.scope.names.lookup y = some .local) (ha : PE X b (up E fe))
    (hw : swappedStores [.Tuple [.Name x px, .Name y py] kt pt] (.Tuple [b, .List [] lp] k2 pt2) X.env = pure (some [x, y]))
    (hs : swapsWithSole [.Tuple [.Name x px, .Name y py] kt pt] (.Tuple [b, .List [] lp] k2 pt2) pos.line X.env = pure false := by rfl)
    (hs1 : starEach [b, .List [] lp] X.env = (false, eval b X.env) :: starEach [.List [] lp] X.env := by rfl) (hs2 : starEach [.List [] lp] X.env = (false, eval (.List [] lp) X.env) :: starEach [] X.env := by rfl) :
    PS X (.Assign [.Tuple [.Name x px, .Name y py] kt pt] (.Tuple [b, .List [] lp] k2 pt2) pos) (upS E (sParR i j fe)) :=
  PS.imp (ps_par hc hN hi hj hij hx hy (pa_cons ha (pa_cons (pe_lst pa_nil) pa_nil hs2) hs1) hw hs) fun σ H D ⟨B, S, r, R, e, k⟩ => by
    unfold sParR setV setL at e
    simp only [Option.bind_eq_some_iff, Option.map_eq_some_iff] at e
    obtain ⟨⟨d, S1⟩, e1, S2, e2, S3, e3, e4⟩ := e
    split at e2
    · rename_i l1
      cases e2
      split at e3
      · rename_i l2
        cases e3
        cases e4
        refine ⟨B, S, d, S1, R, e1, fun v B1 H1 s1 R1 dv => ⟨Nat.zero_le _, fun p hpn => ?_⟩⟩
        have R2 := R1.set dv hp l1
        exact ⟨_, _, rfl, k _ B1 _ s1 ((R2.fresh hpn ntLst).setOwn (c := .lst []) (h0_of R2 hpn) (R2.sub.free hpn) upd_same ⟨[], rfl, .nil⟩ (own_ne R2 hpn) hp2 l2)⟩
      · cases e3
    · cases e2
end
end BC
set_option Elab.async false
set_option linter.all false
set_option maxRecDepth 100000
set_option maxHeartbeats 2000000
namespace BC
open PySem PySem.Spec PyProof.Rows L2 GxR
section
variable {X : Cx} {E : En} {b : Expr} {fe : DX} {pos : Pos}
/-- a, b = y, [] where one of the names is also read from inside -/
theorem s_parRc {i j : Nat} {tg : Expr} {lp : Pos} {k2 : Nat} {pt2 : Pos} (hK : X.K = E.K) (hp : ∀ q ∈ E.pa, q.1 ≠ i) (hp2 : ∀ q ∈ E.pa, q.1 ≠ j) (ha : PE X b (up E fe))
    (hg : PG X tg (gTup X.K 2 (gCons (gName i) (gCons (gName j) gNil))))
    (hs : swapsWithSole [tg] (.Tuple [b, .List [] lp] k2 pt2) pos.line X.env = pure false := by rfl) (hw : swappedStores [tg] (.Tuple [b, .List [] lp] k2 pt2) X.env = pure none := by rfl)
    (h1 : (assignEach [tg] X.env).map (·.2) = [assign tg X.env] := by rfl)
    (hs1 : starEach [b, .List [] lp] X.env = (false, eval b X.env) :: starEach [.List [] lp] X.env := by rfl) (hs2 : starEach [.List [] lp] X.env = (false, eval (.List [] lp) X.env) :: starEach [] X.env := by rfl) :
    PS X (.Assign [tg] (.Tuple [b, .List [] lp] k2 pt2) pos) (upS E (sParR i j fe)) :=
  PS.imp (ps_asg (pe_tup (pa_cons ha (pa_cons (pe_lst pa_nil) pa_nil hs2) hs1)) hg hs hw h1) fun σ H D ⟨B, S, r, R, e, k⟩ => by
    unfold sParR setV setL at e
    simp only [Option.bind_eq_some_iff, Option.map_eq_some_iff] at e
    obtain ⟨⟨d, S1⟩, e1, S2, e2, S3, e3, e4⟩ := e
    split at e2
    · rename_i l1
      cases e2
      split at e3
      · rename_i l2
        cases e3
        cases e4
        refine ⟨B, S, d, S1, R, e1, fun v B1 H1 s1 R1 dv => ⟨Nat.zero_le _, fun p hpn => ⟨(by decide : 2 ≤ sizeLine), fun q hqn => ?_⟩⟩⟩
        have R2 := R1.set dv hp l1
        have R4 := (R2.fresh hpn ntLst).setOwn (c := .lst []) (h0_of R2 hpn) (R2.sub.free hpn) upd_same ⟨[], rfl, .nil⟩ (own_ne R2 hpn) hp2 l2
        exact ⟨q, _, rfl, .inl (.inl upd_same), rfl, v, _, rfl, V.ref p, _, rfl, rfl, k _ B1 _ s1 (R4.fresh hqn ntTup)⟩
      · cases e3
    · cases e2
end
end BC
set_option Elab.async false
set_option linter.all false
set_option maxRecDepth 100000
set_option maxHeartbeats 2000000
namespace BC
open PySem PySem.Spec PyProof.Rows L2 GxR
/-! ### sums over what a generator expression gives -/
section
variable {X : Cx} {pins : List (Addr × Obj)} {σ : L2.St} {H1 : Hp} {s1 : Shared} {P c : Addr} {t0 : Array Value}
/-- a generator that stands ready: what it gives at each step, and its reach -/
def Ready2 (X : Cx) (pins : List (Addr × Obj)) (σ : L2.St) (H1 : Hp) (P : Addr) (n : Nat) (Gv : Nat → Value → Prop) (g : Addr) (s5 : Shared) : Prop :=
  ∃ (fp wr : List Addr) (Gs : Array GenState → Array GenState → Prop) (F : Nat → Value → Prop) (St : Nat → Shared → Prop),
    WalksS X.prog X.w X.A.in1 g fp wr Gs n F St ∧ St 0 s5 ∧ (∀ b ∈ fp, b < s5.heap.objs.size) ∧ (∀ j y, F j y → Gv j y) ∧
    ∀ s', Moved wr Gs s5 s' → ∃ H2, Tabbed P H1 H2 ∧ Inv X pins σ H2 s'
theorem ready2_of (I : Inv X pins σ H1 s1) (hP : H1 P = some (.tbl t0)) {h3 h5 : Heap} {tk : Nat} {gs : GenState} (kp : Kept P t0 s1 h3) (k5 : ∀ b o, h3.get? b = some o → h5.get? b = some o) (bare : gs.bare = true) {fp wr : List Addr} (fresh : ∀ b ∈ wr, s1.heap.objs.size ≤ b) (within : ∀ b ∈ fp, b < h5.objs.size)
    {g : Addr} {n N : Nat} {F : Nat → Value → Prop} {St : Nat → Shared → Prop} {Gv : Nat → Value → Prop} (W : WalksS X.prog X.w X.A.in1 g fp wr (GenOnlyQ N) n F St) (hF : ∀ j y, F j y → Gv j y)
    (st : St 0 { s1 with gens := s1.gens.push gs, toks := tk, heap := h5 }) : Ready2 X pins σ H1 P n Gv g { s1 with gens := s1.gens.push gs, toks := tk, heap := h5 } := by
  refine ⟨fp, wr, _, F, St, W, st, within, hF, fun s' mv => ?_⟩
  obtain ⟨more, tb, tri⟩ := kp.tab
  have out : ∀ b o, s1.heap.get? b = some o → b ∉ wr := fun b o e hb => Nat.lt_irrefl _ (Nat.lt_of_lt_of_le (Heap.lt_size e) (fresh b hb))
  have there : s1.heap.get? P = some { cls := .none, data := .fields t0 } := I.hok P _ hP
  have inv := inv_tab (more := more) (h' := s'.heap) (g' := s'.gens) (d' := s'.drawn) (t' := s'.toks) I hP (fun b o nb e => mv.heap b o (out b o e) (k5 b o (kp.all b o nb e))) (mv.heap P _ (out P _ there) (k5 P _ tb)) (AllBare.movedS (I.bare.push bare) mv)
  rw [sh_eta s1 s' mv.os] at inv
  exact ⟨_, ⟨⟨_, upd_same, tri⟩, fun _ nb => upd_ne nb⟩, inv⟩
end
section
variable {X : Cx} {pins : List (Addr × Obj)} {σ : L2.St} {H : Hp} {s : Shared}
theorem gen2V {c P : Addr} {elt iter : Expr} {xa xb : Str} {pxa pxb pt gpos : Pos} {kt : Nat} {scope : Scope} {k : Nat} {Q' : Value → Shared → Prop} {R : (n : Nat) → (Nat → Value → Prop) → Hp → Prop}
    (hr : Room (k + 3) X.A) (TB : TabB X.base X.mg c P) (hcode : X.env.code = .ref c) (S : GenS X.env scope xa) (hxb : scope.names.lookup xb = some .local) (hab : xa ≠ xb) (hs : ∀ v, genFold iter X.env v = pure v)
    (h : wpAny (model X.prog X.w) X.A (eval iter X.env) (fun xv s1' => wpAny (model X.prog X.w) X.A (pyIter xv) (fun it s2 => ∃ s1 H1 Ia fp wr n Pf St Mid Gv, it = .ref Ia ∧ Inv X pins σ H1 s1 ∧ TabG H1 P ∧ Src2 X P s1 s2 Ia fp wr n Pf St Mid ∧ R n Gv H1 ∧
      ∀ (cenv : Env) (A' : Around) (E' : Value → Shared → Prop) (i : Nat) (va vb : Value) (s' : Shared) (m : Str → Option Value), cenv.scope = scope → cenv.globals = mainGlobals → cenv.builtins = builtinsNs → Room k A' → Pf i #[va, vb] → s'.heap.Ns cenv.locals m → m xa = some va → m xb = some vb →
        (∀ b o, b ≠ P → b ∉ wr → s1.heap.get? b = some o → s'.heap.get? b = some o) → wpAny (model X.prog X.w) A' (eval elt cenv) (fun z s3 => Gv i z ∧ Keeps s' s3) E' s') X.xe s1') X.xe s)
    (hQ : ∀ n Gv H1 g s5, R n Gv H1 → Ready2 X pins σ H1 P n Gv g s5 → Q' (.ref g) s5) :
    wpAny (model X.prog X.w) X.A (eval (.GeneratorExp elt [⟨.Tuple [.Name xa pxa, .Name xb pxb] kt pt, iter, [], 0⟩] scope gpos) X.env) Q' X.xe s := by
  have dp := hr.dp
  have un := hr.un
  refine wpAny_GeneratorExp_walksQTD hr.hd S.co (closure_ok S.free) S.cell S.dot S.loc hxb hab S.kind (by omega) (thn h fun xv s0 q0 => thn q0 fun it s2 ⟨s1, H1, Ia, fp, wr, n, Pf, St0, Mid, Gv, e0, I1, ⟨t0, hP, ht⟩, Z, hR, hel⟩ => ?_) hs
  obtain ⟨⟨h2, tk2, rfl, k2, sz⟩, W, two, st, lt, new⟩ := Z
  have lim := I1.nolimit.keeps k2
  have off := statics_off I1 hP
  refine ⟨lim, code_of I1 hP ht TB hcode k2 fun code h3 tk kp ext le3 => blt_of I1 TB kp ?_⟩
  refine ⟨Ia, fp, wr, n, Pf, St0, Mid, fun _ => true, Gv, e0, W, two, (W X.A hr.hd).frame _ _ _ st fun b hb u e => ext b u (lt b hb).2 e, fun b hb => Nat.lt_of_lt_of_le (lt b hb).1 le3, lim.extBut ext off.1, fun z => absurd (Nat.lt_of_lt_of_le off.2 (new _ z)) (Nat.lt_irrefl _), fun href kr => ⟨fun A2 E2 i ya yb s2 m2 _ _ _ _ _ _ _ _ => ?_, fun A2 E2 i ya yb s2 m2 hA hD hU hy _ hn hma hmb hk => ?_⟩, fun g h5 tk5 gs bare lo hi5 k5 W5 at5 => hQ n Gv H1 g _ hR ?_⟩
  · rw [List.forIn_nil]
    exact wpAny_pure ⟨rfl, keeps_refl s2⟩
  · exact hel _ A2 E2 i ya yb s2 m2 rfl I1.ok.glob rfl ⟨hA, by omega, by omega⟩ hy hn hma hmb fun b o nb nw e => hk b (List.mem_range.mpr (Heap.lt_size (kp.all b o nb e))) nw o (kr b o (kp.all b o nb e))
  · rw [GxR.passing_true, List.length_range] at W5
    refine ready2_of I1 hP kp k5 bare (fun b hb => ?_) (fun b hb => ?_) W5.in4_1 (fun j y ⟨i, hij, hy⟩ => ?_) at5
    · rcases List.mem_cons.mp hb with rfl | hb
      · exact Nat.le_trans sz le3
      · exact new b hb
    · rw [hi5]
      rcases List.mem_cons.mp hb with rfl | hb
      · exact Nat.lt_succ_self _
      · rcases List.mem_cons.mp hb with rfl | hb
        · exact Nat.lt_succ_of_lt lo
        · exact Nat.lt_succ_of_lt (Nat.lt_trans (List.mem_range.mp hb) lo)
    · obtain ⟨_, rfl⟩ := List.getElem?_eq_some_iff.mp hij
      rw [List.getElem_range] at hy
      exact hy
/-- the value at a step -/
def atV {α : Type} (l : List α) (f : α → Int) (j : Nat) : Int := ((l[j]?).map f).getD 0
theorem preSum_at {α : Type} (l : List α) (f : α → Int) : ∀ j, j ≤ l.length → preSum (atV l f) j = ((l.take j).map f).sum
  | 0, _ => rfl
  | j + 1, h => by
    have hj : j < l.length := by omega
    show preSum (atV l f) j + atV l f j = _
    rw [preSum_at l f j (by omega), List.take_succ, List.map_append, List.sum_append]
    congr 1
    unfold atV
    rw [List.getElem?_eq_getElem hj]
    simp
theorem sum_bound : ∀ (l : List Int) {c : Int}, 0 ≤ c → (∀ x ∈ l, -c ≤ x ∧ x ≤ c) → -(c * l.length) ≤ l.sum ∧ l.sum ≤ c * l.length
  | [], c, hc, _ => by simp
  | x :: l, c, hc, h => by
    have ih := sum_bound l hc fun y hy => h y (List.mem_cons_of_mem _ hy)
    have hx := h x List.mem_cons_self
    have e : c * (((x :: l).length : Nat) : Int) = c * (l.length : Int) + c := by
      rw [List.length_cons]
      have : ((l.length + 1 : Nat) : Int) = (l.length : Int) + 1 := by omega
      rw [this, Int.mul_add, Int.mul_one]
    rw [List.sum_cons, e]
    omega
/-- sum(elt for x, y in enumerate(a, k0)) -/
def xSumE (f : Int → Int → Int) (fr : DA) : DX := fun S => (fr S).bind fun p => match p.1 with
  | [.tuple ds, .int k0] => if -(2 ^ 62) ≤ k0 ∧ k0 < 2 ^ 62 then (intsOf ds).bind fun ns => if ns.length ≤ 1000 ∧ (numI k0 ns).all (fun q => decide (-1000000 ≤ f q.1 q.2 ∧ f q.1 q.2 ≤ 1000000)) = true then some (.int ((numI k0 ns).map fun q => f q.1 q.2).sum, p.2) else none else none
  | _ => none
@[simp] theorem xSumE_eq {f : Int → Int → Int} {fr : DA} {S : SS} : xSumE f fr S = (fr S).bind fun p => match p.1 with
  | [.tuple ds, .int k0] => if -(2 ^ 62) ≤ k0 ∧ k0 < 2 ^ 62 then (intsOf ds).bind fun ns => if ns.length ≤ 1000 ∧ (numI k0 ns).all (fun q => decide (-1000000 ≤ f q.1 q.2 ∧ f q.1 q.2 ≤ 1000000)) = true then some (.int ((numI k0 ns).map fun q => f q.1 q.2).sum, p.2) else none else none
  | _ => none := rfl
theorem fits_long {l : List (Int × Int)} {f : Int × Int → Int} (hl : l.length ≤ 1000) (h : ∀ q ∈ l, -1000000 ≤ f q ∧ f q ≤ 1000000) : ∀ j, j < l.length → InLong (atV l f j) ∧ InLong (preSum (atV l f) (j + 1)) := by
  intro j hj
  have hx := h l[j] (List.getElem_mem hj)
  have e : atV l f j = f l[j] := by
    unfold atV
    rw [List.getElem?_eq_getElem hj]
    rfl
  have s := sum_bound ((l.take (j + 1)).map f) (c := 1000000) (by omega) (fun x hx => by
    obtain ⟨q, hq, rfl⟩ := List.mem_map.mp hx
    exact h q (List.mem_of_mem_take hq))
  rw [preSum_at l f (j + 1) (by omega), e]
  rw [List.length_map, List.length_take] at s
  have m : ((min (j + 1) l.length : Nat) : Int) ≤ 1000 := by omega
  unfold InLong
  have z : (2 : Int) ^ 63 = 9223372036854775808 := by decide
  rw [z]
  omega
theorem d_sumE {E : En} {c P : Addr} {elt e e2 : Expr} {xa xb : Str} {pxa pxb pt p pz pos gpos zpos : Pos} {kt : Nat} {scope : Scope} {fr : DA} {k : Nat} {f : Int → Int → Int} (hK : X.K = E.K) (hP : P ∈ E.T)
    (hr : Room (k + 3) X.A) (hg : Gl X "sum") (hm : X.mg "sum" = none) (hgz : Gl X "enumerate") (hmz : X.mg "enumerate" = none) (TB : TabB X.base X.mg c P) (hcode : X.env.code = .ref c) (S : GenS X.env scope xa) (hxb : scope.names.lookup xb = some .local) (hab : xa ≠ xb) (he : PA X [e, e2] (upA E fr))
    (hel : ∀ (cenv : Env) (i j : Int), cenv.scope = scope → QE X cenv [(xa, .int i), (xb, .int j)] k elt (.int (f i j)))
    (hs : ∀ v, genFold (.Call (.Name "enumerate" pz) [e, e2] [] zpos) X.env v = pure v := by intro _; rfl)
    (hsz : starEach [e, e2] X.env = (false, eval e X.env) :: starEach [e2] X.env := by rfl) (hplz : (backTo zpos (starEach [e2] X.env)).any (·.1) = false := by rfl)
    (hse : starEach [.GeneratorExp elt [⟨.Tuple [.Name xa pxa, .Name xb pxb] kt pt, .Call (.Name "enumerate" pz) [e, e2] [] zpos, [], 0⟩] scope gpos] X.env = (false, eval (.GeneratorExp elt [⟨.Tuple [.Name xa pxa, .Name xb pxb] kt pt, .Call (.Name "enumerate" pz) [e, e2] [] zpos, [], 0⟩] scope gpos) X.env) :: starEach [] X.env := by rfl) :
    PE X (.Call (.Name "sum" p) [.GeneratorExp elt [⟨.Tuple [.Name xa pxa, .Name xb pxb] kt pt, .Call (.Name "enumerate" pz) [e, e2] [] zpos, [], 0⟩] scope gpos] [] pos) (up E (xSumE f fr)) := by
  refine ⟨fun pins s σ H Q I ⟨B, S0, d, S', R, e0, kk⟩ => ?_⟩
  unfold xSumE at e0
  simp only [Option.bind_eq_some_iff] at e0
  obtain ⟨⟨ds0, S1⟩, e1, e2'⟩ := e0
  split at e2'
  case h_2 => cases e2'
  rename_i ds k0 hds
  simp only at hds
  subst hds
  split at e2'
  case isFalse => cases e2'
  rename_i hk0
  simp only [Option.bind_eq_some_iff] at e2'
  obtain ⟨ns, e3, e5⟩ := e2'
  split at e5
  case isFalse => cases e5
  rename_i small
  cases e5
  have smallN : ∀ q ∈ numI k0 ns, -1000000 ≤ f q.1 q.2 ∧ f q.1 q.2 ≤ 1000000 := fun q hq => by
    have := List.all_eq_true.mp small.2 q hq
    simpa using this
  refine wpAny_Call_Name_kw (ld_blt I hg hm (u := .builtin "sum") (by decide +kernel) ?_ (by decide) (by decide))
  refine PyProof.Rows.callWith_builtin1 ?_ hse (by rfl)
  rw [hse]
  show wpAny _ _ (spliced ((false, eval (.GeneratorExp elt [⟨.Tuple [.Name xa pxa, .Name xb pxb] kt pt, .Call (.Name "enumerate" pz) [e, e2] [] zpos, [], 0⟩] scope gpos) X.env) :: backTo pos (starEach [] X.env))) _ _ s
  refine Calls.spliced_cons (gen2V (pins := pins) (σ := σ) (R := fun n Gv H1 => n = (numI k0 ns).length ∧ Gv = (fun i z => ∃ t, z = .int (atV (numI k0 ns) (fun q => f q.1 q.2) i) t) ∧ ∃ B1, Same B B1 ∧ Rep E B1 H1 σ S') hr TB hcode S hxb hab hs ?_ fun n Gv H1 g s5 hR hG => ?_)
  · refine Call_ (ld_blt I hgz hmz boot_enumerate (PyProof.Rows.callWith_type1 (thn (he.run zpos pins s σ H _ I ⟨B, S0, _, S', R, e1, fun vs B1 H1 s1 R1 dv => (⟨B1, s1, R1, dv⟩ : ∃ B1, Same B B1 ∧ Rep E B1 H1 σ S' ∧ DpAll E.K B1 vs [.tuple ds, .int k0])⟩) fun us st ⟨vs, H1, I1, r1, B1, s1, R1, dv⟩ => ?_) hsz hplz))
    cases dv with
    | cons d1 dr =>
      cases dr with
      | cons d2 dr2 =>
        cases dr2
        cases d2
        cases d1 with
        | @tup a va _ ha ra =>
          cases r1 with
          | cons ru rr =>
            cases rr with
            | cons ru2 rr2 =>
              cases rr2
              cases ru
              obtain ⟨tk0, rfl⟩ := ru2
              have ev := intsOf_dp e3 ra
              obtain ⟨its, rv, pl, _⟩ := I1.tuple (xs := va) (a := a) (by rw [hK]; exact same_seqT R1.sub ha)
              obtain ⟨⟨ps, hps, ht⟩, _⟩ := R1.tabs P hP
              have hPs : st.heap.get? P = some { cls := .none, data := .fields ps } := I1.hok P _ hps
              have hPlt := Heap.lt_size hPs
              have haP : a ≠ P := fun z => by
                obtain ⟨o, ho, hc, _⟩ := pl
                rw [z, hPs] at ho
                cases ho
                cases hc
              have hal := pl.lt
              have hits : its.length = ns.length := by rw [← rv.length, ev, List.length_map]
              have pl' : st.heap.IsTuple a its.toArray := pl
              refine enum_begins (begins_tuple a its.toArray) pl' (Int.le_trans (by decide) hk0.1) (Int.lt_trans hk0.2 (by decide)) fun h' ienum hit hsz' hk => wpAny_pyIter_enum ienum ?_
              have hne : ∀ j : Nat, P ≠ st.heap.objs.size + j := fun j => Nat.ne_of_lt (Nat.lt_of_lt_of_le hPlt (Nat.le_add_right _ _))
              have fpb : ∀ q ∈ (st.heap.objs.size + 1) :: [st.heap.objs.size, a], q < h'.objs.size ∧ q ≠ P := fun q hq => by
                have e' : q = st.heap.objs.size + 1 ∨ q = st.heap.objs.size ∨ q = a := by simpa using hq
                rcases e' with z | z | z
                · exact ⟨by rw [z, hsz']; exact Nat.add_lt_add_left (by decide) _, fun w => hne 1 (w.symm.trans z)⟩
                · exact ⟨by rw [z, hsz']; exact Nat.lt_add_of_pos_right (by decide), fun w => hne 0 (w.symm.trans z)⟩
                · exact ⟨by rw [z, hsz']; exact Nat.lt_of_lt_of_le hal (Nat.le_add_right _ _), fun w => haP (z.symm.trans w)⟩
              have newb : ∀ q ∈ [st.heap.objs.size + 1, st.heap.objs.size], st.heap.objs.size ≤ q := fun q hq => by
                have e' : q = st.heap.objs.size + 1 ∨ q = st.heap.objs.size := by simpa using hq
                rcases e' with z | z
                · exact z ▸ Nat.le_add_right _ _
                · exact z ▸ Nat.le_refl _
              refine ⟨st, H1, st.heap.objs.size + 1, _, _, its.toArray.size, _, _, _, (fun i z => ∃ t, z = .int (atV (numI k0 ns) (fun q => f q.1 q.2) i) t), rfl, I1, (R1.tabs P hP).1, ⟨⟨h', st.toks, rfl, hk, by rw [hsz']; exact Nat.le_add_right _ _⟩, fun A' hA => (WalksT.enumFrom k0 (Draws.tuple (A := A'.in1) hA st.heap.objs.size a (Nat.ne_of_lt hal) its.toArray) (st.heap.objs.size + 1) (Nat.succ_ne_self _) (fun z => by rcases List.mem_cons.mp z with z | z; exact absurd z (Nat.succ_ne_self _); exact absurd (List.mem_singleton.mp z) (Nat.ne_of_gt (Nat.lt_succ_of_lt hal))) List.mem_cons_self).toU, fun i vals hp => ?_, ⟨⟨.none, by simpa using ienum⟩, ⟨_, hit, rfl, rfl⟩, pl'.at fun o q => hk _ o q⟩, fpb, newb⟩, ⟨by simp [hits, numI_len], rfl, B1, s1, R1⟩, ?_⟩
              · obtain ⟨x1, x2, _, ez⟩ := hp
                exact ⟨_, _, ez⟩
              · intro cenv A' E' i wa wb s' m hc hcg hcb hrA hy hn hma hmb hkk
                obtain ⟨x1, x2, g2, ez⟩ := hy
                obtain ⟨ez1, ez2⟩ : wa = .int (k0 + (i : Int)) x1 ∧ wb = x2 := by simpa using ez
                subst ez1 ez2
                obtain ⟨n2, q2, rn2⟩ := ints_get rv ev (i := i) (y := wb) (by simpa using g2)
                have big : ∀ b o, b ≠ P → st.heap.get? b = some o → s'.heap.get? b = some o := fun b o hb e => hkk b o hb (fun z => by
                  have hl := Heap.lt_size e
                  exact absurd (Nat.lt_of_lt_of_le hl (newb b z)) (Nat.lt_irrefl _)) e
                have hq := qc_two (X := X) S.kind S.loc hxb hc hcg hcb I1 (fun b o e => big b o (fun z => by
                  have := (I1.bs b o e).2
                  rw [z] at this
                  rw [this] at hps
                  cases hps) (I1.bk b o e)) hn hma hmb (i := k0 + (i : Int)) (j := n2) ⟨x1, rfl⟩ rn2
                refine hel cenv (k0 + (i : Int)) n2 hc A' E' s' _ hrA hq fun u s3 r3 k3 => ⟨?_, k3⟩
                have : atV (numI k0 ns) (fun q => f q.1 q.2) i = f (k0 + (i : Int)) n2 := by
                  unfold atV
                  rw [numI_get q2]
                  rfl
                show ∃ t, u = .int (atV (numI k0 ns) (fun q => f q.1 q.2) i) t
                rw [this]
                exact r3
  · obtain ⟨rfl, rfl, B1, s1, R1⟩ := hR
    obtain ⟨fp, wr, G, F, Stt, W, hst, within, htr, hI⟩ := hG
    refine Calls.spliced_nil ?_
    refine call_sum_walkS (W.self 0 _ _ _ hst ⟨g, fp, wr, G, _, F, Stt, atV (numI k0 ns) (fun q => f q.1 q.2), rfl, W, hst, within, htr, fits_long (by rw [numI_len]; exact small.1) smallN, fun s' t' hmv => ?_⟩)
    obtain ⟨H2, hT, J⟩ := hI s' hmv
    have R2 := R1.tabbed hP hT
    have pre := preSum_at (numI k0 ns) (fun q => f q.1 q.2) _ (Nat.le_refl _)
    rw [List.take_length] at pre
    rw [pre]
    exact ⟨.int _, H2, J, ⟨_, rfl⟩, kk _ B1 H2 s1 R2 (.int _)⟩
end
end BC
set_option Elab.async false
set_option linter.all false
set_option maxRecDepth 100000
set_option maxHeartbeats 2000000
namespace BC
open PySem PySem.Spec PyProof.Rows L2 GxR
section
variable {X : Cx} {E : En} {a b : Expr} {fa fb : DX} {fl : DA} {pos : Pos}
/-! a part of a list, a new list -/
def ySl (fa : DX) (f0 f1 : DO) : DA := fun S => (fa S).bind fun p => (f0 p.2).bind fun l => (f1 l.2).bind fun h => match p.1 with
  | .list ds => some (cutD ds l.1 h.1, h.2)
  | _ => none
@[simp] theorem ySl_eq {f0 f1 : DO} {S : SS} : ySl fa f0 f1 S = (fa S).bind fun p => (f0 p.2).bind fun l => (f1 l.2).bind fun h => match p.1 with
  | .list ds => some (cutD ds l.1 h.1, h.2)
  | _ => none := rfl
theorem l_slice {lo hi : Option Expr} {f0 f1 : DO} {p2 : Pos} (hK : X.K = E.K) (ha : PE X a (up E fa)) (h0 : PO X lo (upO E f0)) (h1 : PO X hi (upO E f1)) : PE X (.Subscript a (.Slice lo hi none p2) pos) (upL E (ySl fa f0 f1)) :=
  PE.imp (pe_slice sl_list ha h0 h1) fun σ H Q ⟨B, S, d, S', R, e, k⟩ => by
    unfold ySl at e
    simp only [Option.bind_eq_some_iff] at e
    obtain ⟨⟨d1, S1⟩, e1, ⟨l, S2⟩, e2, ⟨u, S3⟩, e3, e4⟩ := e
    cases d1 <;> (try (simp at e4; done))
    rename_i ds
    cases e4
    refine ⟨B, S, _, S1, R, e1, fun x B1 H1 s1 R1 dx => ⟨B1, S1, l, S2, R1, e2, fun B2 H2 s2 R2 => ⟨B2, S2, u, _, R2, e3, fun B3 H3 s3 R3 => ?_⟩⟩⟩
    have dx := dp_mono (s2.trans s3) dx
    cases dx with
    | @lst a0 vs _ h r => exact ⟨a0, vs, rfl, by rw [hK]; exact R3.sub.seq h, fun p hp => k p _ B3 _ ((s1.trans s2).trans s3) (R3.fresh hp ntLst) upd_same (R3.sub.free hp) (h0_of R3 hp) (own_ne R3 hp) (cut_dp r l u)⟩
/-! a new list so many times -/
theorem dpAll_times {K : PySem.W.Frag} {B : Hp} {vs : List V} {ds : List D} (h : DpAll K B vs ds) : ∀ n : Nat, DpAll K B (List.replicate n vs).flatten (List.replicate n ds).flatten
  | 0 => .nil
  | n + 1 => by
    rw [List.replicate_succ, List.replicate_succ, List.flatten_cons, List.flatten_cons]
    exact dpAll_app h (dpAll_times h n)
def xTimes (fl : DA) (fb : DX) : DX := fun S => (fl S).bind fun p => (fb p.2).bind fun q => match q.1 with
  | .int k => if -1000 ≤ k ∧ k ≤ 1000 ∧ p.1.length ≤ 100 then some (.list (List.replicate k.toNat p.1).flatten, q.2) else none
  | _ => none
@[simp] theorem xTimes_eq {S : SS} : xTimes fl fb S = (fl S).bind fun p => (fb p.2).bind fun q => match q.1 with
  | .int k => if -1000 ≤ k ∧ k ≤ 1000 ∧ p.1.length ≤ 100 then some (.list (List.replicate k.toNat p.1).flatten, q.2) else none
  | _ => none := rfl
theorem d_times (ha : PE X a (upL E fl)) (hb : PE X b (up E fb)) : PE X (.BinOp a .Mult b pos) (up E (xTimes fl fb)) :=
  PE.imp (pe_op op_rep ha hb) fun σ H Q ⟨B, S, d, S', R, e, kk⟩ => by
    unfold xTimes at e
    simp only [Option.bind_eq_some_iff] at e
    obtain ⟨⟨ds, S1⟩, e1, ⟨d2, S2⟩, e2, e3⟩ := e
    cases d2 <;> (try (simp at e3; done))
    rename_i k
    simp only at e3
    split at e3
    · rename_i hk
      cases e3
      refine ⟨B, S, ds, S1, R, e1, fun p vs B1 H1 s1 R1 hp hb0 h0 ho dv => ?_⟩
      have s0 : Same B1 (upd B1 p (.lst vs)) := same_upd hb0
      refine ⟨_, S1, _, _, R1.fix hp hb0 h0 ntLst ho, e2, fun y B2 H2 s2 R2 dy => ?_⟩
      cases dy
      have hp2 : H2 p = some (.lst vs) := R2.sub _ _ (s2 _ _ upd_same)
      have lv := dpAll_len dv
      have fit : vs.length * k.toNat ≤ 100000 := by
        have h1 : vs.length ≤ 100 := by rw [lv]; exact hk.2.2
        have h2 : k.toNat ≤ 1000 := by omega
        exact Nat.mul_le_mul h1 h2
      refine ⟨p, k, vs, rfl, rfl, hp2, by omega, by omega, line_le fit, fun q hq => ?_⟩
      obtain ⟨s3, R3, d3⟩ := new_lst R2 hq (dpAll_times (dpAll_mono (s0.trans s2) dv) k.toNat)
      exact kk _ _ _ (((s1.trans s0).trans s2).trans s3) R3 d3
    · cases e3
end
end BC
set_option Elab.async false
set_option linter.all false
set_option maxRecDepth 100000
set_option maxHeartbeats 2000000
namespace BC
open PySem PySem.Spec PyProof.Rows L2 GxR
section
variable {X : Cx} {E : En} {a b c e tg : Expr} {fa fe : DX} {fr : DA} {pos : Pos}
/-! int(True), int(False) -/
def gIntB : List D → Option D
  | [.bool k] => some (.int (if k then 1 else 0))
  | _ => none
@[simp] theorem gIntB_b {k : Bool} : gIntB [.bool k] = some (.int (if k then 1 else 0)) := rfl
theorem c_intB : CallD X E (.type "int") gIntB := by
  intro σ S B H xs ds z Q R dv hz k
  unfold gIntB at hz
  split at hz
  · cases hz
    obtain ⟨v, rfl, dx⟩ := dpAll1 dv
    cases dx
    exact ⟨_, call_int1, .inr ⟨_, rfl, k _ B H (Same.refl B) R (.int _)⟩⟩
  · cases hz
/-! x not in a list of any shaped data -/
def gNotInL : D → D → Option D := fun d e => match e with
  | .list ds => if SeqAt.shaped d = true ∧ SeqAt.shaped (.list ds) = true then some (.bool (!ds.any fun z => PyData.eqv z d)) else none
  | _ => none
@[simp] theorem gNotInL_l {d : D} {ds : List D} : gNotInL d (.list ds) = if SeqAt.shaped d = true ∧ SeqAt.shaped (.list ds) = true then some (.bool (!ds.any fun z => PyData.eqv z d)) else none := rfl
def gInL : D → D → Option D := fun d e => match e with
  | .list ds => if SeqAt.shaped d = true ∧ SeqAt.shaped (.list ds) = true then some (.bool (ds.any fun z => PyData.eqv z d)) else none
  | _ => none
@[simp] theorem gInL_l {d : D} {ds : List D} : gInL d (.list ds) = if SeqAt.shaped d = true ∧ SeqAt.shaped (.list ds) = true then some (.bool (ds.any fun z => PyData.eqv z d)) else none := rfl
/-- whether x is among the items of a list that is read -/
def rMem (f : Bool → Bool) (F : PySem.W.Frag) : R2 := fun x y M Q => ∃ d es, Dp F M x d ∧ Dp F M y (.list es) ∧ SeqAt.shaped d = true ∧ SeqAt.shaped (.list es) = true ∧ Q (.bl (f (es.any fun z => PyData.eqv z d))) M
theorem op_mem (room : X.A.units + 65 < cLine) : OpR X (compareOp .In) (rMem id X.K) := by
  rintro pins s σ H x y v u Q I rx ry ⟨d, es, dx, dy, sd, se, q⟩
  obtain ⟨as, q1⟩ := dx.reads I rx
  obtain ⟨bs, q2⟩ := dy.reads I ry
  have c1 := SeqAt.canLay_of_shaped se
  have c2 := SeqAt.canLay_of_shaped sd
  exact SeqAt.in_list_reads q2 q1 c1 c2 (room_in_shaped sd room) ⟨.bl _, H, I, rfl, q⟩
theorem op_notMem (room : X.A.units + 65 < cLine) : OpR X (compareOp .NotIn) (rMem not X.K) := by
  rintro pins s σ H x y v u Q I rx ry ⟨d, es, dx, dy, sd, se, q⟩
  obtain ⟨as, q1⟩ := dx.reads I rx
  obtain ⟨bs, q2⟩ := dy.reads I ry
  have c1 := SeqAt.canLay_of_shaped se
  have c2 := SeqAt.canLay_of_shaped sd
  exact SeqAt.notIn_list_reads q2 q1 c1 c2 (room_in_shaped sd room) ⟨.bl _, H, I, rfl, q⟩
theorem o_notInL (hK : X.K = E.K) (room : X.A.units + 65 < cLine) : OpD X E (compareOp .NotIn) gNotInL := by
  intro σ S B H x y d e z Q R dx dy hz k
  unfold gNotInL at hz
  split at hz
  · split at hz
    · rename_i h
      cases hz
      exact ⟨_, op_notMem room, d, _, by rw [hK]; exact dp_mono R.sub dx, by rw [hK]; exact dp_mono R.sub dy, h.1, h.2, k _ B H (Same.refl B) R (.bl _)⟩
    · cases hz
  · cases hz
theorem o_inL (hK : X.K = E.K) (room : X.A.units + 65 < cLine) : OpD X E (compareOp .In) gInL := by
  intro σ S B H x y d e z Q R dx dy hz k
  unfold gInL at hz
  split at hz
  · split at hz
    · rename_i h
      cases hz
      exact ⟨_, op_mem room, d, _, by rw [hK]; exact dp_mono R.sub dx, by rw [hK]; exact dp_mono R.sub dy, h.1, h.2, k _ B H (Same.refl B) R (.bl _)⟩
    · cases hz
  · cases hz
/-! range(i, j, -1) -/
def downD (hi : Int) (n : Nat) : List D := (List.range n).map fun k => .int (hi + (k : Nat) * -1)
theorem itc_D {K : PySem.W.Frag} {B : Hp} (hi : Int) (n : Nat) : ItD K B (Itc hi (-1) n) (downD hi n) := by
  have hl : (downD hi n).length = n := by unfold downD; simp
  refine ⟨fun i H _ h => by rw [hl] at h; exact h, fun i H x H' d _ ed y => ?_, fun i H _ h => by rw [hl] at h; exact h⟩
  obtain ⟨y1, rfl⟩ := y
  unfold downD at ed
  rw [List.getElem?_map, Option.map_eq_some_iff] at ed
  obtain ⟨k, e1, e2⟩ := ed
  obtain ⟨_, e3⟩ := List.getElem?_eq_some_iff.mp e1
  rw [List.getElem_range] at e3
  subst e3 e2
  exact .inl ⟨y1, .int _⟩
theorem dpAll3' {K : PySem.W.Frag} {B : Hp} {vs : List V} {d1 d2 d3 : D} (h : DpAll K B vs [d1, d2, d3]) : ∃ v1 v2 v3, vs = [v1, v2, v3] ∧ Dp K B v1 d1 ∧ Dp K B v2 d2 ∧ Dp K B v3 d3 := dpAll3 h
def iDown (fr : DA) : DA := fun S => (fr S).bind fun p => match p.1 with
  | [.int i, .int j, .int (-1)] => if -(2 ^ 62) ≤ i ∧ i < 2 ^ 62 ∧ -(2 ^ 62) ≤ j ∧ j < 2 ^ 62 then some (downD i (i - j).toNat, p.2) else none
  | _ => none
theorem i_down {p : Pos} (hg : Gl X "range") (hm : X.mg "range" = none) (ha : PA X [a, b, c] (upA E fr)) (hs : starEach [a, b, c] X.env = (false, eval a X.env) :: starEach [b, c] X.env := by rfl) (hpl : (backTo pos (starEach [b, c] X.env)).any (·.1) = false := by rfl) :
    PI X tg (.Call (.Name "range" p) [a, b, c] [] pos) (upI E (iDown fr)) :=
  PI.imp (pi_range3 hg hm ha hs hpl) fun σ H R ⟨B, S, ds, S', Rp, e, k⟩ => by
    unfold iDown at e
    simp only [Option.bind_eq_some_iff] at e
    obtain ⟨⟨d, S1⟩, e1, e2⟩ := e
    split at e2
    · rename_i i j hd
      simp only at hd
      subst hd
      split at e2
      · rename_i h
        cases e2
        refine ⟨B, S, _, _, Rp, e1, fun vs B1 H1 s1 R1 dv => ?_⟩
        obtain ⟨v, w, u, rfl, dx, dy, dz⟩ := dpAll3 dv
        cases dx
        cases dy
        cases dz
        exact ⟨i, j, -1, _, rfl, RgC.neg h.1 h.2.1 h.2.2.1 h.2.2.2, k _ B1 H1 s1 R1 (itc_D _ _)⟩
      · cases e2
    · cases e2
/-! l[::-1] of a list -/
def gTurnL : D → Option D
  | .list ds => some (.list ds.reverse)
  | _ => none
@[simp] theorem gTurnL_l {ds : List D} : gTurnL (.list ds) = some (.list ds.reverse) := rfl
theorem d_turnL {k : Nat} {p1 p2 p3 : Pos} (hK : X.K = E.K) (ha : PE X a (up E fa)) : PE X (.Subscript a (.Slice none none (some (.UnaryOp .USub (.Constant (.int 1) k p1) p2)) p3) pos) (up E (x1 gTurnL fa)) :=
  PE.imp (pe_revL ha) fun σ H Q ⟨B, S, d, S', R, e, kk⟩ => by
    unfold x1 at e
    simp only [Option.bind_eq_some_iff, Option.map_eq_some_iff] at e
    obtain ⟨⟨d1, S1⟩, e1, z, e2, e3⟩ := e
    cases e3
    cases d1 <;> (try (simp [gTurnL] at e2; done))
    rename_i ds
    cases e2
    refine ⟨B, S, _, S1, R, e1, fun x B1 H1 s1 R1 dx => ?_⟩
    cases dx with
    | @lst a0 vs _ h r =>
      refine ⟨a0, vs, rfl, by rw [hK]; exact R1.sub.seq h, fun q hq => ?_⟩
      obtain ⟨s2, R2, d2⟩ := new_lst R1 hq (dpAll_rev r)
      exact kk _ _ _ (s1.trans s2) R2 d2
/-! sorted(set(t)) of a tuple of ints -/
def insU (x : Int) : List Int → List Int
  | [] => [x]
  | y :: r => if x < y then x :: y :: r else if x = y then y :: r else y :: insU x r
def sortU : List Int → List Int
  | [] => []
  | x :: r => insU x (sortU r)
theorem insU_mem (x z : Int) : ∀ l : List Int, z ∈ insU x l ↔ z = x ∨ z ∈ l
  | [] => by simp [insU]
  | y :: r => by
    unfold insU
    split
    · simp
    · split
      · rename_i h
        subst h
        simp
      · simp only [List.mem_cons, insU_mem x z r]
        constructor
        · rintro (h | h | h)
          · exact .inr (.inl h)
          · exact .inl h
          · exact .inr (.inr h)
        · rintro (h | h | h)
          · exact .inr (.inl h)
          · exact .inl h
          · exact .inr (.inr h)
theorem sortU_mem (z : Int) : ∀ l : List Int, z ∈ sortU l ↔ z ∈ l
  | [] => by simp [sortU]
  | x :: r => by rw [sortU, insU_mem, sortU_mem z r, List.mem_cons]
theorem insU_up (x : Int) : ∀ l : List Int, l.Pairwise (· < ·) → (insU x l).Pairwise (· < ·)
  | [], _ => by simp [insU]
  | y :: r, h => by
    obtain ⟨h1, h2⟩ := List.pairwise_cons.mp h
    unfold insU
    split
    · rename_i c
      refine List.pairwise_cons.mpr ⟨fun z hz => ?_, h⟩
      rcases List.mem_cons.mp hz with e | e
      · rw [e]; exact c
      · exact Int.lt_trans c (h1 z e)
    · split
      · exact h
      · refine List.pairwise_cons.mpr ⟨fun z hz => ?_, insU_up x r h2⟩
        rcases (insU_mem x z r).mp hz with e | e
        · rw [e]; omega
        · exact h1 z e
theorem sortU_up : ∀ l : List Int, (sortU l).Pairwise (· < ·)
  | [] => List.Pairwise.nil
  | x :: r => insU_up x _ (sortU_up r)
theorem up_unique : ∀ {l m : List Int}, l.Pairwise (· < ·) → m.Pairwise (· < ·) → (∀ z, z ∈ l ↔ z ∈ m) → l = m
  | [], [], _, _, _ => rfl
  | [], y :: m, _, _, h => absurd ((h y).mpr List.mem_cons_self) (by simp)
  | x :: l, [], _, _, h => absurd ((h x).mp List.mem_cons_self) (by simp)
  | x :: l, y :: m, hl, hm, h => by
    obtain ⟨a1, a2⟩ := List.pairwise_cons.mp hl
    obtain ⟨b1, b2⟩ := List.pairwise_cons.mp hm
    have e : x = y := by
      rcases List.mem_cons.mp ((h x).mp List.mem_cons_self) with z | z
      · exact z
      · rcases List.mem_cons.mp ((h y).mpr List.mem_cons_self) with w | w
        · exact w.symm
        · have := a1 y w
          have := b1 x z
          omega
    subst e
    refine congrArg (x :: ·) (up_unique a2 b2 fun z => ?_)
    constructor
    · intro hz
      rcases List.mem_cons.mp ((h z).mp (List.mem_cons_of_mem _ hz)) with w | w
      · have := a1 z hz
        omega
      · exact w
    · intro hz
      rcases List.mem_cons.mp ((h z).mpr (List.mem_cons_of_mem _ hz)) with w | w
      · have := b1 z hz
        omega
      · exact w
def rSetT (K : PySem.W.Frag) (w : World) : List V → Hp → VK → Prop := fun xs H Q => ∃ (l : Addr) (ns : List Int), xs = [.ref l] ∧ SqT K H l (ns.map V.int) ∧ ns.length < 60 ∧ ∀ p n, H p = none → n ≤ ns.length → Q (.ref p) (upd H p (SetO w p (fun j => decide (j ∈ ns)) n))
theorem ints_of_vals {ns : List Int} {us : List Value} (r : Vals (ns.map V.int) us) : IntsAre us ns := intsAre_of r
theorem cr_setT (hc : X.calm = true) : CallR X (.type "set") (rSetT X.K X.w) := by
  rintro pins s σ H xs us Q I r ⟨l, ns, rfl, hl, small, q⟩
  obtain ⟨its, rv, pl, _⟩ := I.tuple hl
  rw [Vals.ref1 r]
  refine call_set_tupI ns (I.ok.hd hc) pl (by simpa using ints_of_vals rv) (Nat.lt_of_lt_of_le (Nat.succ_lt_succ small) (by decide)) fun h' tk n is le keep => ?_
  have big : s.heap.objs.size ≤ s.heap.objs.size := Nat.le_refl _
  exact ⟨.ref _, upd H s.heap.objs.size (SetO X.w s.heap.objs.size (fun j => decide (j ∈ ns)) n), I.laid (t' := tk) keep big (setO_new is), rfl, q _ n (I.hok.fresh big) le⟩
def xSortSet (fa : DX) : DX := fun S => (fa S).bind fun p => match p.1 with
  | .tuple ds => (intsOf ds).bind fun ns => if ns.length < 60 then some (.list ((sortU ns).map PyData.int), p.2) else none
  | _ => none
@[simp] theorem xSortSet_eq {S : SS} : xSortSet fa S = (fa S).bind fun p => match p.1 with
  | .tuple ds => (intsOf ds).bind fun ns => if ns.length < 60 then some (.list ((sortU ns).map PyData.int), p.2) else none
  | _ => none := rfl
theorem ntSet {w : World} {p : Addr} {S : Int → Bool} {n : Nat} : NoTbl (SetO w p S n) := fun ps z => by cases z
theorem d_sortSet {p p2 pos2 : Pos} (hK : X.K = E.K) (hc : X.calm = true) (hg : Gl X "sorted") (hm : X.mg "sorted" = none) (hg2 : Gl X "set") (hm2 : X.mg "set" = none) (ha : PE X a (up E fa))
    (ns1 : starEach [a] X.env = (false, eval a X.env) :: starEach [] X.env := by rfl) (np1 : (backTo pos2 (starEach ([] : List Expr) X.env)).any (·.1) = false := by rfl)
    (ns2 : starEach [.Call (.Name "set" p2) [a] [] pos2] X.env = (false, eval (.Call (.Name "set" p2) [a] [] pos2) X.env) :: starEach [] X.env := by rfl) (np2 : (backTo pos (starEach ([] : List Expr) X.env)).any (·.1) = false := by rfl) :
    PE X (.Call (.Name "sorted" p) [.Call (.Name "set" p2) [a] [] pos2] [] pos) (up E (xSortSet fa)) :=
  PE.imp (pe_callB (cr_sortedSet hc) hg hm (by decide +kernel) (pa_cons (pe_callTy (cr_setT hc) hg2 hm2 (by decide +kernel) (pa_cons ha pa_nil ns1) (by decide) (by decide) ns1 np1) pa_nil ns2) (by decide) (by decide) ns2 np2) fun σ H Q ⟨B, S, d, S', R, e0, k⟩ => by
    unfold xSortSet at e0
    simp only [Option.bind_eq_some_iff] at e0
    obtain ⟨⟨d1, S1⟩, e1, e2⟩ := e0
    cases d1 <;> (try (simp at e2; done))
    rename_i ds
    simp only [Option.bind_eq_some_iff] at e2
    obtain ⟨ns, e3, e4⟩ := e2
    split at e4
    · rename_i small
      cases e4
      refine ⟨B, S, _, _, R, e1, fun v B1 H1 s1 R1 dv => ?_⟩
      cases dv with
      | @tup a0 vs _ h r =>
        have ev := intsOf_dp e3 r
        subst ev
        refine ⟨a0, ns, rfl, by rw [hK]; exact same_seqT R1.sub h, small, fun q n hq le => ?_⟩
        refine ⟨q, _, n, rfl, upd_same, by omega, fun ms q2 up mem _ hq2 => ?_⟩
        have R2 := R1.fresh (o := SetO X.w q (fun j => decide (j ∈ ns)) n) hq ntSet
        have eq : ms = sortU ns := up_unique up (sortU_up ns) fun z => by rw [mem z, sortU_mem, decide_eq_true_eq]
        subst eq
        obtain ⟨s3, R3, d3⟩ := new_lst R2 hq2 (dpAll_ints (sortU ns))
        exact k _ _ _ (s1.trans s3) R3 d3
    · cases e4
end
end BC
set_option Elab.async false
set_option linter.all false
set_option maxRecDepth 100000
set_option maxHeartbeats 2000000
namespace BC
open PySem PySem.Spec PyProof.Rows L2 GxR
theorem call_set_listI {P : Program} {w : World} {A : Around} {E : Value → Shared → Prop} {s : Shared} {l : Addr} {items : Array Value} (ns : List Int) {Q : Value → Shared → Prop} (hd : A.handled = none) (hl : s.heap.IsList l items) (hi : IntsAre items.toList ns) (fit : ns.length + 1 < scanBound)
    (q : ∀ (h' : Heap) (tk c : Nat), SetR w h' s.heap.objs.size (fun j => decide (j ∈ ns)) c → c ≤ ns.length → (∀ b o, s.heap.get? b = some o → h'.get? b = some o) → Q (.ref s.heap.objs.size) { heap := h', gens := s.gens, drawn := s.drawn, toks := tk, os := s.os }) :
    wpAny (model P w) A (call (.type "set") [.ref l]) Q E s := by
  have T := F.called_set
  obtain ⟨c0, tl0, m0⟩ := T.mro
  refine wpAny_call (codeAny_of_tree ?_)
  refine wpAny_pure ⟨Code.quiet_builtin _ (by decide +kernel), ?_⟩
  refine codeAny_builtin F.entry_type_call ?_
  rw [Around.under_plain (weight_type_call_type _ _ _) (by rfl)]
  unfold Builtin.«type.__call__»
  dsimp only
  rw [if_neg (by rw [T.notType]; decide), if_neg (by rw [T.canCreate]; decide)]
  rw [F.typeCall_set_1, m0, T.made]
  refine wpAny_bind (wpAny_pure (wpAny_bind (wpAny_pure ?_)))
  rw [if_neg (by simp)]
  refine wpAny_bind (wpAny_pure (wpAny_bind (wpAny_pure (wpAny_bind (wpAny_holding (wpAny_call (codeAny_mono (code_set_led1 (E := fun e s' => E e s') (Q₁ := fun v s1 => v = .ref s.heap.objs.size ∧ s1 = { s with heap := s.heap.push { cls := .type "set", data := .set #[] 0 (SetTable.fresh 0 0 !w.params.followText "set-order") } }) _ ⟨rfl, rfl⟩) fun r s1 h1 => ?_)))))))
  rcases r with e | r
  · exact h1
  · rcases r with _ | _ | _ | v <;> try exact h1
    obtain ⟨eo, es⟩ := h1
    subst eo es
    have at0 : (s.heap.push { cls := .type "set", data := .set #[] 0 (SetTable.fresh 0 0 !w.params.followText "set-order") } : Heap).get? s.heap.objs.size = some { cls := .type "set", data := .set #[] 0 (SetTable.fresh 0 0 !w.params.followText "set-order") } := Heap.get?_push_size _ rfl
    have hl1 := hl.push { cls := .type "set", data := .set #[] 0 (SetTable.fresh 0 0 !w.params.followText "set-order") }
    have isS : ({ s with heap := s.heap.push { cls := .type "set", data := .set #[] 0 (SetTable.fresh 0 0 !w.params.followText "set-order") } } : Shared).TypeIs (.ref s.heap.objs.size) "set" := ⟨_, at0, rfl⟩
    refine wpAny_bind (wpAny_isInstance isS T.sub ?_)
    rw [if_neg (by decide)]
    refine wpAny_bind (wpAny_holding ?_)
    unfold callSpecial?
    refine wpAny_bind (wpAny_specialOf isS T.init.lookup (wpAny_holding ?_))
    rw [T.init.bind]
    refine wpAny_bind (wpAny_pure (wpAny_bind (wpAny_call (codeAny_call_builtin (by decide +kernel) F.entry_set_init (check_set_init_1 isS ?_)))))
    have fin : ∀ (h' : Heap) (tk c : Nat), SetR w h' s.heap.objs.size (fun j => decide (j ∈ ns)) c → c ≤ ns.length → (∀ b o, s.heap.get? b = some o → h'.get? b = some o) → Q (.ref s.heap.objs.size) { heap := h', gens := s.gens, drawn := s.drawn, toks := tk, os := s.os } := q
    generalize hs : ({ heap := s.heap.push { cls := .type "set", data := .set #[] 0 (SetTable.fresh 0 0 !w.params.followText "set-order") }, gens := s.gens, drawn := s.drawn, toks := s.toks, os := s.os } : Shared) = st at *
    unfold Builtin.«set.__init__»
    dsimp only
    unfold noKeywords
    rw [if_pos (by rfl)]
    refine wpAny_bind (wpAny_pure ?_)
    rw [show ([Value.ref s.heap.objs.size] ++ [Value.ref l]) = [Value.ref s.heap.objs.size, Value.ref l] from rfl]
    unfold typeNameOfCut
    unfold shownTypeOf
    refine wpAny_bind (m := (_ >>= _)) (wpAny_bind (m := (_ >>= _)) (wpAny_bind (wpAny_typeOf isS ?_)))
    rw [if_neg (by decide)]
    refine wpAny_pure (wpAny_pure ?_)
    unfold checkCount
    dsimp only [List.length_cons, List.length_nil]
    refine wpAny_bind ?_
    rw [if_neg (show ¬ ((0 == 1 && _) = true) by simp), if_neg (by decide), if_neg (by decide)]
    refine wpAny_pure (wpAny_bind (wpAny_pure ?_))
    unfold setUsed
    unfold setState
    have at1 : st.heap.get? s.heap.objs.size = some { cls := .type "set", data := .set #[] 0 (SetTable.fresh 0 0 !w.params.followText "set-order") } := by rw [← hs]; exact at0
    have hl2 : st.heap.IsList l items := by rw [← hs]; exact hl1
    refine wpAny_bind (m := (_ >>= _)) (wpAny_bind (m := (_ >>= _)) (wpAny_bind (wpAny_load at1 ?_)))
    dsimp only
    rw [if_neg (show ¬ ((_ : Bool) = true) from by simp [SetTable.fresh, SetTable.fill])]
    refine wpAny_pure (wpAny_pure ?_)
    rw [if_neg (show ¬ ((_ : Bool) = true) from by simp [SetTable.fresh, SetTable.fill])]
    unfold Builtin.Frozenset.updateFrom
    have isL := hl2.typeIs
    have ne : s.heap.objs.size ≠ st.heap.objs.size := by rw [← hs]; exact Nat.ne_of_lt (by rw [Heap.size_push]; exact Nat.lt_succ_self _)
    have lS : l ≠ s.heap.objs.size := fun z => by
      obtain ⟨o, e, _⟩ := hl
      exact Nat.ne_of_lt (Heap.lt_size e) z
    have lI : l ≠ st.heap.objs.size := fun z => by
      obtain ⟨o, e, _⟩ := hl2
      exact Nat.ne_of_lt (Heap.lt_size e) z
    refine wpAny_bind (m := (_ >>= _)) (wpAny_bind (m := Builtin.Frozenset.isAnySet _) ?_)
    unfold Builtin.Frozenset.isAnySet
    refine wpAny_bind (m := isInstance _ _) (wpAny_isInstance isL F.sub_list_set ?_)
    dsimp only
    refine wpAny_isInstance isL F.sub_list_frozenset ?_
    rw [if_neg (by decide)]
    refine wpAny_bind (wpAny_typeOf isL ?_)
    rw [if_neg (by decide)]
    refine wpAny_bind (wpAny_pyIter_list hl2 (wpAny_bind (wpAny_runValue ?_)))
    have hn : items.size = ns.length := by rw [← Array.length_toList]; exact hi.length
    have atI : (st.heap.push { cls := .type "list_iterator", data := .fields #[.ref l, .int 0 0] } : Heap).get? st.heap.objs.size = some { cls := .type "list_iterator", data := .fields #[.ref l, .int 0 0] } := Heap.get?_push_size _ rfl
    have keep0 : ∀ b o, s.heap.get? b = some o → st.heap.get? b = some o := fun b o e => by rw [← hs]; exact Heap.get?_push_of_some _ e
    refine L2.set_update_ints (Walks.list (A := A.in1.in1.in1) hd st.heap.objs.size l lI items).toS s.heap.objs.size (by simp [ne, lS.symm]) ns hn fit (fun i v e => ?_) items.size 0 _ rfl (Nat.zero_le _) ⟨⟨_, atI, rfl, rfl⟩, hl2.push _⟩ ⟨0, Nat.le_refl _, L2.setR_new_at (Heap.get?_push_of_some _ at1)⟩ fun s' c mv le r => ?_
    · have e' : items.toList[i]? = some v := by simpa using e
      obtain ⟨t, e2⟩ := hi.int_at i v e'
      obtain ⟨lt, _⟩ := List.getElem?_eq_some_iff.mp e'
      have lt' : i < ns.length := by rw [← hi.length]; exact lt
      exact ⟨_, t, by rw [List.getD_eq_getElem?_getD, List.getElem?_eq_getElem lt']; rfl, e2⟩
    · refine wpAny_pure (wpAny_pure ?_)
      refine wpAny_pure ?_
      show wpAny _ _ (if (Value.none != Value.none) = true then _ else ret (.ref s.heap.objs.size)) _ _ s'
      rw [if_neg (by decide)]
      refine wpAny_pure ?_
      have k1 : ∀ b o, s.heap.get? b = some o → s'.heap.get? b = some o := fun b o e => mv.heap b o (by
        have b1 := Heap.lt_size e
        have b2 : s.heap.objs.size < st.heap.objs.size := by rw [← hs]; exact (by rw [Heap.size_push]; exact Nat.lt_succ_self _)
        simp only [List.mem_cons, List.mem_singleton, List.not_mem_nil, or_false, not_or]
        exact ⟨fun z => Nat.ne_of_lt b1 z, fun z => Nat.ne_of_lt (Nat.lt_trans b1 b2) z⟩) (Heap.get?_push_of_some _ (keep0 b o e))
      have f := fin s'.heap s'.toks c r (by omega) k1
      have g1 : s'.gens = s.gens := by rw [← hs] at mv; exact mv.gens
      have g2 : s'.drawn = s.drawn := by rw [← hs] at mv; exact mv.drawn
      have g3 : s'.os = s.os := by rw [← hs] at mv; exact mv.os
      rw [← g1, ← g2, ← g3] at f
      exact f
section
variable {X : Cx} {E : En} {a b c e tg : Expr} {fa fe : DX} {fr : DA} {pos : Pos}
/-! sorted(set(l)) of a list of ints -/
def rSetL (K : PySem.W.Frag) (w : World) : List V → Hp → VK → Prop := fun xs H Q => ∃ (l : Addr) (ns : List Int), xs = [.ref l] ∧ SqL K H l (ns.map V.int) ∧ ns.length < 60 ∧ ∀ p n, H p = none → n ≤ ns.length → Q (.ref p) (upd H p (SetO w p (fun j => decide (j ∈ ns)) n))
theorem cr_setL (hc : X.calm = true) : CallR X (.type "set") (rSetL X.K X.w) := by
  rintro pins s σ H xs us Q I r ⟨l, ns, rfl, hl, small, q⟩
  obtain ⟨its, rv, pl, _⟩ := I.list hl
  rw [Vals.ref1 r]
  refine call_set_listI ns (I.ok.hd hc) pl.isList (by simpa using ints_of_vals rv) (Nat.lt_of_lt_of_le (Nat.succ_lt_succ small) (by decide)) fun h' tk n is le keep => ?_
  have big : s.heap.objs.size ≤ s.heap.objs.size := Nat.le_refl _
  exact ⟨.ref _, upd H s.heap.objs.size (SetO X.w s.heap.objs.size (fun j => decide (j ∈ ns)) n), I.laid (t' := tk) keep big (setO_new is), rfl, q _ n (I.hok.fresh big) le⟩
def xSortSetL (fa : DX) : DX := fun S => (fa S).bind fun p => match p.1 with
  | .list ds => (intsOf ds).bind fun ns => if ns.length < 60 then some (.list ((sortU ns).map PyData.int), p.2) else none
  | _ => none
@[simp] theorem xSortSetL_eq {S : SS} : xSortSetL fa S = (fa S).bind fun p => match p.1 with
  | .list ds => (intsOf ds).bind fun ns => if ns.length < 60 then some (.list ((sortU ns).map PyData.int), p.2) else none
  | _ => none := rfl
theorem d_sortSetL {p p2 pos2 : Pos} (hK : X.K = E.K) (hc : X.calm = true) (hg : Gl X "sorted") (hm : X.mg "sorted" = none) (hg2 : Gl X "set") (hm2 : X.mg "set" = none) (ha : PE X a (up E fa))
    (ns1 : starEach [a] X.env = (false, eval a X.env) :: starEach [] X.env := by rfl) (np1 : (backTo pos2 (starEach ([] : List Expr) X.env)).any (·.1) = false := by rfl)
    (ns2 : starEach [.Call (.Name "set" p2) [a] [] pos2] X.env = (false, eval (.Call (.Name "set" p2) [a] [] pos2) X.env) :: starEach [] X.env := by rfl) (np2 : (backTo pos (starEach ([] : List Expr) X.env)).any (·.1) = false := by rfl) :
    PE X (.Call (.Name "sorted" p) [.Call (.Name "set" p2) [a] [] pos2] [] pos) (up E (xSortSetL fa)) :=
  PE.imp (pe_callB (cr_sortedSet hc) hg hm (by decide +kernel) (pa_cons (pe_callTy (cr_setL hc) hg2 hm2 (by decide +kernel) (pa_cons ha pa_nil ns1) (by decide) (by decide) ns1 np1) pa_nil ns2) (by decide) (by decide) ns2 np2) fun σ H Q ⟨B, S, d, S', R, e0, k⟩ => by
    unfold xSortSetL at e0
    simp only [Option.bind_eq_some_iff] at e0
    obtain ⟨⟨d1, S1⟩, e1, e2⟩ := e0
    cases d1 <;> (try (simp at e2; done))
    rename_i ds
    simp only [Option.bind_eq_some_iff] at e2
    obtain ⟨ns, e3, e4⟩ := e2
    split at e4
    · rename_i small
      cases e4
      refine ⟨B, S, _, _, R, e1, fun v B1 H1 s1 R1 dv => ?_⟩
      cases dv with
      | @lst a0 vs _ h r =>
        have ev := intsOf_dp e3 r
        subst ev
        refine ⟨a0, ns, rfl, by rw [hK]; exact R1.sub.seq h, small, fun q n hq le => ?_⟩
        refine ⟨q, _, n, rfl, upd_same, by omega, fun ms q2 up mem _ hq2 => ?_⟩
        have R2 := R1.fresh (o := SetO X.w q (fun j => decide (j ∈ ns)) n) hq ntSet
        have eq : ms = sortU ns := up_unique up (sortU_up ns) fun z => by rw [mem z, sortU_mem, decide_eq_true_eq]
        subst eq
        obtain ⟨s3, R3, d3⟩ := new_lst R2 hq2 (dpAll_ints (sortU ns))
        exact k _ _ _ (s1.trans s3) R3 d3
    · cases e4
end
end BC
set_option Elab.async false
set_option linter.all false
set_option maxRecDepth 100000
set_option maxHeartbeats 2000000
namespace BC
open PySem PySem.Spec PyProof.Rows L2 GxR
/-! ### dicts with ints for keys, as a name's own -/
def valI (kvs : List (Int × D)) (k : Int) : Option D := match kvs with
  | [] => none
  | (j, d) :: r => if j = k then some d else valI r k
def hasI (kvs : List (Int × D)) (k : Int) : Bool := kvs.any fun kv => decide (kv.1 = k)
def putI (kvs : List (Int × D)) (k : Int) (d : D) : List (Int × D) := if hasI kvs k = true then kvs.map (fun kv => if kv.1 = k then (kv.1, d) else kv) else kvs ++ [(k, d)]
def mergeI (acc more : List (Int × D)) : List (Int × D) := more.foldl (fun acc kv => putI acc kv.1 kv.2) acc
def pairsOf : List D → Option (List (Int × D))
  | [] => some []
  | .tuple [.int k, d] :: r => (pairsOf r).map ((k, d) :: ·)
  | _ => none
section
variable {K : PySem.W.Frag} {B : Hp}
def DikR (K : PySem.W.Frag) (B : Hp) (p : Int × D) (q : Key × V) : Prop := Sum.inl p.1 = q.1 ∧ Dp K B q.2 p.2
theorem dik_key {p : Int × D} {q : Key × V} (h : DikR K B p q) (k : Int) : decide (q.1 = Sum.inl k) = decide (p.1 = k) := by
  rw [← h.1]
  exact decide_eq_decide.mpr ⟨fun z => Sum.inl.inj z, fun z => by rw [z]⟩
theorem dik_val : ∀ {kvs : List (Int × D)} {ws : List (Key × V)}, Paired (DikR K B) kvs ws → ∀ {k : Int} {d : D}, valI kvs k = some d → ∃ v, valV ws (Sum.inl k : Key) = some v ∧ Dp K B v d
  | _, _, .nil, _, _, h => by cases h
  | _, _, @Paired.cons _ _ _ p q r s hp hr, k, d, h => by
    unfold valI at h
    have e := dik_key hp k
    by_cases c : p.1 = k
    · rw [if_pos c] at h
      cases h
      refine ⟨q.2, ?_, hp.2⟩
      unfold valV
      rw [List.find?_cons_of_pos (by rw [e]; exact decide_eq_true c)]
      rfl
    · rw [if_neg c] at h
      obtain ⟨v, h1, h2⟩ := dik_val hr h
      refine ⟨v, ?_, h2⟩
      unfold valV at h1 ⊢
      rw [List.find?_cons_of_neg (by rw [e]; simpa using c)]
      exact h1
theorem dik_has : ∀ {kvs : List (Int × D)} {ws : List (Key × V)}, Paired (DikR K B) kvs ws → ∀ k : Int, (ws.any fun kv => decide (kv.1 = (Sum.inl k : Key))) = hasI kvs k
  | _, _, .nil, _ => rfl
  | _, _, @Paired.cons _ _ _ p q r s hp hr, k => by
    unfold hasI
    rw [List.any_cons, List.any_cons, dik_key hp k, dik_has hr k]
    rfl
theorem dik_map : ∀ {kvs : List (Int × D)} {ws : List (Key × V)}, Paired (DikR K B) kvs ws → ∀ (k : Int) {v : V} {d : D}, Dp K B v d → Paired (DikR K B) (kvs.map fun kv => if kv.1 = k then (kv.1, d) else kv) (ws.map fun kv => if kv.1 = (Sum.inl k : Key) then (kv.1, v) else kv)
  | _, _, .nil, _, _, _, _ => .nil
  | _, _, @Paired.cons _ _ _ p q r s hp hr, k, v, d, h => by
    refine .cons ?_ (dik_map hr k h)
    dsimp only
    by_cases c : p.1 = k
    · rw [if_pos c, if_pos (by rw [← hp.1, c])]
      exact ⟨hp.1, h⟩
    · rw [if_neg c, if_neg (by rw [← hp.1]; exact fun z => c (Sum.inl.inj z))]
      exact hp
theorem dik_app : ∀ {kvs : List (Int × D)} {ws : List (Key × V)}, Paired (DikR K B) kvs ws → ∀ (k : Int) {v : V} {d : D}, Dp K B v d → Paired (DikR K B) (kvs ++ [(k, d)]) (ws ++ [((Sum.inl k : Key), v)])
  | _, _, .nil, _, _, _, h => .cons ⟨rfl, h⟩ .nil
  | _, _, .cons hp hr, k, _, _, h => .cons hp (dik_app hr k h)
theorem dik_put {kvs : List (Int × D)} {ws : List (Key × V)} (r : Paired (DikR K B) kvs ws) (k : Int) {v : V} {d : D} (h : Dp K B v d) : Paired (DikR K B) (putI kvs k d) (putK ws (Sum.inl k : Key) v) := by
  unfold putI putK
  rw [dik_has r k]
  split
  · exact dik_map r k h
  · exact dik_app r k h
theorem dik_merge : ∀ {more : List (Int × D)} {ms : List (Key × V)}, Paired (DikR K B) more ms → ∀ {kvs : List (Int × D)} {ws : List (Key × V)}, Paired (DikR K B) kvs ws → Paired (DikR K B) (mergeI kvs more) (mergeK ws ms)
  | _, _, .nil, _, _, h => h
  | _, _, @Paired.cons _ _ _ p q r s hp hr, kvs, ws, h => by
    have := dik_put h p.1 hp.2
    rw [hp.1] at this
    exact dik_merge hr this
theorem dik_pairs : ∀ {ds : List D} {vs : List V} {kvs : List (Int × D)}, DpAll K B vs ds → pairsOf ds = some kvs → ∃ (ps : List Addr) (ws : List (Key × V)), vs = ps.map V.ref ∧ Paired (fun p kv => B p = some (.tup [kV kv.1, kv.2])) ps ws ∧ Paired (DikR K B) kvs ws
  | [], _, _, .nil, h => by cases h; exact ⟨[], [], rfl, .nil, .nil⟩
  | d :: ds, _, kvs, .cons hd hr, h => by
    unfold pairsOf at h
    split at h
    · rename_i e; cases e
    · rename_i k d' r e
      cases e
      simp only [Option.map_eq_some_iff] at h
      obtain ⟨kvs', h1, rfl⟩ := h
      obtain ⟨ps, ws, rfl, p1, p2⟩ := dik_pairs hr h1
      cases hd with
      | @tup a xs _ h2 h3 =>
        obtain ⟨v, w, rfl, d1, d2⟩ := dpAll2 h3
        cases d1
        exact ⟨a :: ps, ((Sum.inl k : Key), w) :: ws, rfl, .cons h2 p1, .cons ⟨rfl, d2⟩ p2⟩
    · cases h
end
section
variable {X : Cx} {E : En} {a b c e tg : Expr} {fa fb fe : DX} {fr : DA} {pos : Pos}
theorem ntDik {ws : List (Key × V)} : NoTbl (.dK ws) := fun _ z => by cases z
/-! d[k] -/
def xIxK (i : Nat) (fb : DX) : DX := fun S => match S[i]? with
  | some (.own (.dik _)) => (fb S).bind fun p => match p.2[i]?, p.1 with
    | some (.own (.dik kvs)), .int k => (valI kvs k).map fun z => (z, p.2)
    | _, _ => none
  | _ => none
@[simp] theorem xIxK_eq {i : Nat} {S : SS} : xIxK i fb S = match S[i]? with
  | some (.own (.dik _)) => (fb S).bind fun p => match p.2[i]?, p.1 with
    | some (.own (.dik kvs)), .int k => (valI kvs k).map fun z => (z, p.2)
    | _, _ => none
  | _ => none := rfl
theorem d_ixK {i : Nat} (hu : X.A.units + 65 < cLine) (ha : PE X a (tVar i)) (hb : PE X b (up E fb)) (hs : NoSl b := by exact fun _ _ => rfl) : PE X (.Subscript a b pos) (up E (xIxK i fb)) :=
  PE.imp (pe_dget (by omega) ha hb hs) fun σ H Q ⟨B, S, d, S', R, e, k⟩ => by
    unfold xIxK at e
    split at e
    · rename_i ds0 h0
      obtain ⟨a0, o0, es, _⟩ := R.own i _ h0
      refine ⟨_, es, ?_⟩
      simp only [Option.bind_eq_some_iff] at e
      obtain ⟨⟨d2, S2⟩, e2, e3⟩ := e
      split at e3
      · rename_i ds k0 h1 h2
        simp only at h1 h2
        subst h2
        simp only [Option.map_eq_some_iff] at e3
        obtain ⟨z, e4, e6⟩ := e3
        cases e6
        refine ⟨B, S, _, _, R, e2, fun y B2 H2 s2 R2 dy => ?_⟩
        cases dy
        obtain ⟨a1, o1, es1, _, hH, ⟨ws, rfl, r⟩, _⟩ := R2.own i _ h1
        rw [es] at es1
        cases es1
        obtain ⟨v, h3, h4⟩ := dik_val r e4
        exact ⟨_, v, rfl, .inl ⟨ws, (Sum.inl k0 : Key), .inl hH, rfl, h3.symm⟩, k v B2 H2 s2 R2 h4⟩
      · cases e3
    · cases e
/-! d[k] = e -/
def sSetK (i : Nat) (fk fe : DX) : SX := fun S => (fe S).bind fun p => match p.2[i]? with
  | some (.own (.dik _)) => (fk p.2).bind fun q => match q.2[i]?, q.1 with
    | some (.own (.dik kvs)), .int k => if kvs.length < 100000 then some (.nx (q.2.set i (.own (.dik (putI kvs k p.1))))) else none
    | _, _ => none
  | _ => none
@[simp] theorem sSetK_eq {i : Nat} {fk : DX} {S : SS} : sSetK i fk fe S = (fe S).bind fun p => match p.2[i]? with
  | some (.own (.dik _)) => (fk p.2).bind fun q => match q.2[i]?, q.1 with
    | some (.own (.dik kvs)), .int k => if kvs.length < 100000 then some (.nx (q.2.set i (.own (.dik (putI kvs k p.1))))) else none
    | _, _ => none
  | _ => none := rfl
theorem s_setK {i : Nat} {o kx : Expr} {fk : DX} {tpos : Pos} (ho : PE X o (tVar i)) (hk : PE X kx (up E fk)) (he : PE X e (up E fe))
    (hg : PG X (.Subscript o kx tpos) (L2.gSub (tVar i) (up E fk) rSetD))
    (hs : swapsWithSole [.Subscript o kx tpos] e pos.line X.env = pure false := by rfl) (hw : swappedStores [.Subscript o kx tpos] e X.env = pure none := by rfl)
    (h1 : (assignEach [.Subscript o kx tpos] X.env).map (·.2) = [assign (.Subscript o kx tpos) X.env] := by rfl) : PS X (.Assign [.Subscript o kx tpos] e pos) (upS E (sSetK i fk fe)) :=
  PS.imp (ps_asg he hg hs hw h1) fun σ H D ⟨B, S, r, R, e, k⟩ => by
    unfold sSetK at e
    simp only [Option.bind_eq_some_iff] at e
    obtain ⟨⟨d, S1⟩, e1, e2⟩ := e
    split at e2
    · rename_i ds0 h0
      simp only at h0
      simp only [Option.bind_eq_some_iff] at e2
      obtain ⟨⟨d2, S2⟩, e3, e4⟩ := e2
      split at e4
      · rename_i kvs kk h1 h2
        simp only at h1 h2
        subst h2
        split at e4
        · rename_i hl
          cases e4
          refine ⟨B, S, d, S1, R, e1, fun v B1 H1 s1 R1 dv => ?_⟩
          obtain ⟨a0, o0, g1, g2, g3, ⟨vs0, g4, _⟩, _⟩ := R1.own i _ h0
          refine ⟨_, g1, B1, S1, _, S2, R1, e3, fun y B2 H2 s2 R2 dy => ?_⟩
          cases dy
          obtain ⟨a1, o1, f1, f2, f3, ⟨ws, f4, f5⟩, _⟩ := R2.own i _ h1
          rw [g1] at f1
          cases f1
          subst f4
          refine ⟨_, _, rfl, .inl ⟨ws, (Sum.inl kk : Key), f3, rfl, by rw [← f5.length]; exact line_lt (Nat.le_of_lt hl), rfl⟩, ?_⟩
          exact k σ B2 _ (s1.trans s2) (R2.write h1 g1 ⟨_, rfl, dik_put f5 kk (dp_mono s2 dv)⟩)
        · cases e4
      · cases e4
    · cases e2
/-! x = dict(a list of pairs) -/
def sDict (i : Nat) (fa : DX) : SX := fun S => (fa S).bind fun p => match p.1 with
  | .list ds => (pairsOf ds).bind fun kvs => if i < p.2.length then some (.nx (p.2.set i (.own (.dik (mergeI [] kvs))))) else none
  | _ => none
@[simp] theorem sDict_eq {i : Nat} {S : SS} : sDict i fa S = (fa S).bind fun p => match p.1 with
  | .list ds => (pairsOf ds).bind fun kvs => if i < p.2.length then some (.nx (p.2.set i (.own (.dik (mergeI [] kvs))))) else none
  | _ => none := rfl
theorem s_dict {i : Nat} {x : Str} {pos' p pos2 : Pos} (hK : X.K = E.K) (hcalm : X.calm = true) (hp : ∀ q ∈ E.pa, q.1 ≠ i) (hN : X.N.Nodup) (hi : X.N[i]? = some x) (hx : Loc X.env.scope x) (hg : Gl X "dict") (hm : X.mg "dict" = none) (ha : PE X a (up E fa))
    (ns1 : starEach [a] X.env = (false, eval a X.env) :: starEach [] X.env := by rfl) (np1 : (backTo pos2 (starEach ([] : List Expr) X.env)).any (·.1) = false := by rfl)
    (hs : swapsWith (.Call (.Name "dict" p) [a] [] pos2) (some (.Name x pos')) pos.line X.env = pure false := by rfl) (hf : X.fn x = true ∨ X.env.scope.names.lookup x = some .local := by first | exact .inl rfl | exact .inr rfl | assumption) :
    PS X (.Assign [.Name x pos'] (.Call (.Name "dict" p) [a] [] pos2) pos) (upS E (sDict i fa)) :=
  PS.imp (ps_set hN hi hx (pe_callTy (call_dictP hcalm) hg hm (by decide +kernel) (pa_cons ha pa_nil ns1) (by decide) (by decide) ns1 np1) hs hf) fun σ H D ⟨B, S, r, R, e, k⟩ => by
    unfold sDict at e
    simp only [Option.bind_eq_some_iff] at e
    obtain ⟨⟨d1, S1⟩, e1, e2⟩ := e
    cases d1 <;> (try (simp at e2; done))
    rename_i ds
    simp only [Option.bind_eq_some_iff] at e2
    obtain ⟨kvs, e3, e4⟩ := e2
    split at e4
    · rename_i hl
      cases e4
      refine ⟨B, S, _, _, R, e1, fun v B1 H1 s1 R1 dv => ?_⟩
      cases dv with
      | @lst a0 vs _ h r =>
        obtain ⟨ps, ws, rfl, p1, p2⟩ := dik_pairs r e3
        refine ⟨a0, ps, ws, rfl, by rw [hK]; exact R1.sub.seq h, Paired.mapP p1 (fun p kv z => by rw [hK]; exact same_seqT R1.sub z), fun q hq => ?_⟩
        exact k _ B1 _ s1 ((R1.fresh hq ntDik).setOwn (h0_of R1 hq) (R1.sub.free hq) upd_same ⟨_, rfl, dik_merge p2 .nil⟩ (own_ne R1 hq) hp hl)
    · cases e4
end
end BC
set_option Elab.async false
set_option linter.all false
set_option maxRecDepth 100000
set_option maxHeartbeats 2000000
namespace BC
open PySem PySem.Spec PyProof.Rows L2 GxR
/-! ### dicts with tuples of ints for keys, as a name's own -/
theorem intsD_map : ∀ ns : List Int, intsD (ns.map PyData.int) = some ns
  | [] => rfl
  | n :: r => by
    show (intsD (r.map PyData.int)).map (n :: ·) = _
    rw [intsD_map r]; rfl
@[simp] theorem keyT_ints (ns : List Int) : keyT (.tuple (ns.map PyData.int)) = some ns := intsD_map ns
def valT (kvs : List (List Int × D)) (k : List Int) : Option D := match kvs with
  | [] => none
  | (j, d) :: r => if j = k then some d else valT r k
def hasT (kvs : List (List Int × D)) (k : List Int) : Bool := match kvs with
  | [] => false
  | (j, _) :: r => if j = k then true else hasT r k
section
variable {K : PySem.W.Frag} {B : Hp}
def DitR (K : PySem.W.Frag) (B : Hp) (p : List Int × D) (q : List Key × V) : Prop := p.1.map Sum.inl = q.1 ∧ Dp K B q.2 p.2
theorem inl_inj : ∀ {a b : List Int}, a.map (Sum.inl : Int → Key) = b.map Sum.inl → a = b
  | [], [], _ => rfl
  | [], _ :: _, h => by cases h
  | _ :: _, [], h => by cases h
  | x :: r, y :: t, h => by
    rw [List.map_cons, List.map_cons] at h
    injection h with h1 h2
    rw [Sum.inl.inj h1, inl_inj h2]
theorem keyT_dp {B : Hp} : ∀ {ds : List D} {vs : List V} {ns : List Int}, DpAll K B vs ds → intsD ds = some ns → vs = (ns.map (Sum.inl : Int → Key)).map kV
  | [], _, _, .nil, h => by cases h; rfl
  | d :: ds, _, ns, .cons hd hr, h => by
    cases d <;> simp only [intsD] at h <;> (try cases h)
    rename_i k
    simp only [Option.map_eq_some_iff] at h
    obtain ⟨r, h1, rfl⟩ := h
    cases hd
    rw [keyT_dp hr h1]
    rfl
theorem dit_val : ∀ {kvs : List (List Int × D)} {ws : List (List Key × V)}, Paired (DitR K B) kvs ws → ∀ {k : List Int}, (∀ {d : D}, valT kvs k = some d → ∃ v, valV ws (k.map Sum.inl : List Key) = some v ∧ Dp K B v d) ∧ (valT kvs k = none → valV ws (k.map Sum.inl : List Key) = none) ∧ hasT kvs k = (valV ws (k.map Sum.inl : List Key)).isSome
  | _, _, .nil, _ => ⟨fun h => (by cases h), fun _ => rfl, rfl⟩
  | _, _, @Paired.cons _ _ _ p q r s hp hr, k => by
    obtain ⟨i1, i2, i3⟩ := dit_val hr (k := k)
    by_cases c : p.1 = k
    · have e : q.1 = (k.map Sum.inl : List Key) := by rw [← hp.1, c]
      refine ⟨fun h => ?_, fun h => ?_, ?_⟩
      · unfold valT at h; rw [if_pos c] at h; cases h
        exact ⟨q.2, valV_pos e, hp.2⟩
      · unfold valT at h; rw [if_pos c] at h; cases h
      · rw [valV_pos e]; unfold hasT; rw [if_pos c]; rfl
    · have e : ¬ q.1 = (k.map Sum.inl : List Key) := fun z => c (inl_inj (hp.1.trans z))
      refine ⟨fun h => ?_, fun h => ?_, ?_⟩
      · unfold valT at h; rw [if_neg c] at h
        rw [valV_neg e]; exact i1 h
      · unfold valT at h; rw [if_neg c] at h
        rw [valV_neg e]; exact i2 h
      · rw [valV_neg e]; unfold hasT; rw [if_neg c]; exact i3
theorem dit_app : ∀ {kvs : List (List Int × D)} {ws : List (List Key × V)}, Paired (DitR K B) kvs ws → ∀ (k : List Int) {v : V} {d : D}, Dp K B v d → Paired (DitR K B) (kvs ++ [(k, d)]) (ws ++ [((k.map Sum.inl : List Key), v)])
  | _, _, .nil, _, _, _, h => .cons ⟨rfl, h⟩ .nil
  | _, _, .cons hp hr, k, _, _, h => .cons hp (dit_app hr k h)
theorem dit_any : ∀ (ws : List (List Key × V)) (k : List Key), (ws.any fun kv => decide (kv.1 = k)) = (valV ws k).isSome := fun ws k => valV_any k ws
theorem dit_map : ∀ {kvs : List (List Int × D)} {ws : List (List Key × V)}, Paired (DitR K B) kvs ws → ∀ (k : List Int) {v : V} {d : D}, Dp K B v d → Paired (DitR K B) (kvs.map fun kv => if kv.1 = k then (kv.1, d) else kv) (ws.map fun kv => if kv.1 = (k.map Sum.inl : List Key) then (kv.1, v) else kv)
  | _, _, .nil, _, _, _, _ => .nil
  | _, _, @Paired.cons _ _ _ p q r s hp hr, k, v, d, h => by
    refine .cons ?_ (dit_map hr k h)
    dsimp only
    by_cases c : p.1 = k
    · rw [if_pos c, if_pos (by rw [← hp.1, c])]
      exact ⟨hp.1, h⟩
    · rw [if_neg c, if_neg (by rw [← hp.1]; exact fun z => c (inl_inj z))]
      exact hp
def putM (kvs : List (List Int × D)) (k : List Int) (d : D) : List (List Int × D) := if hasT kvs k = true then kvs.map (fun kv => if kv.1 = k then (kv.1, d) else kv) else kvs ++ [(k, d)]
theorem dit_put {kvs : List (List Int × D)} {ws : List (List Key × V)} (r : Paired (DitR K B) kvs ws) (k : List Int) {v : V} {d : D} (h : Dp K B v d) : Paired (DitR K B) (putM kvs k d) (putK ws (k.map Sum.inl : List Key) v) := by
  unfold putM putK
  rw [dit_any, ← (dit_val r (k := k)).2.2]
  split
  · exact dit_map r k h
  · exact dit_app r k h
theorem DitR.mono {B' : Hp} (s : Same B B') {p : List Int × D} {q : List Key × V} (h : DitR K B p q) : DitR K B' p q := ⟨h.1, dp_mono s h.2⟩
end
section
variable {X : Cx} {E : En} {a b c e tg : Expr} {fa fb fe fk : DX} {fr : DA} {pos : Pos}
theorem ntDit {ws : List (List Key × V)} : NoTbl (.dT ws) := fun _ z => by cases z
theorem key_at {K : PySem.W.Frag} {B : Hp} {v : V} {d : D} {k : List Int} (hd : Dp K B v d) (hk : keyT d = some k) : ∃ p, v = .ref p ∧ B p = some (.tup ((k.map (Sum.inl : Int → Key)).map kV)) := by
  unfold keyT at hk
  split at hk
  · cases hd with
    | @tup p vs ds h r => exact ⟨p, rfl, by rw [h, keyT_dp r hk]⟩
  · cases hk
/-! d[k] -/
def xIxT (i : Nat) (fb : DX) : DX := fun S => match S[i]? with
  | some (.own (.dic _)) => (fb S).bind fun p => match p.2[i]? with
    | some (.own (.dic kvs)) => (keyT p.1).bind fun k => (valT kvs k).map fun z => (z, p.2)
    | _ => none
  | _ => none
theorem d_ixT {i : Nat} (hu : X.A.units + 65 < cLine) (ha : PE X a (tVar i)) (hb : PE X b (up E fb)) (hs : NoSl b := by exact fun _ _ => rfl) : PE X (.Subscript a b pos) (up E (xIxT i fb)) :=
  PE.imp (pe_dget (by omega) ha hb hs) fun σ H Q ⟨B, S, d, S', R, e, k⟩ => by
    unfold xIxT at e
    split at e
    · rename_i ds0 h0
      obtain ⟨a0, o0, es, _⟩ := R.own i _ h0
      refine ⟨_, es, ?_⟩
      simp only [Option.bind_eq_some_iff] at e
      obtain ⟨⟨d2, S2⟩, e2, e3⟩ := e
      split at e3
      · rename_i ds h1
        simp only at h1
        simp only [Option.bind_eq_some_iff, Option.map_eq_some_iff] at e3
        obtain ⟨k0, ek, z, e4, e6⟩ := e3
        cases e6
        refine ⟨B, S, _, _, R, e2, fun y B2 H2 s2 R2 dy => ?_⟩
        obtain ⟨p, rfl, hp⟩ := key_at dy ek
        obtain ⟨a1, o1, es1, _, hH, ⟨ws, rfl, r⟩, _⟩ := R2.own i _ h1
        rw [es] at es1
        cases es1
        obtain ⟨v, h3, h4⟩ := (dit_val r).1 e4
        exact ⟨_, v, rfl, by rw [← h3]; exact DGet.t hH (R2.sub _ _ hp), k v B2 H2 s2 R2 h4⟩
      · cases e3
    · cases e
/-! k in d, k not in d -/
def xInT (neg : Bool) (i : Nat) (fb : DX) : DX := fun S => (fb S).bind fun p => match p.2[i]? with
  | some (.own (.dic kvs)) => (keyT p.1).map fun k => (.bool (hasT kvs k != neg), p.2)
  | _ => none
theorem up_inT {i : Nat} {neg : Bool} {σ : L2.St} {H : Hp} {Q : VK} (h : up E (xInT neg i fb) σ H Q) : (up E fb) σ H fun y H1 => tVar i σ H1 fun x H2 => ∃ a o, x = .ref a ∧ DGet H2 a y o ∧ Q (.bl (o.isSome != neg)) H2 := by
  obtain ⟨B, S, d, S', R, e, k⟩ := h
  unfold xInT at e
  simp only [Option.bind_eq_some_iff] at e
  obtain ⟨⟨d2, S2⟩, e2, e3⟩ := e
  split at e3
  · rename_i ds h1
    simp only at h1
    simp only [Option.map_eq_some_iff] at e3
    obtain ⟨k0, ek, e6⟩ := e3
    cases e6
    refine ⟨B, S, _, _, R, e2, fun y B2 H2 s2 R2 dy => ?_⟩
    obtain ⟨p, rfl, hp⟩ := key_at dy ek
    obtain ⟨a1, o1, es1, _, hH, ⟨ws, rfl, r⟩, _⟩ := R2.own i _ h1
    refine ⟨_, es1, a1, _, rfl, DGet.t hH (R2.sub _ _ hp), ?_⟩
    rw [← (dit_val r (k := k0)).2.2]
    exact k _ B2 H2 s2 R2 (.bl _)
  · cases e3
theorem d_inT {i : Nat} (hu : X.A.units + 65 < cLine) (hb : PE X b (up E fb)) (ha : PE X a (tVar i)) (hm : behindInMarks .In a = false := by with_unfolding_all rfl) : PE X (.Compare b [.In] [a] pos) (up E (xInT false i fb)) :=
  PE.imp (pe_cmp (pc_din (by omega) hb ha) hm) fun σ H Q h => by
    obtain ⟨B, S, d, S', R, e, k⟩ := up_inT h
    refine ⟨B, S, d, S', R, e, fun v B' H' s' R' dv => ?_⟩
    obtain ⟨x, e1, a, o, e2, g, q⟩ := k v B' H' s' R' dv
    exact ⟨x, e1, a, o, e2, g, by simpa using q⟩
theorem d_notInT {i : Nat} (hu : X.A.units + 65 < cLine) (hb : PE X b (up E fb)) (ha : PE X a (tVar i)) (hm : behindInMarks .NotIn a = false := by with_unfolding_all rfl) : PE X (.Compare b [.NotIn] [a] pos) (up E (xInT true i fb)) :=
  PE.imp (pe_cmp (pc_dnotin (by omega) hb ha) hm) fun σ H Q h => by
    obtain ⟨B, S, d, S', R, e, k⟩ := up_inT h
    refine ⟨B, S, d, S', R, e, fun v B' H' s' R' dv => ?_⟩
    obtain ⟨x, e1, a, o, e2, g, q⟩ := k v B' H' s' R' dv
    exact ⟨x, e1, a, o, e2, g, by simpa using q⟩
theorem t_inT {i : Nat} (hu : X.A.units + 65 < cLine) (hb : PE X b (up E fb)) (ha : PE X a (tVar i)) (hm : behindInMarks .In a = false := by with_unfolding_all rfl) : PT X (.Compare b [.In] [a] pos) (upT E (xT (xInT false i fb))) :=
  PT.imp (pt_cmp (pc_din (by omega) hb ha) hm) fun σ H Q h => by
    obtain ⟨B, S, d, S', R, e, k⟩ := up_inT (upT_up h)
    refine ⟨B, S, d, S', R, e, fun v B' H' s' R' dv => ?_⟩
    obtain ⟨x, e1, a, o, e2, g, b, q1, q2⟩ := k v B' H' s' R' dv
    exact ⟨x, e1, a, o, e2, g, _, rfl, by cases q1; simpa using q2⟩
theorem t_notInT {i : Nat} (hu : X.A.units + 65 < cLine) (hb : PE X b (up E fb)) (ha : PE X a (tVar i)) (hm : behindInMarks .NotIn a = false := by with_unfolding_all rfl) : PT X (.Compare b [.NotIn] [a] pos) (upT E (xT (xInT true i fb))) :=
  PT.imp (pt_cmp (pc_dnotin (by omega) hb ha) hm) fun σ H Q h => by
    obtain ⟨B, S, d, S', R, e, k⟩ := up_inT (upT_up h)
    refine ⟨B, S, d, S', R, e, fun v B' H' s' R' dv => ?_⟩
    obtain ⟨x, e1, a, o, e2, g, b, q1, q2⟩ := k v B' H' s' R' dv
    exact ⟨x, e1, a, o, e2, g, _, rfl, by cases q1; simpa using q2⟩
/-! d[k] = e -/
def sSetT (i : Nat) (fk fe : DX) : SX := fun S => (fe S).bind fun p => match p.2[i]? with
  | some (.own (.dic _)) => (fk p.2).bind fun q => match q.2[i]? with
    | some (.own (.dic kvs)) => (keyT q.1).bind fun k => if kvs.length < 100000 then some (.nx (q.2.set i (.own (.dic (putM kvs k p.1))))) else none
    | _ => none
  | _ => none
theorem s_setT {i : Nat} {o kx : Expr} {fk : DX} {tpos : Pos} (ho : PE X o (tVar i)) (hk : PE X kx (up E fk)) (he : PE X e (up E fe))
    (hg : PG X (.Subscript o kx tpos) (L2.gSub (tVar i) (up E fk) rSetD))
    (hs : swapsWithSole [.Subscript o kx tpos] e pos.line X.env = pure false := by rfl) (hw : swappedStores [.Subscript o kx tpos] e X.env = pure none := by rfl)
    (h1 : (assignEach [.Subscript o kx tpos] X.env).map (·.2) = [assign (.Subscript o kx tpos) X.env] := by rfl) : PS X (.Assign [.Subscript o kx tpos] e pos) (upS E (sSetT i fk fe)) :=
  PS.imp (ps_asg he hg hs hw h1) fun σ H D ⟨B, S, r, R, e, k⟩ => by
    unfold sSetT at e
    simp only [Option.bind_eq_some_iff] at e
    obtain ⟨⟨d, S1⟩, e1, e2⟩ := e
    split at e2
    · rename_i ds0 h0
      simp only at h0
      simp only [Option.bind_eq_some_iff] at e2
      obtain ⟨⟨d2, S2⟩, e3, e4⟩ := e2
      split at e4
      · rename_i kvs h1
        simp only at h1
        simp only [Option.bind_eq_some_iff] at e4
        obtain ⟨k0, ek, e4⟩ := e4
        split at e4
        · rename_i hl
          cases e4
          refine ⟨B, S, d, S1, R, e1, fun v B1 H1 s1 R1 dv => ?_⟩
          obtain ⟨a0, o0, g1, g2, g3, ⟨vs0, g4, _⟩, _⟩ := R1.own i _ h0
          refine ⟨_, g1, B1, S1, _, S2, R1, e3, fun y B2 H2 s2 R2 dy => ?_⟩
          obtain ⟨p, rfl, hp⟩ := key_at dy ek
          obtain ⟨a1, o1, f1, f2, f3, ⟨ws, f4, f5⟩, _⟩ := R2.own i _ h1
          rw [g1] at f1
          cases f1
          subst f4
          refine ⟨_, _, rfl, DPut.t f3 (R2.sub _ _ hp) (by rw [← f5.length]; exact line_lt (Nat.le_of_lt hl)), ?_⟩
          exact k σ B2 _ (s1.trans s2) (R2.write h1 g1 ⟨_, rfl, dit_put f5 k0 (dp_mono s2 dv)⟩)
        · cases e4
      · cases e4
    · cases e2
/-! d.get(k, e) -/
def xGetT (i : Nat) (fk fe : DX) : DX := fun S => match S[i]? with
  | some (.own (.dic _)) => (fk S).bind fun p => (fe p.2).bind fun q => match q.2[i]? with
    | some (.own (.dic kvs)) => (keyT p.1).map fun k => ((valT kvs k).getD q.1, q.2)
    | _ => none
  | _ => none
theorem d_getT {i : Nat} {apos cpos : Pos} (hu : X.A.units + 65 < cLine) (ha : PE X a (tVar i)) (hb : PE X b (up E fb)) (hc : PE X c (up E fe)) (m : M2 X a "get" apos b c cpos) : PE X (.Call (.Attribute a "get" apos) [b, c] [] cpos) (up E (xGetT i fb fe)) :=
  PE.imp (pe_dget2 (by omega) ha hb hc m) fun σ H Q ⟨B, S, d, S', R, e, k⟩ => by
    unfold xGetT at e
    split at e
    · rename_i ds0 h0
      obtain ⟨a0, o0, es, _, hH0, ⟨ws0, rfl, _⟩, _⟩ := R.own i _ h0
      simp only [Option.bind_eq_some_iff] at e
      obtain ⟨⟨d2, S2⟩, e2, ⟨d3, S3⟩, e3, e4⟩ := e
      split at e4
      · rename_i ds h1
        simp only at h1
        simp only [Option.map_eq_some_iff] at e4
        obtain ⟨k0, ek, e6⟩ := e4
        cases e6
        refine ⟨_, es, _, rfl, .inr ⟨_, .inl hH0⟩, B, S, _, _, R, e2, fun y B2 H2 s2 R2 dy => ⟨B2, S2, _, _, R2, e3, fun z B3 H3 s3 R3 dz => ?_⟩⟩
        obtain ⟨p, rfl, hp⟩ := key_at (dp_mono s3 dy) ek
        obtain ⟨a1, o1, es1, _, hH, ⟨ws, rfl, r⟩, _⟩ := R3.own i _ h1
        rw [es] at es1
        cases es1
        refine ⟨_, DGet.t hH (R3.sub _ _ hp), ?_⟩
        cases hv : valT ds k0 with
        | none =>
          rw [(dit_val r).2.1 hv]
          rw [hv] at k
          exact k z B3 H3 (s2.trans s3) R3 dz
        | some w =>
          obtain ⟨v, h3, h4⟩ := (dit_val r).1 hv
          rw [h3]
          rw [hv] at k
          exact k v B3 H3 (s2.trans s3) R3 h4
      · cases e4
    · cases e
/-! x = {} -/
def sNewT (i : Nat) : SX := fun S => if i < S.length then some (.nx (S.set i (.own (.dic [])))) else none
theorem s_newT {i : Nat} {x : Str} {pos' pos2 : Pos} (hp : ∀ q ∈ E.pa, q.1 ≠ i) (hN : X.N.Nodup) (hi : X.N[i]? = some x) (hx : Loc X.env.scope x)
    (hs : swapsWith (.Dict [] [] pos2) (some (.Name x pos')) pos.line X.env = pure false := by rfl) (hf : X.fn x = true ∨ X.env.scope.names.lookup x = some .local := by first | exact .inl rfl | exact .inr rfl | assumption) :
    PS X (.Assign [.Name x pos'] (.Dict [] [] pos2) pos) (upS E (sNewT i)) :=
  PS.imp (ps_set hN hi hx pe_dnewT hs hf) fun σ H D ⟨B, S, r, R, e, k⟩ => by
    unfold sNewT at e
    split at e
    · rename_i hl
      cases e
      intro q hq
      exact k _ B _ (Same.refl B) ((R.fresh hq ntDit).setOwn (h0_of R hq) (R.sub.free hq) upd_same ⟨_, rfl, .nil⟩ (own_ne R hq) hp hl)
    · cases e
end
end BC
set_option Elab.async false
set_option linter.all false
set_option maxRecDepth 100000
set_option maxHeartbeats 2000000
namespace BC
open PySem PySem.Spec PyProof.Rows L2 GxR
/-! ### calls: an own object at any place, a new one last -/
abbrev DM := SS → Option ((List D × List D) × SS)
def upM (E : En) (i : Nat) (g : DM) : TA := fun σ H Q => ∃ B S pq S', Rep E B H σ S ∧ g S = some (pq, S') ∧ ∀ us a ws B' H', Same B B' → Rep E B' H' σ S' → DpAll E.K B' us pq.1 → DpAll E.K B' ws pq.2 → σ[i]? = some (some (V.ref a)) → Q (us ++ V.ref a :: ws) H'
def upF (E : En) (o : HO) (g : DA) : TA := fun σ H Q => ∃ B S ds S', Rep E B H σ S ∧ g S = some (ds, S') ∧ ∀ us a B' H', Same B B' → Rep E B' H' σ S' → DpAll E.K B' us ds → H' a = none → Q (us ++ [V.ref a]) (upd H' a o)
def yOwn (i : Nat) (fr : DA) : DM := fun S => match S[i]? with
  | some (.own _) => (fr S).map fun p => (([], p.1), p.2)
  | _ => none
def yPre (fe : DX) (g : DM) : DM := fun S => (fe S).bind fun p => (g p.2).map fun q => ((p.1 :: q.1.1, q.1.2), q.2)
section
variable {X : Cx} {E : En} {a b c e : Expr} {es : List Expr} {fa fb fc fe : DX} {fr fl : DA} {pos : Pos} {σ : L2.St} {S : SS} {B H : Hp}
theorem m_own {i : Nat} {g : DA} (ho : PE X e (tVar i)) (ha : PA X es (upA E g)) (he : starEach (e :: es) X.env = (false, eval e X.env) :: starEach es X.env := by rfl) : PA X (e :: es) (upM E i (yOwn i g)) :=
  PA.imp (pa_cons ho ha he) fun σ H Q ⟨B, S, pq, S', R, e, k⟩ => by
    unfold yOwn at e
    split at e
    · rename_i c0 h0
      obtain ⟨a, o, g1, _⟩ := R.own i c0 h0
      simp only [Option.map_eq_some_iff] at e
      obtain ⟨⟨ds, S1⟩, e1, e2⟩ := e
      cases e2
      exact ⟨_, g1, B, S, ds, S1, R, e1, fun ws B1 H1 s1 R1 dv => k [] a ws B1 H1 s1 R1 .nil dv g1⟩
    · cases e
theorem m_pre {i : Nat} {g : DM} (hx : PE X e (up E fe)) (ha : PA X es (upM E i g)) (he : starEach (e :: es) X.env = (false, eval e X.env) :: starEach es X.env := by rfl) : PA X (e :: es) (upM E i (yPre fe g)) :=
  PA.imp (pa_cons hx ha he) fun σ H Q ⟨B, S, pq, S', R, e, k⟩ => by
    unfold yPre at e
    simp only [Option.bind_eq_some_iff, Option.map_eq_some_iff] at e
    obtain ⟨⟨d1, S1⟩, e1, ⟨⟨p, q⟩, S2⟩, e2, e3⟩ := e
    cases e3
    exact ⟨B, S, d1, S1, R, e1, fun v B1 H1 s1 R1 dv => ⟨B1, S1, (p, q), S2, R1, e2, fun us a ws B2 H2 s2 R2 du dw hσ => k (v :: us) a ws B2 H2 (s1.trans s2) R2 (.cons (dp_mono s2 dv) du) dw hσ⟩⟩
theorem f_newT (he : starEach ([.Dict [] [] pos] : List Expr) X.env = (false, eval (.Dict [] [] pos) X.env) :: starEach [] X.env := by rfl) : PA X [.Dict [] [] pos] (upF E (.dT []) yNil) :=
  PA.imp (pa_cons pe_dnewT pa_nil he) fun σ H Q ⟨B, S, ds, S', R, e, k⟩ => by
    cases e
    intro p hp
    exact k [] p B H (Same.refl B) R .nil hp
theorem f_pre {o : HO} {g : DA} (hx : PE X e (up E fe)) (ha : PA X es (upF E o g)) (he : starEach (e :: es) X.env = (false, eval e X.env) :: starEach es X.env := by rfl) : PA X (e :: es) (upF E o (yCons fe g)) :=
  PA.imp (pa_cons hx ha he) fun σ H Q ⟨B, S, ds, S', R, e, k⟩ => by
    unfold yCons at e
    simp only [Option.bind_eq_some_iff, Option.map_eq_some_iff] at e
    obtain ⟨⟨d1, S1⟩, e1, ⟨ds2, S2⟩, e2, e3⟩ := e
    cases e3
    exact ⟨B, S, d1, S1, R, e1, fun v B1 H1 s1 R1 dv => ⟨B1, S1, ds2, S2, R1, e2, fun us a B2 H2 s2 R2 du ha => k (v :: us) a B2 H2 (s1.trans s2) R2 (.cons (dp_mono s2 dv) du) ha⟩⟩
/-- f(e, .., name, e, ..), the name's own object at place j of n -/
def xFnJ (f : FD) (n j i : Nat) (g : DM) : DX := fun S => (g S).bind fun p => match p.2[i]? with
  | some (.own c) => if p.1.1.length = j ∧ j + 1 + p.1.2.length = n then (f (p.1.1.map .val ++ .own c :: p.1.2.map .val)).bind fun q => match q.2[j]? with
      | some (.own c') => some (q.1, p.2.set i (.own c'))
      | _ => none
    else none
  | _ => none
theorem d_callJ {x : Str} {p : Pos} {k i j : Nat} {gd : Addr} {fd : FuncData} {ps : List Str} {ow : List Nat} {f : FD} {T : List Addr} {g : DM} {n : Nat} (F : FnK X.prog X.w X.K X.mg X.base T k gd fd ps ow f) (hK : X.K = E.K) (hT : E.T = T) (hr : Room k X.A) (hg : Gl X x) (hm : X.mg x = some (.ref gd)) (hk : PySem.W.keepIn X.K (.ref gd) = true) (hb : Binds X.K fd ps [])
    (hnp : ps.length = n) (h0w : j ∈ ow) (ha : PA X (e :: es) (upM E i g)) (hdb : (x == ("__debug__" : Str)) = false := by decide) (he : starEach (e :: es) X.env = (false, eval e X.env) :: starEach es X.env := by rfl) (hpl : (backTo pos (starEach es X.env)).any (·.1) = false := by rfl) :
    PE X (.Call (.Name x p) (e :: es) [] pos) (up E (xFnJ f n j i g)) := by
  subst hnp
  exact PE.imp (pe_call F hr hg hm hk hb .nil pass0 ha hdb he hpl) fun σ H Q ⟨B, S, d, S', R, e, kk⟩ => by
    unfold xFnJ at e
    simp only [Option.bind_eq_some_iff] at e
    obtain ⟨⟨⟨us0, ws0⟩, S1⟩, e1, e2⟩ := e
    split at e2
    · rename_i c1 h1
      simp only at h1
      split at e2
      · rename_i hn
        obtain ⟨hj, hn⟩ := hn
        simp only at hj hn
        simp only [Option.bind_eq_some_iff] at e2
        obtain ⟨⟨d1, outs⟩, e3, e4⟩ := e2
        split at e4
        · rename_i c2 h2
          cases e4
          refine ⟨B, S, (us0, ws0), S1, R, e1, fun us a ws B1 H1 s1 R1 du dw hσ => ?_⟩
          show FnD X.K T ps.length ow f (us ++ V.ref a :: ws ++ []) H1 Q E0
          rw [List.append_nil]
          have hlu := dpAll_len du
          simp only at hlu
          have RO := R1.enterO du dw h1 hσ
          simp only at RO
          rw [hj] at RO
          refine ⟨⟨E.K, B1, H1, E.T, [(j, a)]⟩, us0.map .val ++ .own c1 :: ws0.map .val, _, outs, hK.symm, hT, rfl, ?_, fun n c h => ?_, fun n c x h hv => ?_, RO, e3, fun v B' H' s' R' dv' => kk v B' H' (s1.trans s') (R1.backO h1 hσ R' h2) dv'⟩
          · simp only [List.length_append, List.length_cons, List.length_map]
            omega
          · by_cases hnj : n < us0.length
            · rw [List.getElem?_append_left (by simpa using hnj), List.getElem?_map, Option.map_eq_some_iff] at h
              obtain ⟨_, _, h2⟩ := h
              cases h2
            · rw [List.getElem?_append_right (by simpa using hnj), List.length_map] at h
              by_cases hz : n = us0.length
              · rw [hz, hj]; exact h0w
              · obtain ⟨m, hm⟩ : ∃ m, n - us0.length = m + 1 := ⟨n - us0.length - 1, by omega⟩
                rw [hm, List.getElem?_cons_succ, List.getElem?_map, Option.map_eq_some_iff] at h
                obtain ⟨_, _, h2⟩ := h
                cases h2
          · by_cases hnj : n < us0.length
            · rw [List.getElem?_append_left (by simpa using hnj), List.getElem?_map, Option.map_eq_some_iff] at h
              obtain ⟨_, _, h2⟩ := h
              cases h2
            · rw [List.getElem?_append_right (by simpa using hnj), List.length_map] at h
              by_cases hz : n = us0.length
              · rw [hz, ← hlu, List.getElem?_append_right (Nat.le_refl _), Nat.sub_self] at hv
                simp at hv
                subst hv
                rw [hz, hj]
                exact List.mem_singleton.mpr rfl
              · obtain ⟨m, hm⟩ : ∃ m, n - us0.length = m + 1 := ⟨n - us0.length - 1, by omega⟩
                rw [hm, List.getElem?_cons_succ, List.getElem?_map, Option.map_eq_some_iff] at h
                obtain ⟨_, _, h2⟩ := h
                cases h2
        · cases e4
      · cases e2
    · cases e2
/-! the new object -/
theorem Rep.enterN (R : Rep E B H σ S) {pre : List D} {us : List V} {a : Addr} {o : HO} {c : Cell} (h1 : DpAll E.K B us pre) (ha : H a = none) (ho : NoTbl o) (hc : CellR E.K B c o) :
    Rep ⟨E.K, B, upd H a o, E.T, [(pre.length, a)]⟩ B (upd H a o) ((us ++ [V.ref a]).map some) (pre.map .val ++ [.own c]) := by
  have R1 := (R.fresh ha ho).extend 1
  have hlen := R.len
  have hS : ∀ (j : Nat) c', (S ++ List.replicate 1 Slot.no)[j]? = some (Slot.own c') → (σ ++ List.replicate 1 none)[j]? ≠ some (some (V.ref a)) := fun j c' h => by
    by_cases hj : j < S.length
    · rw [List.getElem?_append_left hj] at h
      rw [List.getElem?_append_left (by omega)]
      exact own_ne R ha j c' h
    · rw [List.getElem?_append_right (by omega), List.getElem?_replicate] at h
      split at h <;> cases h
  have R2 := R1.setOwn (i := S.length) (c := c) (h0_of R ha) (R.sub.free ha) upd_same hc hS (fun q hq z => by
    obtain ⟨_, c', h2⟩ := R.par q hq
    have := (List.getElem?_eq_some_iff.mp h2).1
    omega) (by simp)
  have hi : ((S ++ List.replicate 1 Slot.no).set S.length (Slot.own c))[S.length]? = some (.own c) := by
    rw [List.getElem?_set_self (by simp)]
  have hσ : ((σ ++ List.replicate 1 none).set S.length (some (V.ref a)))[S.length]? = some (some (V.ref a)) := by
    rw [List.getElem?_set_self (by simp [hlen])]
  exact R2.enterO (post := []) (ws := []) h1 .nil hi hσ
theorem Rep.backN {B' H' : Hp} {σc : L2.St} {outs : SS} {j : Nat} {a : Addr} {o : HO} (R : Rep E B H σ S) (ha : H a = none) (Rc : Rep ⟨E.K, B, upd H a o, E.T, [(j, a)]⟩ B' H' σc outs) : Rep E B' H' σ S := by
  have ne : ∀ {p : Addr}, H p ≠ none → p ≠ a := fun h z => h (by rw [z]; exact ha)
  have up1 : ∀ {p : Addr}, H p ≠ none → (upd H a o) p ≠ none := fun h => by rw [upd_ne (ne h)]; exact h
  refine ⟨R.base.trans Rc.base, Rc.sub, fun p h nt => (Rc.new p (up1 (R.keep p h)) nt).trans (R.new p h fun xs z => nt xs (Rc.frame p _ (by show upd H a o p = _; rw [upd_ne (ne (by rw [z]; simp))]; exact z) ntTup fun n q => ne (by rw [z]; simp) (Prod.mk.inj (show (n, p) = (j, a) by simpa using q)).2)), fun p x h h1 h2 => ?_, fun p h => Rc.keep p (up1 (R.keep p h)), Rc.tabs, R.par, R.len, fun i d h => ?_, fun i c h => ?_, R.sep⟩
  · have z := R.frame p x h h1 h2
    have hne : p ≠ a := ne (by rw [z]; simp)
    exact Rc.frame p x (by show upd H a o p = _; rw [upd_ne hne]; exact z) h1 fun n q => hne (Prod.mk.inj (show (n, p) = (j, a) by simpa using q)).2
  · obtain ⟨v, g1, g2⟩ := R.val i d h
    exact ⟨v, g1, dp_mono Rc.base g2⟩
  · obtain ⟨x, u, g1, g2, g3, g4, g5⟩ := R.own i c h
    have hne : x ≠ a := ne (by rw [g3]; simp)
    have fx := Rc.frame x u (by show upd H a o x = _; rw [upd_ne hne]; exact g3) (cellR_no g4) (fun n q => hne (Prod.mk.inj (show (n, x) = (j, a) by simpa using q)).2)
    exact ⟨x, u, g1, (Rc.new x (up1 (by rw [g3]; simp)) fun xs z => cellR_nt g4 xs (Option.some.inj (fx.symm.trans z))).trans g2, fx, cellR_mono Rc.base g4, g5⟩
/-- f(e, .., {}) -/
def xFnN (f : FD) (n : Nat) (c : Cell) (fr : DA) : DX := fun S => (fr S).bind fun p => if p.1.length + 1 = n then (f (p.1.map .val ++ [.own c])).map fun q => (q.1, p.2) else none
theorem d_callN {x : Str} {p : Pos} {k : Nat} {gd : Addr} {fd : FuncData} {ps : List Str} {ow : List Nat} {f : FD} {T : List Addr} {fr : DA} {o : HO} {cl : Cell} {n : Nat} (F : FnK X.prog X.w X.K X.mg X.base T k gd fd ps ow f) (hK : X.K = E.K) (hT : E.T = T) (hr : Room k X.A) (hg : Gl X x) (hm : X.mg x = some (.ref gd)) (hk : PySem.W.keepIn X.K (.ref gd) = true) (hb : Binds X.K fd ps [])
    (hnp : ps.length = n) (h0w : n - 1 ∈ ow) (ho : NoTbl o) (hc : ∀ B, CellR E.K B cl o) (ha : PA X (e :: es) (upF E o fr)) (hdb : (x == ("__debug__" : Str)) = false := by decide) (he : starEach (e :: es) X.env = (false, eval e X.env) :: starEach es X.env := by rfl) (hpl : (backTo pos (starEach es X.env)).any (·.1) = false := by rfl) :
    PE X (.Call (.Name x p) (e :: es) [] pos) (up E (xFnN f n cl fr)) := by
  subst hnp
  exact PE.imp (pe_call F hr hg hm hk hb .nil pass0 ha hdb he hpl) fun σ H Q ⟨B, S, d, S', R, e, kk⟩ => by
    unfold xFnN at e
    simp only [Option.bind_eq_some_iff] at e
    obtain ⟨⟨us0, S1⟩, e1, e2⟩ := e
    split at e2
    · rename_i hn
      simp only at hn
      simp only [Option.map_eq_some_iff] at e2
      obtain ⟨⟨d1, outs⟩, e3, e4⟩ := e2
      cases e4
      refine ⟨B, S, us0, _, R, e1, fun us a B1 H1 s1 R1 du ha => ?_⟩
      show FnD X.K T ps.length ow f (us ++ [V.ref a] ++ []) (upd H1 a o) Q E0
      rw [List.append_nil]
      have hlu := dpAll_len du
      have RO := R1.enterN du ha ho (hc B1)
      refine ⟨⟨E.K, B1, upd H1 a o, E.T, [(us0.length, a)]⟩, us0.map .val ++ [.own cl], _, outs, hK.symm, hT, rfl, ?_, fun n c h => ?_, fun n c x h hv => ?_, RO, e3, fun v B' H' s' R' dv' => kk v B' H' (s1.trans s') (R1.backN ha R') dv'⟩
      · simp only [List.length_append, List.length_cons, List.length_map, List.length_nil]
        omega
      · by_cases hnj : n < us0.length
        · rw [List.getElem?_append_left (by simpa using hnj), List.getElem?_map, Option.map_eq_some_iff] at h
          obtain ⟨_, _, h2⟩ := h
          cases h2
        · have := (List.getElem?_eq_some_iff.mp h).1
          simp only [List.length_append, List.length_cons, List.length_map, List.length_nil] at this
          have hz : n = ps.length - 1 := by omega
          rw [hz]; exact h0w
      · by_cases hnj : n < us0.length
        · rw [List.getElem?_append_left (by simpa using hnj), List.getElem?_map, Option.map_eq_some_iff] at h
          obtain ⟨_, _, h2⟩ := h
          cases h2
        · have := (List.getElem?_eq_some_iff.mp h).1
          simp only [List.length_append, List.length_cons, List.length_map, List.length_nil] at this
          have hz : n = us0.length := by omega
          rw [hz, ← hlu, List.getElem?_append_right (Nat.le_refl _), Nat.sub_self] at hv
          simp at hv
          subst hv
          rw [hz]
          exact List.mem_singleton.mpr rfl
    · cases e2
end
end BC
set_option Elab.async false
set_option linter.all false
set_option maxRecDepth 100000
set_option maxHeartbeats 2000000
namespace BC
open PySem PySem.Spec PyProof.Rows L2 GxR
/-! ### comprehensions with two fors -/
def runLc2 (st : D → SS → Option SS) (tt : DT) (fs1 : DA) (st1 : D → SS → Option SS) (tt1 : DT) (te : DX) (vs vs1 : List Nat) : List D → List D → SS → Option (List D × SS)
  | [], acc, S => some (acc, S)
  | d :: ds, acc, S => (st d S).bind fun S1 => (tt S1).bind fun b => if b.1 = true then (fs1 b.2).bind fun q => (runLc st1 tt1 te vs1 q.1 acc (wipeS q.2 vs1)).bind fun r => runLc2 st tt fs1 st1 tt1 te vs vs1 ds r.1 (wipeS r.2 vs)
    else runLc2 st tt fs1 st1 tt1 te vs vs1 ds acc (wipeS b.2 vs)
def yLc2 (fs : DA) (st : D → SS → Option SS) (tt : DT) (fs1 : DA) (st1 : D → SS → Option SS) (tt1 : DT) (te : DX) (vs vs1 : List Nat) : DA := fun S => (fs S).bind fun p => (runLc2 st tt fs1 st1 tt1 te vs vs1 p.1 [] (wipeS p.2 vs)).map fun q => (q.1, restS p.2 q.2 vs)
section
variable {X : Cx} {E : En} {a b c e : Expr} {es : List Expr} {fa fb fc fe : DX} {fr fl : DA} {pos : Pos} {σ : L2.St} {S : SS} {B H : Hp}
def upIH (E : En) (f : DA) : TI := fun σ H R => ∃ p o, upI (E.hold p o) f σ H R
theorem pi_H {tg e : Expr} {f : DA} (h : ∀ p o, PI X tg e (upI (E.hold p o) f)) : PI X tg e (upIH E f) := ⟨fun pins s σ H R I ⟨p, o, q⟩ => (h p o).run pins s σ H R I q⟩
theorem lc_in {J : It} {g : TG} {st : D → SS → Option SS} {tt : DT} {te : DX} {vs : List Nat} {ds acc accE : List D} {S6 S7 : SS} {p : Addr} {ws0 : List V} {Nx : Hp → Prop} (hg : ∀ p o, TgV vs (E.hold p o) g st) (hp : ∀ q ∈ E.pa, q.1 ∉ vs) (z0 : E.H0 p = none) (zB0 : E.B0 p = none) (npa : ∀ j, (j, p) ∉ E.pa)
    (hJ : ItD E.K B J ds) (R1 : Rep (E.hold p (.lst ws0)) B H σ S6) (da0 : DpAll E.K B ws0 acc) (e2 : runLc st tt te vs ds acc (wipeS S6 vs) = some (accE, S7))
    (hNx : ∀ B' H' ws, Same B B' → Rep (E.hold p (.lst ws)) B' H' (wipe σ vs) S7 → DpAll E.K B' ws accE → Nx H') :
    ∃ W1 : Nat → Nat → Hp → Prop, (∃ m, W1 0 m H) ∧ ∀ j k H, W1 j k H →
      (J.stop j H ∧ Nx H) ∨ (J.go j H ∧ ∃ Nx1 : Hp → Prop, (∀ H', Nx1 H' → ∃ k', k' < k ∧ W1 (j + 1) k' H') ∧ ∀ x H', J.yld j H x H' → g x (wipe σ vs) H' fun σ3 H5 => wipe σ3 vs = wipe σ vs ∧ (upHT E tt) σ3 H5 fun b H6 =>
        if b = true then (upH E te) σ3 H6 fun y H7 => ∃ acc, H7 p = some (.lst acc) ∧ acc.length < sizeLine ∧ Nx1 (upd H7 p (.lst (acc ++ [y]))) else Nx1 H6) := by
  refine ⟨fun i m H => m = ds.length - i ∧ i ≤ ds.length ∧ ∃ B' S acc ws, Same B B' ∧ Rep (E.hold p (.lst ws)) B' H (wipe σ vs) S ∧ DpAll E.K B' ws acc ∧ runLc st tt te vs (ds.drop i) acc S = some (accE, S7), ⟨ds.length, by simp, Nat.zero_le _, B, _, acc, ws0, Same.refl B, R1.wiped hp, da0, e2⟩, ?_⟩
  rintro i m H ⟨rfl, hi', B2, S3, acc, ws, s2, R2, da, er⟩
  by_cases hlt : i < ds.length
  · have hd : ds[i]? = some ds[i] := List.getElem?_eq_getElem hlt
    rw [drop_cons hd] at er
    unfold runLc at er
    simp only [Option.bind_eq_some_iff] at er
    obtain ⟨S4, er1, ⟨bb, S5⟩, er2, er3⟩ := er
    refine .inr ⟨hJ.go i H (s2.trans R2.sub) hlt, fun H' => ∃ B' S acc ws, Same B B' ∧ Rep (E.hold p (.lst ws)) B' H' (wipe σ vs) S ∧ DpAll E.K B' ws acc ∧ runLc st tt te vs (ds.drop (i + 1)) acc S = some (accE, S7),
      fun H' ⟨B', S', acc', ws', h1, h2, h3, h4⟩ => ⟨ds.length - (i + 1), by omega, rfl, hlt, B', S', acc', ws', h1, h2, h3, h4⟩, fun x H' y => ?_⟩
    have fin : ∀ (B' H' : Hp), Same B2 B' → Rep (E.hold p (.lst ws)) B' H' (wipe σ vs) S3 → Dp E.K B' x ds[i] → g x (wipe σ vs) H' fun σ2 H2 => wipe σ2 vs = wipe σ vs ∧ upHT E tt σ2 H2 fun b H3 =>
        if b = true then upH E te σ2 H3 fun y H4 => ∃ acc, H4 p = some (.lst acc) ∧ acc.length < sizeLine ∧ ∃ B' S acc' ws, Same B B' ∧ Rep (E.hold p (.lst ws)) B' (upd H4 p (.lst (acc ++ [y]))) (wipe σ vs) S ∧ DpAll E.K B' ws acc' ∧ runLc st tt te vs (ds.drop (i + 1)) acc' S = some (accE, S7)
        else ∃ B' S acc ws, Same B B' ∧ Rep (E.hold p (.lst ws)) B' H3 (wipe σ vs) S ∧ DpAll E.K B' ws acc ∧ runLc st tt te vs (ds.drop (i + 1)) acc S = some (accE, S7) := fun B' H' sB R' dx => by
      refine hg p _ x _ (wipe σ vs) B' H' S3 S4 _ R' dx er1 fun σ2 R3 hl hf => ?_
      have hw : wipe σ2 vs = wipe σ vs := by
        rw [wipe_wipe hl hf]
        exact wipe_wipe (wipe_length _ _) fun j hj => by rw [wipe_get, if_neg fun z => hj z.1]
      refine ⟨hw, p, _, B', S4, bb, S5, R3, er2, fun B3 H3 s3 R4 => ?_⟩
      cases bb with
      | true =>
        simp only [if_true, Option.bind_eq_some_iff] at er3
        obtain ⟨⟨yd, S6⟩, er4, er5⟩ := er3
        split at er5
        · rename_i hsz
          refine iteT ⟨p, _, B3, S5, yd, S6, R4, er4, fun yv B4 H4 s4 R5 dy => ?_⟩
          obtain ⟨_, hH, _⟩ := R5.unhold z0 zB0 npa ntLst
          have da4 : DpAll E.K B4 ws acc := dpAll_mono ((sB.trans s3).trans s4) da
          refine ⟨ws, hH, by rw [dpAll_len da4]; exact line_lt (Nat.le_of_lt hsz), B4, _, acc ++ [yd], ws ++ [yv], ((s2.trans sB).trans s3).trans s4, ?_, dpAll_app da4 (.cons dy .nil), er5⟩
          rw [← hw]
          exact (R5.rehold z0 zB0 npa ntLst ntLst).wiped hp
        · cases er5
      | false =>
        simp at er3
        refine iteF ⟨B3, _, acc, ws, (s2.trans sB).trans s3, ?_, dpAll_mono (sB.trans s3) da, er3⟩
        rw [← hw]
        exact R4.wiped hp
    rcases hJ.yld i H x H' _ (s2.trans R2.sub) hd y with ⟨rfl, dx⟩ | ⟨T, ws', es, rfl, hT, rfl, ed, de⟩
    · exact fin B2 H' (Same.refl B2) R2 (dp_mono s2 dx)
    · obtain ⟨s4, R4, d4⟩ := new_tup R2 hT (dpAll_mono s2 de)
      exact fin _ _ s4 R4 (by rw [ed]; exact d4)
  · have hi2 : i = ds.length := by omega
    subst hi2
    rw [List.drop_length] at er
    unfold runLc at er
    cases er
    exact .inl ⟨hJ.stop _ H (s2.trans R2.sub) (Nat.le_refl _), hNx B2 H ws s2 R2 da⟩
theorem lc2_imp {wi : TI} {g g1 : TG} {st st1 : D → SS → Option SS} {tt tt1 : DT} {te : DX} {vs vs1 : List Nat} {fs fs1 : DA} (hi : ∀ σ H R, upI E fs σ H R → wi σ H R) (hg : ∀ p o, TgV vs (E.hold p o) g st) (hg1 : ∀ p o, TgV vs1 (E.hold p o) g1 st1) (hv : ∀ i ∈ vs1, i ∈ vs) (hp : ∀ q ∈ E.pa, q.1 ∉ vs) {Q : VK} (h : upL E (yLc2 fs st tt fs1 st1 tt1 te vs vs1) σ H Q) :
    tLc2 wi g (upHT E tt) (upIH E fs1) g1 (upHT E tt1) (upH E te) vs vs1 σ H Q := by
  obtain ⟨B, S, ds, S', R, e, k⟩ := h
  unfold yLc2 at e
  simp only [Option.bind_eq_some_iff, Option.map_eq_some_iff] at e
  obtain ⟨⟨src, S1⟩, e1, ⟨ds', S2⟩, e2, e3⟩ := e
  cases e3
  have hp1 : ∀ q ∈ E.pa, q.1 ∉ vs1 := fun q hq z => hp q hq (hv _ z)
  refine hi σ H _ ⟨B, S, src, S1, R, e1, fun J B1 H1 s1 R1 hJ p hpn => ?_⟩
  have z0 := h0_of R1 hpn
  have zB0 : E.B0 p = none := R1.base.free (R1.sub.free hpn)
  have npa := no_pa R1 hpn
  refine ⟨fun i m H => m = src.length - i ∧ i ≤ src.length ∧ ∃ B S acc ws, Same B1 B ∧ Rep (E.hold p (.lst ws)) B H (wipe σ vs) S ∧ DpAll E.K B ws acc ∧ runLc2 st tt fs1 st1 tt1 te vs vs1 (src.drop i) acc S = some (ds', S2), ⟨src.length, by simp, Nat.zero_le _, B1, _, [], [], Same.refl B1, (R1.hold hpn ntLst).wiped hp, .nil, e2⟩, ?_⟩
  rintro i m H ⟨rfl, hi', B2, S3, acc, ws, s2, R2, da, er⟩
  by_cases hlt : i < src.length
  · have hd : src[i]? = some src[i] := List.getElem?_eq_getElem hlt
    rw [drop_cons hd] at er
    unfold runLc2 at er
    simp only [Option.bind_eq_some_iff] at er
    obtain ⟨S4, er1, ⟨bb, S5⟩, er2, er3⟩ := er
    refine .inr ⟨hJ.go i H (s2.trans R2.sub) hlt, fun H' => ∃ B S acc ws, Same B1 B ∧ Rep (E.hold p (.lst ws)) B H' (wipe σ vs) S ∧ DpAll E.K B ws acc ∧ runLc2 st tt fs1 st1 tt1 te vs vs1 (src.drop (i + 1)) acc S = some (ds', S2),
      fun H' ⟨B', S', acc', ws', h1, h2, h3, h4⟩ => ⟨src.length - (i + 1), by omega, rfl, hlt, B', S', acc', ws', h1, h2, h3, h4⟩, fun x H' y => ?_⟩
    have fin : ∀ (B' H' : Hp), Same B2 B' → Rep (E.hold p (.lst ws)) B' H' (wipe σ vs) S3 → Dp E.K B' x src[i] → g x (wipe σ vs) H' fun σ2 H2 => wipe σ2 vs = wipe σ vs ∧ upHT E tt σ2 H2 fun b H3 =>
        if b = true then (upIH E fs1) σ2 H3 fun J1 H4 => ∃ W1 : Nat → Nat → Hp → Prop, (∃ m, W1 0 m H4) ∧ ∀ j k H, W1 j k H →
          (J1.stop j H ∧ ∃ B S acc ws, Same B1 B ∧ Rep (E.hold p (.lst ws)) B H (wipe σ vs) S ∧ DpAll E.K B ws acc ∧ runLc2 st tt fs1 st1 tt1 te vs vs1 (src.drop (i + 1)) acc S = some (ds', S2)) ∨ (J1.go j H ∧ ∃ Nx1 : Hp → Prop, (∀ H', Nx1 H' → ∃ k', k' < k ∧ W1 (j + 1) k' H') ∧ ∀ x H', J1.yld j H x H' → g1 x (wipe σ2 vs1) H' fun σ3 H5 => wipe σ3 vs1 = wipe σ2 vs1 ∧ (upHT E tt1) σ3 H5 fun b H6 =>
            if b = true then (upH E te) σ3 H6 fun y H7 => ∃ acc, H7 p = some (.lst acc) ∧ acc.length < sizeLine ∧ Nx1 (upd H7 p (.lst (acc ++ [y]))) else Nx1 H6)
        else ∃ B S acc ws, Same B1 B ∧ Rep (E.hold p (.lst ws)) B H3 (wipe σ vs) S ∧ DpAll E.K B ws acc ∧ runLc2 st tt fs1 st1 tt1 te vs vs1 (src.drop (i + 1)) acc S = some (ds', S2) := fun B' H' sB R' dx => by
      refine hg p _ x _ (wipe σ vs) B' H' S3 S4 _ R' dx er1 fun σ2 R3 hl hf => ?_
      have hw : wipe σ2 vs = wipe σ vs := by
        rw [wipe_wipe hl hf]
        exact wipe_wipe (wipe_length _ _) fun j hj => by rw [wipe_get, if_neg fun z => hj z.1]
      refine ⟨hw, p, _, B', S4, bb, S5, R3, er2, fun B3 H3 s3 R4 => ?_⟩
      cases bb with
      | true =>
        simp only [if_true, Option.bind_eq_some_iff] at er3
        obtain ⟨⟨d1, S6⟩, er4, ⟨accE, S7⟩, er5, er6⟩ := er3
        refine iteT ⟨p, _, B3, S5, d1, S6, R4, er4, fun J1 B4 H4 s4 R5 hJ1 => ?_⟩
        have da4 : DpAll E.K B4 ws acc := dpAll_mono ((sB.trans s3).trans s4) da
        refine lc_in (σ := σ2) hg1 hp1 z0 zB0 npa hJ1 R5 da4 er5 fun B5 H5 ws5 s5 R6 da5 => ?_
        have hw2 : wipe (wipe σ2 vs1) vs = wipe σ vs := by
          rw [← hw]
          exact wipe_wipe (wipe_length _ _) fun j hj => by rw [wipe_get, if_neg fun z => hj (hv _ z.1)]
        refine ⟨B5, _, accE, ws5, (((s2.trans sB).trans s3).trans s4).trans s5, ?_, da5, er6⟩
        rw [← hw2]
        exact R6.wiped hp
      | false =>
        simp at er3
        refine iteF ⟨B3, _, acc, ws, (s2.trans sB).trans s3, ?_, dpAll_mono (sB.trans s3) da, er3⟩
        rw [← hw]
        exact R4.wiped hp
    rcases hJ.yld i H x H' _ (s2.trans R2.sub) hd y with ⟨rfl, dx⟩ | ⟨T, ws', es, rfl, hT, rfl, ed, de⟩
    · exact fin B2 H' (Same.refl B2) R2 (dp_mono s2 dx)
    · obtain ⟨s4, R4, d4⟩ := new_tup R2 hT (dpAll_mono s2 de)
      exact fin _ _ s4 R4 (by rw [ed]; exact d4)
  · have hi2 : i = src.length := by omega
    subst hi2
    rw [List.drop_length] at er
    unfold runLc2 at er
    cases er
    refine .inl ⟨hJ.stop _ H (s2.trans R2.sub) (Nat.le_refl _), ?_⟩
    have R3 := R1.restored (S1 := S1) (vs := vs) s2 (R2.unhold z0 zB0 npa ntLst).1 hp
    obtain ⟨_, g1, g2, g3⟩ := R2.unhold z0 zB0 npa ntLst
    refine k p ws B2 H (s1.trans s2) R3 g1 g2 z0 (fun j c hj hz => ?_) da
    rw [restS_get] at hj
    split at hj
    · unfold valOf at hj
      split at hj <;> cases hj
    · rename_i hn
      have hj' : j ∉ vs := fun z => hn ⟨z, (List.getElem?_eq_some_iff.mp hj).1⟩
      exact g3 j c hj (by rw [wipe_get, if_neg fun z => hj' z.1]; exact hz)
/-- [elt for tg in iter if .. for tg1 in iter1 if ..] -/
theorem l_lc2 {elt tg iter tg1 iter1 : Expr} {ifs ifs1 : List Expr} {scope : Scope} {own : List (Str × Nat)} {vs1 : List Nat} {fs fs1 : DA} {g g1 : TG} {st st1 : D → SS → Option SS} {tt tt1 : DT} {te : DX} (hc : X.calm = true) (hN : X.N.Nodup) (hi : PI X tg iter (upI E fs)) (ok : BlkOk X.N X.env.scope scope own) (hv : ∀ i ∈ vs1, i ∈ own.map (·.2))
    (hg : ∀ (s : Shared) (H : Hp) (C : Addr) (cl : List (Str × Addr)) (fp : List Addr), PG (X.blk s H scope (compEnvC scope cl C X.env) fp) tg g) (hgD : ∀ p o, TgV (own.map (·.2)) (E.hold p o) g st) (hp : ∀ q ∈ E.pa, q.1 ∉ own.map (·.2))
    (ht : ∀ (s : Shared) (H : Hp) (C : Addr) (cl : List (Str × Addr)) (fp : List Addr), PTs (X.blk s H scope (compEnvC scope cl C X.env) fp) ifs (upHT E tt))
    (hi1 : ∀ (s : Shared) (H : Hp) (C : Addr) (cl : List (Str × Addr)) (fp : List Addr) p o, PI (X.blk s H scope (compEnvC scope cl C X.env) fp) tg1 iter1 (upI (E.hold p o) fs1))
    (hg1 : ∀ (s : Shared) (H : Hp) (C : Addr) (cl : List (Str × Addr)) (fp : List Addr), PG (X.blk s H scope (compEnvC scope cl C X.env) fp) tg1 g1) (hgD1 : ∀ p o, TgV vs1 (E.hold p o) g1 st1)
    (ht1 : ∀ (s : Shared) (H : Hp) (C : Addr) (cl : List (Str × Addr)) (fp : List Addr), PTs (X.blk s H scope (compEnvC scope cl C X.env) fp) ifs1 (upHT E tt1))
    (he : ∀ (s : Shared) (H : Hp) (C : Addr) (cl : List (Str × Addr)) (fp : List Addr) p o, PE (X.blk s H scope (compEnvC scope cl C X.env) fp) elt (up (E.hold p o) te)) (hs : ∀ x, foldedSetIterable iter X.env x = pure x := by intro _; rfl) (hs1 : ∀ env x, foldedSetIterable iter1 env x = pure x := by intro _ _; rfl) :
    PE X (.ListComp elt [⟨tg, iter, ifs, 0⟩, ⟨tg1, iter1, ifs1, 0⟩] scope pos) (upL E (yLc2 fs st tt fs1 st1 tt1 te (own.map (·.2)) vs1)) :=
  PE.imp (pe_lc2 hc hN hi ok hv hg ht (fun s H C cl fp => pi_H fun p o => hi1 s H C cl fp p o) hg1 ht1 (fun s H C cl fp => pe_H fun p o => he s H C cl fp p o) hs hs1) fun σ H Q h => lc2_imp (fun _ _ _ h => h) hgD hgD1 hv hp h
theorem s_setLc2 {i : Nat} {y : Str} {py : Pos} {spos : Pos} {elt tg iter tg1 iter1 : Expr} {ifs ifs1 : List Expr} {scope : Scope} {own : List (Str × Nat)} {vs1 : List Nat} {fs fs1 : DA} {g g1 : TG} {st st1 : D → SS → Option SS} {tt tt1 : DT} {te : DX} (hpi : ∀ q ∈ E.pa, q.1 ≠ i) (hc : X.calm = true) (hN : X.N.Nodup) (hy : X.N[i]? = some y) (hyl : X.env.scope.names.lookup y = some .local)
    (hsw : swapsWith (.ListComp elt [⟨tg, iter, ifs, 0⟩, ⟨tg1, iter1, ifs1, 0⟩] scope pos) (some (.Name y py)) spos.line X.env = pure true) (hi : PI X tg iter (upI E fs)) (ok : BlkOk X.N X.env.scope scope own) (hv : ∀ i ∈ vs1, i ∈ own.map (·.2))
    (hg : ∀ (s : Shared) (H : Hp) (C : Addr) (cl : List (Str × Addr)) (fp : List Addr), PG (X.blk s H scope (compEnvC scope cl C X.env) fp) tg g) (hgD : ∀ p o, TgV (own.map (·.2)) (E.hold p o) g st) (hp : ∀ q ∈ E.pa, q.1 ∉ own.map (·.2))
    (ht : ∀ (s : Shared) (H : Hp) (C : Addr) (cl : List (Str × Addr)) (fp : List Addr), PTs (X.blk s H scope (compEnvC scope cl C X.env) fp) ifs (upHT E tt))
    (hi1 : ∀ (s : Shared) (H : Hp) (C : Addr) (cl : List (Str × Addr)) (fp : List Addr) p o, PI (X.blk s H scope (compEnvC scope cl C X.env) fp) tg1 iter1 (upI (E.hold p o) fs1))
    (hg1 : ∀ (s : Shared) (H : Hp) (C : Addr) (cl : List (Str × Addr)) (fp : List Addr), PG (X.blk s H scope (compEnvC scope cl C X.env) fp) tg1 g1) (hgD1 : ∀ p o, TgV vs1 (E.hold p o) g1 st1)
    (ht1 : ∀ (s : Shared) (H : Hp) (C : Addr) (cl : List (Str × Addr)) (fp : List Addr), PTs (X.blk s H scope (compEnvC scope cl C X.env) fp) ifs1 (upHT E tt1))
    (he : ∀ (s : Shared) (H : Hp) (C : Addr) (cl : List (Str × Addr)) (fp : List Addr) p o, PE (X.blk s H scope (compEnvC scope cl C X.env) fp) elt (up (E.hold p o) te)) (hs : ∀ x, foldedSetIterable iter X.env x = pure x := by intro _; rfl) (hs1 : ∀ env x, foldedSetIterable iter1 env x = pure x := by intro _ _; rfl) :
    PS X (.Assign [.Name y py] (.ListComp elt [⟨tg, iter, ifs, 0⟩, ⟨tg1, iter1, ifs1, 0⟩] scope pos) spos) (upS E (sSet i (xL (yLc2 fs st tt fs1 st1 tt1 te (own.map (·.2)) vs1)))) :=
  PS.imp (ps_setLc2 hc hN hy hyl hsw hi ok hv hg ht (fun s H C cl fp => pi_H fun p o => hi1 s H C cl fp p o) hg1 ht1 (fun s H C cl fp => pe_H fun p o => he s H C cl fp p o) hs hs1) fun σ H D ⟨B, S, r, R, e, k⟩ => by
    unfold sSet setV at e
    simp only [Option.bind_eq_some_iff, Option.map_eq_some_iff] at e
    obtain ⟨⟨d, S1⟩, e1, S2, e2, e3⟩ := e
    split at e2
    · rename_i hl
      cases e2
      cases e3
      refine lc2_imp (fun _ _ _ h => h) hgD hgD1 hv hp (up_L ⟨B, S, d, S1, R, e1, fun v B' H' s' R' dv => ?_⟩)
      exact k _ B' H' s' (R'.set dv hpi hl)
    · cases e2
end
end BC
set_option Elab.async false
set_option linter.all false
set_option maxRecDepth 100000
set_option maxHeartbeats 2000000
namespace BC
open PySem PySem.Spec PyProof.Rows L2 GxR
open PySem.W (alike alikeAll dataLt dataLe EachIs minD maxD argBest_fold)
/-! ### truth, least and greatest, sorted: over data -/
def truD : D → Option Bool
  | .none => some false
  | .bool b => some b
  | .int i => some (i != 0)
  | .list ds => some (!ds.isEmpty)
  | .tuple ds => some (!ds.isEmpty)
  | _ => none
def xTr (f : DX) : DT := fun S => (f S).bind fun p => (truD p.1).map fun b => (b, p.2)
def yTrO (i : Nat) : DT := fun S => match S[i]? with
  | some (.own (.lst ds)) => some (!ds.isEmpty, S)
  | _ => none
theorem isEmpty_len {α β : Type} {xs : List α} {ys : List β} (h : xs.length = ys.length) : xs.isEmpty = ys.isEmpty := by
  cases xs <;> cases ys <;> simp_all
section
variable {X : Cx} {E : En} {a b c e : Expr} {es : List Expr} {fa fb fc fe : DX} {fr fl : DA} {pos : Pos} {σ : L2.St} {S : SS} {B H : Hp}
theorem t_truth {e : Expr} {f : DX} (hK : X.K = E.K) (h : PE X e (up E f)) (he : ∀ whole, isTrue e X.env whole = (do let v ← whole; standAt e.pos; holding [v] (truthy v)) := by intro _; rfl) : PT X e (upT E (xTr f)) :=
  PT.imp (pt_truth h he) fun σ H Q ⟨B, S, d, S', R, e, k⟩ => by
    unfold xTr at e
    simp only [Option.bind_eq_some_iff, Option.map_eq_some_iff] at e
    obtain ⟨⟨d1, S1⟩, e1, b, e2, e3⟩ := e
    cases e3
    refine ⟨B, S, d1, _, R, e1, fun v B' H' s' R' dv => ⟨_, ?_, k B' H' s' R'⟩⟩
    cases dv with
    | non => simp [truD] at e2; simp [TruV, e2]
    | bl t => simp [truD] at e2; simp [TruV, e2]
    | int n => simp [truD] at e2; simp [TruV, ← e2]
    | str z => simp [truD] at e2
    | lst h r => simp [truD] at e2; exact .inl ⟨_, by rw [hK]; exact R'.sub.seq h, by rw [isEmpty_len (dpAll_len r), e2]; simp⟩
    | tup h r => simp [truD] at e2; exact .inr (.inl ⟨_, by rw [hK]; exact same_seqT R'.sub h, by rw [isEmpty_len (dpAll_len r), e2]; simp⟩)
    | dit h k r => simp [truD] at e2
    | dik n h r => simp [truD] at e2
theorem t_truO {e : Expr} {i : Nat} (h : PE X e (tVar i)) (he : ∀ whole, isTrue e X.env whole = (do let v ← whole; standAt e.pos; holding [v] (truthy v)) := by intro _; rfl) : PT X e (upT E (yTrO i)) :=
  PT.imp (pt_truth h he) fun σ H Q ⟨B, S, d, S', R, e, k⟩ => by
    unfold yTrO at e
    split at e
    · rename_i ds h0
      cases e
      obtain ⟨a0, o0, es, _, hH, ⟨vs, rfl, r⟩, _⟩ := R.own i _ h0
      exact ⟨_, es, _, .inl ⟨_, SqL.of hH, by rw [isEmpty_len (dpAll_len r)]⟩, k B H (Same.refl B) R⟩
    · cases e
/-! min, max of a list -/
/-- data that can be compared, none of it deep -/
def flatD : D → Bool
  | .int _ => true
  | .tuple ds => ds.all fun d => match d with | .int _ => true | _ => false
  | _ => false
def isIntD : D → Bool
  | .int _ => true
  | _ => false
def isTupD : D → Bool
  | .tuple ds => ds.all isIntD
  | _ => false
def alikeD (ds : List D) : Bool := ds.all isIntD || ds.all isTupD
theorem alike_intsD : ∀ {xs ys : List D}, xs.all isIntD = true → ys.all isIntD = true → alikeAll xs ys = true
  | [], _, _, _ => by simp [alikeAll]
  | _ :: _, [], _, _ => by simp [alikeAll]
  | x :: xs, y :: ys, h1, h2 => by
    rw [List.all_cons, Bool.and_eq_true] at h1 h2
    have := alike_intsD h1.2 h2.2
    cases x <;> simp [isIntD] at h1
    cases y <;> simp [isIntD] at h2
    simp [alikeAll, alike, this]
theorem alike_of {ds : List D} (h : alikeD ds = true) : ∀ x ∈ ds, ∀ y ∈ ds, alike x y = true := fun x hx y hy => by
  unfold alikeD at h
  rw [Bool.or_eq_true] at h
  rcases h with h | h
  · have h1 := List.all_eq_true.mp h x hx
    have h2 := List.all_eq_true.mp h y hy
    cases x <;> simp [isIntD] at h1
    cases y <;> simp [isIntD] at h2
    simp [alike]
  · have h1 := List.all_eq_true.mp h x hx
    have h2 := List.all_eq_true.mp h y hy
    cases x <;> simp only [isTupD] at h1 <;> (try cases h1)
    cases y <;> simp only [isTupD] at h2 <;> (try cases h2)
    simp only [alike]
    exact alike_intsD h1 h2
theorem alikeAll_of {ds : List D} (h : alikeD ds = true) : PySem.W.AlikeAll ds := ⟨alike_of h, fun x hx z => by
  subst z
  unfold alikeD at h
  rw [Bool.or_eq_true] at h
  rcases h with h | h <;> (have h1 := List.all_eq_true.mp h _ hx; cases h1)⟩
theorem depth_flat : ∀ {ds : List D}, ds.all isIntD = true → PyData.depthAll ds ≤ 1
  | [], _ => by simp [PyData.depthAll]
  | x :: xs, h => by
    rw [List.all_cons, Bool.and_eq_true] at h
    have := depth_flat h.2
    cases x <;> simp [isIntD] at h
    simp only [PyData.depthAll, PyData.depth]
    omega
theorem depth_alike : ∀ {ds : List D}, ds.all isTupD = true → PyData.depthAll ds ≤ 2
  | [], _ => by simp [PyData.depthAll]
  | x :: xs, h => by
    rw [List.all_cons, Bool.and_eq_true] at h
    have := depth_alike h.2
    obtain ⟨h1, _⟩ := h
    cases x <;> simp only [isTupD] at h1 <;> (try cases h1)
    have := depth_flat h1
    simp only [PyData.depthAll, PyData.depth]
    omega
theorem depth_of {ds : List D} (h : alikeD ds = true) : PyData.depthAll ds ≤ 2 := by
  unfold alikeD at h
  rw [Bool.or_eq_true] at h
  rcases h with h | h
  · exact Nat.le_trans (depth_flat h) (by decide)
  · exact depth_alike h

theorem depth_item : ∀ {ds : List D} {d : D}, d ∈ ds → d.depth ≤ PyData.depthAll ds
  | x :: xs, d, h => by
    simp only [PyData.depthAll]
    rcases List.mem_cons.mp h with rfl | h
    · omega
    · have := depth_item h
      omega
theorem paired_get {α β : Type} {R : α → β → Prop} : ∀ {xs : List α} {ys : List β}, Paired R xs ys → ∀ {i : Nat} {y : β}, ys[i]? = some y → ∃ x, xs[i]? = some x ∧ R x y
  | _, _, .nil, _, _, h => by simp at h
  | _, _, .cons h r, 0, _, e => by simp at e; subst e; exact ⟨_, rfl, h⟩
  | _, _, .cons h r, i + 1, _, e => by
    obtain ⟨x, h1, h2⟩ := paired_get r (i := i) (by simpa using e)
    exact ⟨x, by simpa using h1, h2⟩
def rBest (m : D → List D → D) (K : PySem.W.Frag) : List V → Hp → VK → Prop := fun vs H Q => ∃ (a : Addr) (xs : List V) (d : D) (ds : List D), vs = [V.ref a] ∧ SqL K H a xs ∧ DpAll K H xs (d :: ds) ∧ alikeD (d :: ds) = true ∧ ∀ (i : Nat) x, xs[i]? = some x → (d :: ds)[i]? = some (m d ds) → Q x H
theorem best_end {pins : List (Addr × Obj)} {s : Shared} {xs : List V} {its : List Value} {ds : List D} {m : D} {Q : VK} (I : Inv X pins σ H s) (rv : Vals xs its) (hd : DpAll X.K H xs ds) (q : ∀ (i : Nat) x, xs[i]? = some x → ds[i]? = some m → Q x H)
    {i : Nat} {v : Value} {h' : Heap} {tk : Nat} {bs : List Addr} (hv : its[i]? = some v) (hr : Reads h' v m bs) (hk : ∀ b o, s.heap.get? b = some o → h'.get? b = some o) : EP X pins σ Q v { s with heap := h', toks := tk } := by
  obtain ⟨x, hx, rx⟩ := paired_get rv hv
  obtain ⟨e, he, dx⟩ := getD_of hd hx
  obtain ⟨cs, r2⟩ := dx.reads I rx
  have z := (Reads.unique (PyProof.Rows.Reads.keeps hk r2) _ _ hr).1
  exact ⟨x, H, I.kept hk, rx, q i x hx (z ▸ he)⟩
theorem cr_minD (hc : X.calm = true) (hu : X.A.units + 64 < cLine) : CallR X (.builtin "min") (rBest minD X.K) := by
  intro pins s σ H vs us Q I r h
  obtain ⟨a, xs, d, ds, rfl, hs, hd, ha, q⟩ := h
  obtain ⟨its, rv, hl, _⟩ := I.list hs
  rw [Vals.ref1 r]
  obtain ⟨as, rd⟩ := DpAll.reads I hd rv
  exact PySem.W.min_list_data (I.ok.hd hc) hl.isList (by simpa using rd) (alikeAll_of ha) (by have := depth_of ha; omega) fun i v h' tk bs hv hr hk => best_end I rv hd q (by simpa using hv) hr hk
theorem cr_maxD (hc : X.calm = true) (hu : X.A.units + 64 < cLine) : CallR X (.builtin "max") (rBest maxD X.K) := by
  intro pins s σ H vs us Q I r h
  obtain ⟨a, xs, d, ds, rfl, hs, hd, ha, q⟩ := h
  obtain ⟨its, rv, hl, _⟩ := I.list hs
  rw [Vals.ref1 r]
  obtain ⟨as, rd⟩ := DpAll.reads I hd rv
  exact PySem.W.max_list_data (I.ok.hd hc) hl.isList (by simpa using rd) (alikeAll_of ha) (by have := depth_of ha; omega) fun i v h' tk bs hv hr hk => best_end I rv hd q (by simpa using hv) hr hk
def gBest (m : D → List D → D) : List D → Option D
  | [.list (d :: ds)] => if alikeD (d :: ds) = true then some (m d ds) else none
  | _ => none
theorem c_best {f : String} {m : D → List D → D} (hK : X.K = E.K) (hf : CallR X (.builtin f) (rBest m X.K)) : CallD X E (.builtin f) (gBest m) := by
  intro σ S B H xs ds z Q R dv hz k
  unfold gBest at hz
  split at hz
  · split at hz
    · rename_i ha
      cases hz
      obtain ⟨v, rfl, dx⟩ := dpAll1 dv
      cases dx with
      | lst h r => 
        refine ⟨_, hf, _, _, _, _, rfl, by rw [hK]; exact R.sub.seq h, by rw [hK]; exact dpAll_mono R.sub r, ha, fun i x hx he => ?_⟩
        obtain ⟨e, h1, h2⟩ := getD_of r hx
        rw [he] at h1
        cases h1
        exact k x B H (Same.refl B) R h2
    · cases hz
  · cases hz

/-! min(xs, default=e) -/
def rMinDf (K : PySem.W.Frag) (df : V) : List V → Hp → VK → Prop := fun vs H Q => ∃ (a : Addr) (xs : List V) (ds : List D), vs = [V.ref a] ∧ SqL K H a xs ∧ DpAll K H xs ds ∧ alikeD ds = true ∧ (ds = [] → Q df H) ∧ ∀ (i : Nat) x d r, ds = d :: r → xs[i]? = some x → ds[i]? = some (minD d r) → Q x H
theorem min_default {pins : List (Addr × Obj)} {s : Shared} {vs : List V} {u w : Value} {df : V} {Q : VK} (hc : X.calm = true) (hu : X.A.units + 64 < cLine) (I : Inv X pins σ H s) (r : Vals vs [u]) (rd : RelV df w) (h : rMinDf X.K df vs H Q) :
    wpAny (model X.prog X.w) X.A (call (.builtin "min") [u] [(Str.ofString "default", w)]) (EP X pins σ Q) X.xe s := by
  obtain ⟨a, xs, ds, rfl, hs, hd, ha, q0, q⟩ := h
  obtain ⟨its, rv, hl, _⟩ := I.list hs
  have e := Vals.ref1 r
  cases e
  obtain ⟨as, rr⟩ := DpAll.reads I hd rv
  refine PySem.W.min_list_default (I.ok.hd hc) hl.isList (by simpa using rr) (alikeAll_of ha) (by have := depth_of ha; omega) (fun hz h' tk hk => ⟨df, H, I.kept hk, rd, q0 hz⟩) fun y ys i v h' tk bs hy hv hr hk => ?_
  exact best_end I rv hd (fun i x h1 h2 => q i x y ys hy h1 h2) (by simpa using hv) hr hk
/-! sorted(xs) -/
def insD (le : D → D → Bool) (a : D) : List D → List D
  | [] => [a]
  | b :: r => if le a b = true then a :: b :: r else b :: insD le a r
def isort (le : D → D → Bool) : List D → List D
  | [] => []
  | a :: r => insD le a (isort le r)
theorem insD_at (le : D → D → Bool) (a : D) : ∀ (l₁ l₂ : List D), (∀ b, b ∈ l₁ → !le a b) → (∀ b, b ∈ l₂ → le a b = true) → insD le a (l₁ ++ l₂) = l₁ ++ a :: l₂
  | [], [], _, _ => rfl
  | [], b :: r, _, h => by
    show (if le a b = true then _ else _) = _
    rw [if_pos (h b List.mem_cons_self)]; rfl
  | b :: r, l₂, h, h2 => by
    show (if le a b = true then _ else _) = _
    have := h b List.mem_cons_self
    rw [if_neg (by simpa using this)]
    exact congrArg (b :: ·) (insD_at le a r l₂ (fun c hc => h c (List.mem_cons_of_mem _ hc)) h2)
theorem isort_eq (le : D → D → Bool) (trans : ∀ a b c, le a b = true → le b c = true → le a c = true) (total : ∀ a b, (le a b || le b a) = true) : ∀ l, l.mergeSort le = isort le l
  | [] => by simp [isort]
  | a :: l => by
    obtain ⟨l₁, l₂, e1, e2, h⟩ := List.mergeSort_cons trans total a l
    have hp := List.pairwise_mergeSort trans total (a :: l)
    rw [e1, List.pairwise_append] at hp
    show _ = insD le a (isort le l)
    rw [← isort_eq le trans total l, e2, insD_at le a l₁ l₂ h (fun b hb => (List.pairwise_cons.mp hp.2.1).1 b hb), e1]
theorem isort_data (l : List D) : l.mergeSort (dataLe false id) = isort (dataLe false id) l :=
  isort_eq _ (PySem.W.sortLe_total _ false _).trans (fun a b => by
    rw [Bool.or_eq_true]
    exact (PySem.W.sortLe_total _ false _).total a b) l
def okSort (ds : List D) : Bool := ds.all isIntD || ds.all fun d => isTupD d && (match d with | .tuple [] => false | _ => true)
theorem okSort_alike {ds : List D} (h : okSort ds = true) : alikeD ds = true := by
  unfold okSort alikeD at *
  rw [Bool.or_eq_true] at *
  refine h.imp id fun h => List.all_eq_true.mpr fun d hd => ?_
  have := List.all_eq_true.mp h d hd
  rw [Bool.and_eq_true] at this
  exact this.1
theorem okSort_able {ds : List D} (h : okSort ds = true) : PySem.W.Sortable ds := by
  unfold okSort at h
  rw [Bool.or_eq_true] at h
  rcases h with h | h
  · exact .inr fun d hd => by
      have := List.all_eq_true.mp h d hd
      cases d <;> simp [isIntD] at this
      simp
  · exact .inl fun d hd => by
      have := List.all_eq_true.mp h d hd
      rw [Bool.and_eq_true] at this
      cases d <;> simp only [isTupD] at this <;> (try (obtain ⟨z, _⟩ := this; cases z; done))
      rename_i l
      cases l with
      | nil => simp at this
      | cons x r => exact ⟨x, r, rfl⟩
def rSortD (K : PySem.W.Frag) : List V → Hp → VK → Prop := fun vs H Q => ∃ (a : Addr) (xs : List V) (ds : List D), vs = [V.ref a] ∧ SqL K H a xs ∧ DpAll K H xs ds ∧ okSort ds = true ∧
  ∀ (ys : List V) (p : Addr), (∀ B, DpAll K B xs ds → DpAll K B ys (isort (dataLe false id) ds)) → H p = none → Q (.ref p) (upd H p (.lst ys))
/-- what each of the sorted stands at -/
theorem each_pick {xs : List V} {its : List Value} {ds : List D} (rv : Vals xs its) : ∀ {out : List Value} {es : List D}, EachIs (fun u e => ∃ i : Nat, its[i]? = some u ∧ ds[i]? = some e) out es → ∃ ys, Vals ys out ∧ ∀ (K : PySem.W.Frag) (B : Hp), DpAll K B xs ds → DpAll K B ys es
  | _, _, .nil => ⟨[], .nil, fun _ _ _ => .nil⟩
  | _, _, .cons (a := u) (b := e) ⟨i, h1, h2⟩ r => by
    obtain ⟨ys, g1, g2⟩ := each_pick rv r
    obtain ⟨x, hx, rx⟩ := paired_get rv h1
    refine ⟨x :: ys, .cons rx g1, fun K B hd => .cons ?_ (g2 K B hd)⟩
    obtain ⟨e', h3, h4⟩ := getD_of hd hx
    rw [h2] at h3
    cases h3
    exact h4
theorem each_zip {α β : Type} : ∀ {xs : List α} {ys : List β}, xs.length = ys.length → EachIs (fun u e => ∃ i : Nat, xs[i]? = some u ∧ ys[i]? = some e) xs ys
  | [], [], _ => .nil
  | x :: xs, y :: ys, h => .cons ⟨0, rfl, rfl⟩ ((each_zip (xs := xs) (ys := ys) (by simpa using h)).mono fun u e ⟨i, h1, h2⟩ => ⟨i + 1, by simpa using h1, by simpa using h2⟩)
theorem cr_sortD (hc : X.calm = true) (hu : X.A.units + 64 < cLine) : CallR X (.builtin "sorted") (rSortD X.K) := by
  intro pins s σ H vs us Q I r h
  obtain ⟨a, xs, ds, rfl, hs, hd, ha, q⟩ := h
  obtain ⟨its, rv, hl, hz⟩ := I.list hs
  rw [Vals.ref1 r]
  obtain ⟨as, rr⟩ := DpAll.reads I hd rv
  have hal := okSort_alike ha
  have lx := dpAll_len hd
  have lv := rv.length
  refine PySem.W.sorted_data (β := D) (enc := id) (bs := ds) (vs := its) (R := fun u e => ∃ i : Nat, its[i]? = some u ∧ ds[i]? = some e) hl.isList (each_zip (by omega)) ?_ ?_ ?_ (by omega) ?_ ?_
  · refine (each_zip (xs := its) (ys := ds) (by omega)).mono fun u e ⟨i, h1, h2⟩ => ?_
    obtain ⟨x, hx, rx⟩ := paired_get rv h1
    obtain ⟨e', h3, h4⟩ := getD_of hd hx
    rw [h2] at h3
    cases h3
    exact h4.reads I rx
  · rw [List.map_id]; intro d h1 d' h2; exact alike_of hal d h1 d' h2
  · rw [List.map_id]; exact okSort_able ha
  · intro b hb
    have h1 := depth_of hal
    have h2 := depth_item hb
    simp only [id]
    omega
  · intro out ho he
    rw [isort_data] at he
    obtain ⟨ys, hy, hp⟩ := each_pick rv he
    obtain ⟨ep, he'⟩ := PyProof.Rows.sortedAll_at s.heap its out.toArray
    refine ⟨.ref _, upd H (s.heap.objs.size + 1) (.lst ys), I.laid (t' := s.toks) (fun _ _ => PyProof.Rows.sortedAll_old) (Nat.le_succ _) ⟨by rw [hy.length, ho]; omega, out, ep, hy, he'⟩, rfl, q _ _ (fun B hB => hp _ B hB) (I.hok.fresh (Nat.le_succ _))⟩
def gSortD : List D → Option D
  | [.list ds] => if okSort ds = true then some (.list (isort (dataLe false id) ds)) else none
  | _ => none
theorem c_sortD (hK : X.K = E.K) (hc : X.calm = true) (hu : X.A.units + 64 < cLine) : CallD X E (.builtin "sorted") gSortD := by
  intro σ S B H xs ds z Q R dv hz k
  unfold gSortD at hz
  split at hz
  · split at hz
    · rename_i ha
      cases hz
      obtain ⟨v, rfl, dx⟩ := dpAll1 dv
      cases dx with
      | lst h r =>
        refine ⟨_, cr_sortD hc hu, _, _, _, rfl, by rw [hK]; exact R.sub.seq h, by rw [hK]; exact dpAll_mono R.sub r, ha, fun ys p hy hp => ?_⟩
        obtain ⟨s1, R1, d1⟩ := new_lst R hp (by have := hy B (by rw [hK]; exact r); rw [hK] at this; exact this)
        exact k _ _ _ s1 R1 d1
    · cases hz
  · cases hz

def xMinDf (fa fd : DX) : DX := fun S => (fa S).bind fun p => (fd p.2).bind fun q => match p.1 with
  | .list [] => some (q.1, q.2)
  | .list (d :: ds) => if alikeD (d :: ds) = true then some (minD d ds, q.2) else none
  | _ => none
def rMinK2 (K : PySem.W.Frag) : List V → List V → Hp → VK → Prop := fun vs zs H Q => ∃ df, zs = [df] ∧ rMinDf K df vs H Q
theorem cr_minK2 (hc : X.calm = true) (hu : X.A.units + 64 < cLine) : CallRK X (.builtin "min") [("default" : Str)] (rMinK2 X.K) := by
  intro pins s σ H xs zs us ws Q I rx rz h
  obtain ⟨df, rfl, h⟩ := h
  obtain ⟨a, xs', ds, e, _⟩ := id h
  subst e
  cases rz with
  | cons r1 r2 =>
    cases r2
    cases rx with
    | cons r3 r4 =>
      cases r4
      exact min_default hc hu I (.cons r3 .nil) r1 h
theorem d_minDf {x : Str} {p : Pos} {kpos : Pos} (hK : X.K = E.K) (hc : X.calm = true) (hu : X.A.units + 64 < cLine) (hg : Gl X x) (hm : X.mg x = none) (hv : bootBuiltins x = some (.builtin "min")) (ha : PE X a (up E fa)) (hb : PE X b (up E fb)) (hn : x ≠ "__name__" := by decide) (hdb : (x == ("__debug__" : Str)) = false := by decide)
    (hs : starEach [a] X.env = (false, eval a X.env) :: starEach [] X.env := by rfl)
    (he : backTo pos (starEach [a] X.env) = (false, eval a X.env) :: backTo pos (starEach [] X.env) := by rfl) (hpl : (backTo pos (starEach [a] X.env)).any (·.1) = false := by rfl)
    (hall : (backToKw pos (keywordEach [⟨some "default", b, kpos⟩] X.env)).all (·.1.isSome) = true := by rfl) (hnone : (backToKw pos (keywordEach [⟨some "default", b, kpos⟩] X.env)).any (·.1.isNone) = false := by rfl) (hks : (backToKw pos (keywordEach [⟨some "default", b, kpos⟩] X.env)).filterMap (·.1) = [("default" : Str)] := by rfl) :
    PE X (.Call (.Name x p) [a] [⟨some "default", b, kpos⟩] pos) (up E (xMinDf fa fb)) :=
  PE.imp (pe_callBK (cr_minK2 hc hu) hg hm hv (pa_cons ha pa_nil hs) (pk_cons hb pk_nil) hn hdb he hpl hall hnone hks) fun σ H Q ⟨B, S, d, S', R, e, k⟩ => by
    unfold xMinDf at e
    simp only [Option.bind_eq_some_iff] at e
    obtain ⟨⟨d1, S1⟩, e1, ⟨d2, S2⟩, e2, e3⟩ := e
    refine ⟨B, S, d1, S1, R, e1, fun v B1 H1 s1 R1 dv => ?_⟩
    refine ⟨B1, S1, d2, S2, R1, e2, fun w B2 H2 s2 R2 dw => ?_⟩
    show rMinK2 X.K [v] [w] H2 Q
    have dv2 := dp_mono s2 dv
    split at e3
    · rename_i z
      simp only at z
      subst z
      cases e3
      cases dv2 with
      | lst h r => exact ⟨w, rfl, _, _, [], rfl, by rw [hK]; exact R2.sub.seq h, by rw [hK]; exact dpAll_mono R2.sub r, rfl, fun _ => k w B2 H2 (s1.trans s2) R2 dw, fun i x d r hz => by cases hz⟩
    · rename_i d0 ds z
      simp only at z
      subst z
      split at e3
      · rename_i ha
        cases e3
        cases dv2 with
        | lst h r =>
          refine ⟨w, rfl, _, _, _, rfl, by rw [hK]; exact R2.sub.seq h, by rw [hK]; exact dpAll_mono R2.sub r, ha, fun z => (by cases z), fun i x d r' hz hx he => ?_⟩
          cases hz
          obtain ⟨e, h1, h2⟩ := getD_of r hx
          rw [he] at h1
          cases h1
          exact k x B2 H2 (s1.trans s2) R2 h2
      · cases e3
    · cases e3
end
end BC
set_option Elab.async false
set_option linter.all false
set_option maxRecDepth 100000
set_option maxHeartbeats 2000000
namespace BC
open PySem PySem.Spec PyProof.Rows L2 GxR
/-! ### the functions of math -/
section
variable {X : Cx} {E : En} {a b c e : Expr} {es : List Expr} {fa fb fc fe : DX} {fr fl : DA} {pos : Pos} {σ : L2.St} {S : SS} {B H : Hp}
def rComb : List V → Hp → VK → Prop := fun vs H Q => ∃ a b : Int, vs = [.int a, .int b] ∧ 0 ≤ a ∧ 0 ≤ b ∧ a ≤ 9000 ∧ Q (.int (PySem.W.mcComb a b)) H
theorem cr_comb : CallR X (.builtin "math.comb") rComb := by
  intro pins s σ H vs us Q I r h
  obtain ⟨a, b, rfl, h1, h2, h3, q⟩ := h
  obtain ⟨t, u, rfl⟩ := Vals.int2 r
  exact call_function_meets PySem.W.MGF.kind_comb PySem.W.MGF.plain_comb PySem.W.MGF.entry_comb (PySem.W.MGF.args_comb _ _) (PySem.W.mc_gives_comb t u h1 h2 (by omega) (.inr (by omega))).meets ⟨.int _, H, I.tok _, ⟨_, rfl⟩, q⟩
def gComb : List D → Option D
  | [.int a, .int b] => if 0 ≤ a ∧ 0 ≤ b ∧ a ≤ 9000 then some (.int (PySem.W.mcComb a b)) else none
  | _ => none
def gGcd : List D → Option D
  | [.int a, .int b] => some (.int ((Nat.gcd a.natAbs b.natAbs : Nat) : Int))
  | _ => none
theorem c_comb : CallD X E (.builtin "math.comb") gComb := by
  intro σ S B H xs ds z Q R dv hz k
  unfold gComb at hz
  split at hz
  · split at hz
    · rename_i h
      cases hz
      obtain ⟨v, w, rfl, d1, d2⟩ := dpAll2 dv
      cases d1; cases d2
      exact ⟨_, cr_comb, _, _, rfl, h.1, h.2.1, h.2.2, k _ B H (Same.refl B) R (.int _)⟩
    · cases hz
  · cases hz
theorem c_gcd : CallD X E (.builtin "math.gcd") gGcd := by
  intro σ S B H xs ds z Q R dv hz k
  unfold gGcd at hz
  split at hz
  · cases hz
    obtain ⟨v, w, rfl, d1, d2⟩ := dpAll2 dv
    cases d1; cases d2
    exact ⟨_, cr_gcd, _, _, rfl, k _ B H (Same.refl B) R (.int _)⟩
  · cases hz
def gLcm : List D → Option D
  | [.int a, .int b] => if a.natAbs < 2 ^ 64 ∧ b.natAbs < 2 ^ 64 ∧ ((((Nat.lcm 1 a.natAbs).lcm b.natAbs : Nat) : Int)).natAbs.log2 < 1000 then some (.int (((Nat.lcm 1 a.natAbs).lcm b.natAbs : Nat) : Int)) else none
  | _ => none
def rLcm : List V → Hp → VK → Prop := fun vs H Q => ∃ a b : Int, vs = [.int a, .int b] ∧ a.natAbs < 2 ^ 64 ∧ b.natAbs < 2 ^ 64 ∧ ((((Nat.lcm 1 a.natAbs).lcm b.natAbs : Nat) : Int)).natAbs.log2 < 1000 ∧ Q (.int (((Nat.lcm 1 a.natAbs).lcm b.natAbs : Nat) : Int)) H
theorem cr_lcm : CallR X (.builtin "math.lcm") rLcm := by
  intro pins s σ H vs us Q I r h
  obtain ⟨a, b, rfl, h1, h2, h3, q⟩ := h
  obtain ⟨t, u, rfl⟩ := Vals.int2 r
  exact PySem.W.mg_lcm h1 h2 (Nat.lt_of_lt_of_le h3 (by decide)) ⟨.int _, H, I.tok _, ⟨_, rfl⟩, q⟩
theorem c_lcm : CallD X E (.builtin "math.lcm") gLcm := by
  intro σ S B H xs ds z Q R dv hz k
  unfold gLcm at hz
  split at hz
  · split at hz
    · rename_i h
      cases hz
      obtain ⟨v, w, rfl, d1, d2⟩ := dpAll2 dv
      cases d1; cases d2
      exact ⟨_, cr_lcm, _, _, rfl, h.1, h.2.1, h.2.2, k _ B H (Same.refl B) R (.int _)⟩
    · cases hz
  · cases hz
/-- f(e, ..), f a module's name for a built-in function -/
theorem d_callM {x : Str} {p : Pos} {id : String} {g : List D → Option D} (hc : CallD X E (.builtin id) g) (hg : Gl X x) (hm : X.mg x = some (.builtin id)) (ha : PA X (e :: es) (upA E fr)) (hdb : (x == ("__debug__" : Str)) = false := by decide)
    (he : starEach (e :: es) X.env = (false, eval e X.env) :: starEach es X.env := by rfl) (hpl : (backTo pos (starEach es X.env)).any (·.1) = false := by rfl) : PE X (.Call (.Name x p) (e :: es) [] pos) (up E (xCall g fr)) :=
  PE.imp (pe_callBfun callR_any hg hm ha hdb he hpl) fun σ H Q h => upCall hc h
end
end BC
set_option Elab.async false
set_option linter.all false
set_option maxRecDepth 100000
set_option maxHeartbeats 2000000
namespace BC
open PySem PySem.Spec PyProof.Rows L2 GxR
/-! ### not x, by truth -/
def xNotT (fa : DX) : DX := fun S => (fa S).bind fun p => (truD p.1).map fun b => (.bool (!b), p.2)
section
variable {X : Cx} {E : En} {a b c e : Expr} {fa fb fc fe : DX} {pos : Pos}
theorem tru_of {d : D} {v : V} {t : Bool} {B' H' : Hp} {σ : L2.St} {S : SS} (hK : X.K = E.K) (R' : Rep E B' H' σ S) (dv : Dp E.K B' v d) (e2 : truD d = some t) : TruV X.K v H' t := by
  cases dv with
  | non => simp [truD] at e2; simp [TruV, e2]
  | bl t => simp [truD] at e2; simp [TruV, e2]
  | int n => simp [truD] at e2; simp [TruV, ← e2]
  | str z => simp [truD] at e2
  | lst h r => simp [truD] at e2; exact .inl ⟨_, by rw [hK]; exact R'.sub.seq h, by rw [isEmpty_len (dpAll_len r), e2]; simp⟩
  | tup h r => simp [truD] at e2; exact .inr (.inl ⟨_, by rw [hK]; exact same_seqT R'.sub h, by rw [isEmpty_len (dpAll_len r), e2]; simp⟩)
  | dit h k r => simp [truD] at e2
  | dik n h r => simp [truD] at e2
theorem d_notT (hK : X.K = E.K) (ha : PE X a (up E fa)) : PE X (.UnaryOp .Not a pos) (up E (xNotT fa)) :=
  PE.imp (pe_notT ha) fun σ H Q ⟨B, S, d, S', R, e, k⟩ => by
    unfold xNotT at e
    simp only [Option.bind_eq_some_iff, Option.map_eq_some_iff] at e
    obtain ⟨⟨d1, S1⟩, e1, b, e2, e3⟩ := e
    cases e3
    exact ⟨B, S, d1, _, R, e1, fun v B' H' s' R' dv => ⟨b, tru_of hK R' dv e2, k _ B' H' s' R' (.bl _)⟩⟩
end
end BC
set_option Elab.async false
set_option linter.all false
set_option maxRecDepth 100000
set_option maxHeartbeats 2000000
namespace BC
open PySem PySem.Spec PyProof.Rows L2 GxR
/-! ### len(set(x)), x a list or a tuple of ints -/
def ddI : List Int → List Int
  | [] => []
  | x :: r => if x ∈ r then ddI r else x :: ddI r
theorem ddI_mem (k : Int) : ∀ l : List Int, k ∈ ddI l ↔ k ∈ l
  | [] => by simp [ddI]
  | x :: r => by
    have ih := ddI_mem k r
    unfold ddI
    split
    · rename_i h
      rw [ih, List.mem_cons]
      exact ⟨.inr, fun z => z.elim (fun e => by rw [e]; exact h) id⟩
    · rw [List.mem_cons, List.mem_cons, ih]
theorem ddI_nodup : ∀ l : List Int, (ddI l).Nodup
  | [] => List.nodup_nil
  | x :: r => by
    unfold ddI
    split
    · exact ddI_nodup r
    · rename_i h
      exact List.nodup_cons.mpr ⟨fun z => h ((ddI_mem x r).mp z), ddI_nodup r⟩
theorem nodup_le {α : Type} [DecidableEq α] : ∀ (l E : List α), l.Nodup → (∀ x ∈ l, x ∈ E) → l.length ≤ E.length
  | [], _, _, _ => Nat.zero_le _
  | x :: l, E, hn, hm => by
    obtain ⟨h1, h2⟩ := List.nodup_cons.mp hn
    have hx := hm x List.mem_cons_self
    have := nodup_le l (E.erase x) h2 fun y hy => (List.mem_erase_of_ne (fun z : y = x => h1 (by rw [← z]; exact hy))).mpr (hm y (List.mem_cons_of_mem _ hy))
    rw [List.length_erase_of_mem hx] at this
    have := List.length_pos_of_mem hx
    simp only [List.length_cons]
    omega
section
variable {X : Cx} {E : En} {a b c e : Expr} {fa fb fc fe : DX} {pos : Pos}
def rLenSO (w : World) : List V → Hp → VK → Prop := fun xs H Q => ∃ (p : Addr) (S : Int → Bool) (n : Nat), xs = [V.ref p] ∧ H p = some (SetO w p S n) ∧ ∀ ks : List Int, ks.Nodup → (∀ k, S k = true ↔ k ∈ ks) → ks.length = n → Q (.int (n : Nat)) H
theorem cr_lenSO : CallR X (.builtin "len") (rLenSO X.w) := by
  rintro pins s σ H xs us Q I r ⟨p, S, n, rfl, hp, q⟩
  rw [Vals.ref1 r]
  obtain ⟨o, es, ep, t, ho, hex, hd, _, hnd, hS, hsz, hf, hn, _⟩ := setO_get I hp
  have hb : es.size < 2 ^ 63 := Nat.lt_of_lt_of_le hsz (by decide)
  refine call_len_set ho hex hd hf (by omega) ⟨.int (n : Nat), H, (I.tok (s.toks + 1 + 1)), ⟨_, by rw [hn]⟩, q _ hnd hS (by rw [List.length_map, Array.length_toList, hn])⟩
def xLenSetT (fa : DX) : DX := fun S => (fa S).bind fun p => match p.1 with
  | .tuple ds => (intsOf ds).bind fun ns => if ns.length < 60 then some (.int ((ddI ns).length : Nat), p.2) else none
  | _ => none
def xLenSetL (fa : DX) : DX := fun S => (fa S).bind fun p => match p.1 with
  | .list ds => (intsOf ds).bind fun ns => if ns.length < 60 then some (.int ((ddI ns).length : Nat), p.2) else none
  | _ => none
theorem dd_len {S : Int → Bool} {ns ks : List Int} {n : Nat} (hnd : ks.Nodup) (hS : ∀ k, decide (k ∈ ns) = true ↔ k ∈ ks) (hl : ks.length = n) : n = (ddI ns).length := by
  have h1 := nodup_le ks (ddI ns) hnd fun x hx => (ddI_mem x ns).mpr (of_decide_eq_true ((hS x).mpr hx))
  have h2 := nodup_le (ddI ns) ks (ddI_nodup ns) fun x hx => (hS x).mp (decide_eq_true ((ddI_mem x ns).mp hx))
  omega
theorem d_lenSetT {p p2 pos2 : Pos} (hK : X.K = E.K) (hc : X.calm = true) (hg : Gl X "len") (hm : X.mg "len" = none) (hg2 : Gl X "set") (hm2 : X.mg "set" = none) (ha : PE X a (up E fa))
    (ns1 : starEach [a] X.env = (false, eval a X.env) :: starEach [] X.env := by rfl) (np1 : (backTo pos2 (starEach ([] : List Expr) X.env)).any (·.1) = false := by rfl)
    (ns2 : starEach [.Call (.Name "set" p2) [a] [] pos2] X.env = (false, eval (.Call (.Name "set" p2) [a] [] pos2) X.env) :: starEach [] X.env := by rfl) (np2 : (backTo pos (starEach ([] : List Expr) X.env)).any (·.1) = false := by rfl) :
    PE X (.Call (.Name "len" p) [.Call (.Name "set" p2) [a] [] pos2] [] pos) (up E (xLenSetT fa)) :=
  PE.imp (pe_callB cr_lenSO hg hm (by decide +kernel) (pa_cons (pe_callTy (cr_setT hc) hg2 hm2 (by decide +kernel) (pa_cons ha pa_nil ns1) (by decide) (by decide) ns1 np1) pa_nil ns2) (by decide) (by decide) ns2 np2) fun σ H Q ⟨B, S, d, S', R, e0, k⟩ => by
    simp only [xLenSetT, xLenSetL, Option.bind_eq_some_iff] at e0
    obtain ⟨⟨d1, S1⟩, e1, e2⟩ := e0
    cases d1 <;> (try (simp at e2; done))
    rename_i ds
    simp only [Option.bind_eq_some_iff] at e2
    obtain ⟨ns, e3, e4⟩ := e2
    split at e4
    · rename_i small
      cases e4
      refine ⟨B, S, _, _, R, e1, fun v B1 H1 s1 R1 dv => ?_⟩
      cases dv with
      | @tup a0 vs _ h r =>
        have hv := intsOf_dp e3 r
        subst hv
        refine ⟨a0, ns, rfl, .inl (.inl (R1.sub _ _ h)), small, fun q n hq le => ?_⟩
        refine ⟨q, _, n, rfl, upd_same, fun ks h1 h2 h3 => ?_⟩
        rw [dd_len (S := fun j => decide (j ∈ ns)) h1 h2 h3]
        exact k _ B1 _ s1 (R1.fresh hq ntSet) (.int _)
    · cases e4
theorem d_lenSetL {p p2 pos2 : Pos} (hK : X.K = E.K) (hc : X.calm = true) (hg : Gl X "len") (hm : X.mg "len" = none) (hg2 : Gl X "set") (hm2 : X.mg "set" = none) (ha : PE X a (up E fa))
    (ns1 : starEach [a] X.env = (false, eval a X.env) :: starEach [] X.env := by rfl) (np1 : (backTo pos2 (starEach ([] : List Expr) X.env)).any (·.1) = false := by rfl)
    (ns2 : starEach [.Call (.Name "set" p2) [a] [] pos2] X.env = (false, eval (.Call (.Name "set" p2) [a] [] pos2) X.env) :: starEach [] X.env := by rfl) (np2 : (backTo pos (starEach ([] : List Expr) X.env)).any (·.1) = false := by rfl) :
    PE X (.Call (.Name "len" p) [.Call (.Name "set" p2) [a] [] pos2] [] pos) (up E (xLenSetL fa)) :=
  PE.imp (pe_callB cr_lenSO hg hm (by decide +kernel) (pa_cons (pe_callTy (cr_setL hc) hg2 hm2 (by decide +kernel) (pa_cons ha pa_nil ns1) (by decide) (by decide) ns1 np1) pa_nil ns2) (by decide) (by decide) ns2 np2) fun σ H Q ⟨B, S, d, S', R, e0, k⟩ => by
    simp only [xLenSetT, xLenSetL, Option.bind_eq_some_iff] at e0
    obtain ⟨⟨d1, S1⟩, e1, e2⟩ := e0
    cases d1 <;> (try (simp at e2; done))
    rename_i ds
    simp only [Option.bind_eq_some_iff] at e2
    obtain ⟨ns, e3, e4⟩ := e2
    split at e4
    · rename_i small
      cases e4
      refine ⟨B, S, _, _, R, e1, fun v B1 H1 s1 R1 dv => ?_⟩
      cases dv with
      | @lst a0 vs _ h r =>
        have hv := intsOf_dp e3 r
        subst hv
        refine ⟨a0, ns, rfl, by rw [hK]; exact R1.sub.seq h, small, fun q n hq le => ?_⟩
        refine ⟨q, _, n, rfl, upd_same, fun ks h1 h2 h3 => ?_⟩
        rw [dd_len (S := fun j => decide (j ∈ ns)) h1 h2 h3]
        exact k _ B1 _ s1 (R1.fresh hq ntSet) (.int _)
    · cases e4
end
end BC
set_option Elab.async false
set_option linter.all false
set_option maxRecDepth 100000
set_option maxHeartbeats 2000000
namespace BC
open PySem PySem.Spec PyProof.Rows L2 GxR
/-! ### {} as a value -/
section
variable {X : Cx} {E : En} {pos : Pos}
theorem ntDK {xs} : NoTbl (.dK xs) := fun _ z => by cases z
/-- {}, locked as soon as it is made -/
theorem pe_dfrz : PE X (.Dict [] [] pos) (fun σ H Q => ∀ p od, H p = none → (∃ es ep, od.data = Data.dict es ep) → Q (.ref p) (upd H p (.frz od (.dT [])))) :=
  ⟨fun pins s σ H Q I h => thn (pe_dnewT.run pins s σ H (fun v H1 => ∃ p, v = .ref p ∧ H p = none ∧ H1 = upd H p (.dT [])) I fun p hp => ⟨p, rfl, hp, rfl⟩) fun u s1 ⟨v, H1, I1, r, p, e1, hp, e2⟩ => by
    subst e1 e2
    obtain ⟨od, I2⟩ := I1.lock upd_same trivial
    obtain ⟨_, _, _, es, ep, hd, _⟩ := I2.frzT upd_same
    refine ⟨.ref p, _, I2, r, ?_⟩
    rw [upd_upd]
    exact h p od hp ⟨es, ep, hd⟩⟩
theorem ntFrz {o u} : NoTbl (.frz o u) := fun _ z => by cases z
theorem d_dict0 : PE X (.Dict [] [] pos) (up E (xC (.dict []))) := PE.imp pe_dfrz fun σ H Q ⟨B, S, d, S', R, e, k⟩ => by
  cases e
  intro p od hp ⟨es, ep, hd⟩
  exact k _ _ _ (same_upd (R.sub.free hp)) (R.laid hp ntFrz) (.dit upd_same ⟨es, ep, hd, fun i k v z => by simp at z⟩ .nil)
end
/-! ### all(.. for x in a tuple of ints, truths, texts, None) -/
def flatOf : D → Option V
  | .none => some .non
  | .bool b => some (.bl b)
  | .int i => some (.int i)
  | .str z => some (.str z)
  | _ => none
def flatsOf : List D → Option (List V)
  | [] => some []
  | d :: r => (flatOf d).bind fun v => (flatsOf r).map (v :: ·)
theorem flatOf_dp {K : PySem.W.Frag} {B : Hp} {d : D} {v w : V} (e : flatOf d = some w) (h : Dp K B v d) : v = w := by
  cases h <;> cases e <;> rfl
theorem flatsOf_dp {K : PySem.W.Frag} {B : Hp} : ∀ {ds : List D} {vs ws : List V}, flatsOf ds = some ws → DpAll K B vs ds → vs = ws ∧ ws.length = ds.length ∧ ∀ i (h1 : i < ds.length) (h2 : i < ws.length), flatOf ds[i] = some ws[i]
  | [], _, _, e, .nil => by cases e; exact ⟨rfl, rfl, fun i h1 => absurd h1 (Nat.not_lt_zero _)⟩
  | d :: r, _, _, e, .cons dv rv => by
    simp only [flatsOf, Option.bind_eq_some_iff, Option.map_eq_some_iff] at e
    obtain ⟨w, e1, us, e2, e3⟩ := e
    subst e3
    obtain ⟨rfl, l, g⟩ := flatsOf_dp e2 rv
    rw [flatOf_dp e1 dv]
    refine ⟨rfl, by simp [l], fun i h1 h2 => ?_⟩
    cases i with
    | zero => exact e1
    | succ i => exact g i (by simpa using h1) (by simpa using h2)
/-- all(elt for x in e): the free names' slots; pb of their ints and the item -/
def xAllV (is : List Nat) (pb : List Int → D → Bool) (fe : DX) : DX := fun S => (fe S).bind fun p => match p.1 with
  | .tuple ds => (flatsOf ds).bind fun _ => (slotInts p.2 is).map fun zs => (.bool (ds.all (pb zs)), p.2)
  | _ => none
@[simp] theorem xAllV_eq {is : List Nat} {pb : List Int → D → Bool} {fe : DX} {S : SS} : xAllV is pb fe S = (fe S).bind fun p => match p.1 with
  | .tuple ds => (flatsOf ds).bind fun _ => (slotInts p.2 is).map fun zs => (.bool (ds.all (pb zs)), p.2)
  | _ => none := rfl
def atW (l : List D) (q : D → Bool) (j : Nat) : Bool := ((l[j]?).map q).getD true
theorem all_atW (l : List D) (q : D → Bool) : (List.range l.length).all (atW l q) = l.all q := by
  rw [Bool.eq_iff_iff, List.all_eq_true, List.all_eq_true]
  constructor
  · intro h b hb
    obtain ⟨j, hj, e⟩ := List.getElem_of_mem hb
    have z := h j (List.mem_range.mpr hj)
    unfold atW at z
    rw [List.getElem?_eq_getElem hj, e] at z
    exact z
  · intro h j hj
    have hj' := List.mem_range.mp hj
    unfold atW
    rw [List.getElem?_eq_getElem hj']
    exact h _ (List.getElem_mem hj')
section
variable {X : Cx} {pins : List (Addr × Obj)} {σ : L2.St} {H : Hp} {s : Shared}
theorem d_allV {E : En} {c P : Addr} {elt e : Expr} {x : Str} {px p pos gpos : Pos} {scope : Scope} {fe : DX} {k : Nat} {fvs : List (Str × Nat)} {pb : List Int → D → Bool} (hK : X.K = E.K) (hP : P ∈ E.T)
    (hr : Room (k + 3) X.A) (hg : Gl X "all") (hm : X.mg "all" = none) (TB : TabB X.base X.mg c P) (hcode : X.env.code = .ref c) (S : GenS X.env scope x) (he : PE X e (up E fe))
    (hfv : ∀ q ∈ fvs, X.N[q.2]? = some q.1 ∧ X.env.scope.names.lookup q.1 = some .cell ∧ (q.1, NameKind.free) ∈ scope.names ∧ scope.names.lookup q.1 = some .free)
    (hel : ∀ (cenv : Env) (zs : List Int) (d : D) (v : V), flatOf d = some v → cenv.scope = scope → zs.length = fvs.length → QE X cenv ((x, v) :: (fvs.map (·.1)).zip (zs.map V.int)) k elt (.bl (pb zs d)))
    (hs : ∀ v, genFold e X.env v = pure v := by intro _; rfl)
    (hse : starEach [.GeneratorExp elt [⟨.Name x px, e, [], 0⟩] scope gpos] X.env = (false, eval (.GeneratorExp elt [⟨.Name x px, e, [], 0⟩] scope gpos) X.env) :: starEach [] X.env := by rfl) :
    PE X (.Call (.Name "all" p) [.GeneratorExp elt [⟨.Name x px, e, [], 0⟩] scope gpos] [] pos) (up E (xAllV (fvs.map (·.2)) pb fe)) := by
  refine ⟨fun pins s σ H Q I ⟨B, S0, d, S', R, e0, kk⟩ => ?_⟩
  unfold xAllV at e0
  simp only [Option.bind_eq_some_iff] at e0
  obtain ⟨⟨d1, S1⟩, e1, e2⟩ := e0
  cases d1 <;> (try (simp at e2; done))
  rename_i ds
  simp only [Option.bind_eq_some_iff, Option.map_eq_some_iff] at e2
  obtain ⟨ws, e3, zs, e4, e5⟩ := e2
  cases e5
  obtain ⟨lz, gz⟩ := slotInts_get e4
  refine wpAny_Call_Name_kw (ld_blt I hg hm (u := .builtin "all") (by decide +kernel) ?_ (by decide) (by decide))
  refine PyProof.Rows.callWith_builtin1 ?_ hse (by rfl)
  rw [hse]
  show wpAny _ _ (spliced ((false, eval (.GeneratorExp elt [⟨.Name x px, e, [], 0⟩] scope gpos) X.env) :: backTo pos (starEach [] X.env))) _ _ s
  refine Calls.spliced_cons (gen1 (R := fun n q H1 => n = ds.length ∧ q = atW ds (pb zs) ∧ ∃ B1, Same B B1 ∧ Rep E B1 H1 σ S') hr TB hcode S he hs I ?_ fun n q H1 g s5 hR hG => ?_)
  · refine ⟨B, S0, _, S', R, e1, fun v B1 H1 s1 R1 dv => ⟨(R1.tabs P hP).1, fun u st ru I1 => ?_⟩⟩
    cases dv with
    | @tup a vs _ h r =>
      cases ru
      obtain ⟨ev, el, eg⟩ := flatsOf_dp e3 r
      obtain ⟨its, rv, pl, hz⟩ := I1.tuple (xs := vs) (a := a) (by rw [hK]; exact same_seqT R1.sub h)
      obtain ⟨⟨ps, hps, _⟩, _⟩ := R1.tabs P hP
      have hPs : st.heap.get? P = some { cls := .none, data := .fields ps } := I1.hok P _ hps
      have haP : a ≠ P := fun z => by
        obtain ⟨o, ho, hc, _⟩ := pl
        rw [z, hPs] at ho
        cases ho
        cases hc
      have hPlt := Heap.lt_size hPs
      have hal := pl.lt
      have hits : its.length = ds.length := by rw [← rv.length, ev, el]
      have pl' : st.heap.IsTuple a its.toArray := pl
      obtain ⟨m1, hm1, hl1⟩ := I1.loc
      refine wpAny_pyIter_tuple pl' ⟨st.heap.objs.size, [st.heap.objs.size, a], [st.heap.objs.size], its.toArray.size, _, _, atW ds (pb zs), rfl, ⟨⟨_, st.toks, rfl, fun b o q => Heap.get?_push_of_some _ q, by rw [Heap.size_push]; omega⟩, fun A' hA => Walks.tuple hA st.heap.objs.size a (Nat.ne_of_lt hal) its.toArray, ⟨⟨_, Heap.get?_push_size _ rfl, rfl, rfl⟩, pl'.push _⟩, fun b hb => ?_, fun b hb => ?_⟩, ⟨by simp [hits], rfl, B1, s1, R1⟩, ?_⟩
      · rcases List.mem_cons.mp hb with z | z
        · rw [z]; exact ⟨by rw [Heap.size_push]; exact Nat.lt_succ_self _, fun w => by rw [w] at hPlt; exact Nat.lt_irrefl _ hPlt⟩
        · rw [List.mem_singleton.mp z]; exact ⟨by rw [Heap.size_push]; exact Nat.lt_succ_of_lt hal, haP⟩
      · rw [List.mem_singleton.mp hb]; exact Nat.le_refl _
      · intro cenv A' E' i y s' m hc hcg hcb hcc hrA hy hn hmx hk
        have hy2 : its[i]? = some y := by simpa using hy
        obtain ⟨hi, _⟩ := List.getElem?_eq_some_iff.mp hy2
        have hi2 : i < ds.length := by omega
        have hi3 : i < ws.length := by omega
        have hv : vs[i]? = some ws[i] := by rw [ev, List.getElem?_eq_getElem hi3]
        obtain ⟨u, hu, ru⟩ := rv.get hv
        rw [hy2] at hu
        cases hu
        have hPlt2 : P < st.heap.objs.size := hPlt
        have big : ∀ b o, b ≠ P → st.heap.get? b = some o → s'.heap.get? b = some o := fun b o hb e => hk b o hb (fun z => by
          rw [List.mem_singleton.mp z] at e
          exact Nat.lt_irrefl _ (Heap.lt_size e)) e
        have hq : QC X cenv ((x, ws[i]) :: (fvs.map (·.1)).zip (zs.map V.int)) s' := by
          refine ⟨by rw [hc]; exact S.kind, hcg, hcb, I1.mod, fun b o e => big b o (fun z => ?_) (I1.bk b o e), m, hn, fun z w hw => ?_⟩
          · have := (I1.bs b o e).2
            rw [z] at this
            rw [this] at hps
            cases hps
          · rw [List.lookup_cons] at hw
            split at hw
            · rename_i hzx
              have : z = x := by simpa using hzx
              subst this
              cases hw
              exact ⟨_, ru, .inl ⟨by show cenv.scope.names.lookup _ = _; rw [hc]; exact S.loc, hmx⟩⟩
            · obtain ⟨j, hj⟩ := List.getElem?_of_mem (PySem.mem_of_lookup hw)
              rw [List.getElem?_zip_eq_some] at hj
              obtain ⟨hj1, hj2⟩ := hj
              rw [List.getElem?_map, Option.map_eq_some_iff] at hj1 hj2
              obtain ⟨q, hq1, hq2⟩ := hj1
              obtain ⟨zz, hz1, hz2⟩ := hj2
              obtain ⟨i0, hi0, hS⟩ := gz j zz hz1
              rw [List.getElem?_map, hq1] at hi0
              cases hi0
              obtain ⟨f1, f2, f3, f4⟩ := hfv q (List.mem_of_getElem? hq1)
              obtain ⟨v0, g1, g2⟩ := R1.val q.2 _ hS
              cases g2
              obtain ⟨u0, ru0, lk⟩ := hl1 q.2 q.1 _ f1 g1 (.inr (.inl f2))
              subst hz2
              have hq2 : q.1 = z := hq2
              rcases lk with ⟨kk0, _⟩ | ⟨_, cc, hcc2, ob, hob, hdt⟩
              · have : X.env.scope.names.lookup q.1 = some .local := kk0
                rw [f2] at this
                cases this
              · refine ⟨u0, ru0, .inr ⟨.inr ?_, cc, ?_, ob, big cc ob (fun w => ?_) hob, hdt⟩⟩
                · show cenv.scope.names.lookup z = _
                  rw [hc, ← hq2]; exact f4
                · rw [hcc, ← hq2]; exact clo_lookup f3 hcc2
                · rw [w, hPs] at hob
                  cases hob
                  cases hdt
        refine hel cenv zs ds[i] ws[i] (eg i hi2 hi3) hc (by rw [lz, List.length_map]) A' E' s' _ hrA hq fun u s3 r3 k3 => ⟨?_, k3⟩
        have : atW ds (pb zs) i = pb zs ds[i] := by
          unfold atW
          rw [List.getElem?_eq_getElem hi2]
          rfl
        rw [this]
        exact r3
  · obtain ⟨rfl, rfl, B1, s1, R1⟩ := hR
    obtain ⟨fp, wr, G, F, Stt, W, hst, htr, hI⟩ := hG
    refine Calls.spliced_nil ?_
    have TT : TruthOf X.prog X.w X.A.in1 F (atW ds (pb zs)) := fun j y sj Qj Ej hy hQj => by
      rw [htr j y hy]
      exact wpAny_truthy_bool hQj
    refine call_all_walkS (W.self 0 _ _ _ hst ⟨g, fp, wr, G, _, F, Stt, _, rfl, W, hst, TT, fun s' hmv => ?_⟩)
    obtain ⟨H2, hT, J⟩ := hI s' hmv
    have R2 := R1.tabbed hP hT
    refine ⟨.bl _, H2, J, rfl, ?_⟩
    rw [all_atW]
    exact kk _ B1 H2 s1 R2 (.bl _)
end
/-- isinstance(e, T) of a flat thing -/
def flatTy : V → Option String
  | .non => some "NoneType"
  | .bl _ => some "bool"
  | .int _ => some "int"
  | .str _ => some "str"
  | _ => none
theorem qe_isiV {X : Cx} {env : Env} {L : List (Str × V)} {k : Nat} {pos : Pos} {e : Expr} {p p2 : Pos} {v : V} {T : Str} {Tn Tv : String} {r : Bool} (hg : QGl env "isinstance") (hm : X.mg "isinstance" = none) (hg2 : QGl env T) (hm2 : X.mg T = none) (hv2 : bootBuiltins T = some (.type Tn)) (ht : flatTy v = some Tv) (hk : kitB Tv Tn = some r) (he : QE X env L k e v) (hn : T ≠ "__name__" := by decide) (hdb : (T == ("__debug__" : Str)) = false := by decide)
    (hs : starEach [e, .Name T p2] env = (false, eval e env) :: starEach [.Name T p2] env := by rfl) (hs2 : starEach [.Name T p2] env = (false, eval (.Name T p2) env) :: starEach [] env := by rfl) (hpl : (backTo pos (starEach [.Name T p2] env)).any (·.1) = false := by rfl) : QE X env L k (.Call (.Name "isinstance" p) [e, .Name T p2] [] pos) (.bl r) := fun A Ex s Q hr q hQ => by
  refine wpAny_Call_Name_kw (q_blt q hg hm (u := .builtin "isinstance") (by decide +kernel) ?_ (by decide) (by decide))
  refine PyProof.Rows.callWith_builtin1 (args_cons (he A Ex s _ hr q fun u s1 r1 k1 => args_cons (q_blt (q.keeps k1) hg2 hm2 hv2 (args_nil ?_) hn hdb) hs2) hs) hs hpl
  cases v with
  | int i =>
    cases ht
    obtain ⟨t, rfl⟩ := r1
    exact PySem.W.kia_one PySem.W.kitx_int (q.keeps k1).kIn True.intro (kit_ty (K := X.K) hk) (fun z => nomatch z) fun tk => hQ _ _ rfl (keeps_trans k1 (keeps_tok _ _))
  | str z =>
    cases ht
    obtain ⟨t, rfl⟩ := r1
    exact PySem.W.kia_one PySem.W.kitx_str (q.keeps k1).kIn True.intro (kit_ty (K := X.K) hk) (fun z => nomatch z) fun tk => hQ _ _ rfl (keeps_trans k1 (keeps_tok _ _))
  | bl b =>
    cases ht
    cases r1
    exact PySem.W.kia_one PySem.W.kitx_bool (q.keeps k1).kIn True.intro (kit_ty (K := X.K) hk) (fun z => nomatch z) fun tk => hQ _ _ rfl (keeps_trans k1 (keeps_tok _ _))
  | non =>
    cases ht
    cases r1
    exact PySem.W.kia_one PySem.W.kitx_none (q.keeps k1).kIn True.intro (kit_ty (K := X.K) hk) (fun z => nomatch z) fun tk => hQ _ _ rfl (keeps_trans k1 (keeps_tok _ _))
  | _ => cases ht
theorem qe_andF {X : Cx} {env : Env} {L : List (Str × V)} {k : Nat} {pos : Pos} {a b : Expr} {rest : List Expr} (ha : QE X env L k a (.bl false)) : QE X env L k (.BoolOp .And (a :: b :: rest) pos) (.bl false) := fun A Ex s Q hr q hQ => by
  refine BoolOp_and (ha A Ex s _ hr q fun u s1 r k1 => ?_)
  cases r
  exact wpAny_truthy_bool (ite_ff (hQ _ _ rfl k1))
end BC
set_option Elab.async false
set_option linter.all false
set_option maxRecDepth 100000
set_option maxHeartbeats 4000000
namespace BC
open PySem PySem.Spec PyProof.Rows L2 GxR
/-! ### a tuple times 1 -/
theorem tuple_mul1 (l : Addr) (items : Array Value) (n : Nat) (dd : Option Addr) (sl : Array (Option Value)) (x : Int) (u : Tok) (c0 : (decide (x < -(2 ^ 63)) || decide (x ≥ 2 ^ 63)) = false) (c1 : (items.isEmpty || x == 1) = true) :
    Meets (Builtin.«tuple.__mul__» ⟨[.ref l, .int x u], []⟩) (fun _ R s => s.heap.get? l = some { cls := .type "tuple", dict := dd, data := .seq items n, slots := sl } ∧ R (.ok (.ret (Value.ref l))) s) :=
  .of_wp fun prog w A R s h => by
    obtain ⟨hp, g, d, tk, os⟩ := s
    obtain ⟨hl, h⟩ := h
    have f1 := AutoSeq1.idx_int
    wp_walk using wpAny_loadPart' hl
    repeat (first
      | (refine wpAny_ite_false (decide_eq_false (by rw [c0]; exact Bool.false_ne_true)) ?_; wp_walk using wpAny_loadPart' hl)
      | (refine wpAny_ite_true (decide_eq_true c1) ?_; wp_walk using wpAny_loadPart' hl))
    exact ⟨_, rfl, h⟩
def rRep1 (K : PySem.W.Frag) : R2 := fun x y H Q => ∃ l xs, x = .ref l ∧ y = .int 1 ∧ SqT K H l xs ∧ Q (.ref l) H
theorem op_rep1 {X : Cx} : OpR X (binaryOp .Mult) (rRep1 X.K) := by
  intro pins s σ H x y v u Q I rx ry h
  obtain ⟨l, xs, rfl, rfl, hT, q⟩ := h
  cases rx
  obtain ⟨t, rfl⟩ := ry
  obtain ⟨its, r, ⟨⟨cls, dd, data, sl⟩, ho, hc, n, hd⟩, hs⟩ := I.tuple hT
  simp only at hc hd
  subst hc hd
  have c0 : (decide ((1 : Int) < -(2 ^ 63)) || decide ((1 : Int) ≥ 2 ^ 63)) = false := by decide
  have c1 : (its.toArray.isEmpty || (1 : Int) == 1) = true := by
    rw [show ((1 : Int) == 1) = true from rfl, Bool.or_true]
  exact wpAny_binaryOp_repeat_ref (T := "tuple") (U := "int") (by decide) ⟨_, ho, rfl⟩ (fun s' => typeIs_int s' 1 t) noFill_tuple_mul F.fills_int_mul F.slot_int_rmul repeat_tuple F.slot_int_index.lookup
    (call_meets F.slot_int_rmul (typeIs_int s 1 t) F.entry_int_rmul (F.args_int_rmul_2 _ _) (int_rmul_tuple 1 t l its.toArray n dd sl)
      ⟨ho, rfl, ⟨_, ho, rfl⟩, call_meets F.slot_tuple_mul ⟨_, ho, rfl⟩ F.entry_tuple_mul (F.args_tuple_mul_2 _ _) (tuple_mul1 l its.toArray n dd sl 1 t c0 c1) ⟨ho, ⟨.ref l, H, I, rfl, q⟩⟩⟩)
/-- a product, a tuple times 1 too -/
def gMul1 : D → D → Option D
  | .tuple xs, .int j => if j = 1 then some (.tuple xs) else gMul (.tuple xs) (.int j)
  | d, e => gMul d e
theorem o_mul1 {X : Cx} {E : En} (hK : X.K = E.K) : OpD X E (binaryOp .Mult) gMul1 := by
  intro σ S B H x y d e z Q R dx dy hz k
  unfold gMul1 at hz
  split at hz
  · rename_i xs j
    split at hz
    · rename_i hj
      subst hj
      cases hz
      cases dx with
      | @tup a1 vs _ h1 r1 =>
        cases dy
        exact ⟨_, op_rep1, a1, vs, rfl, rfl, by rw [hK]; exact same_seqT R.sub h1, k _ B H (Same.refl B) R (.tup h1 r1)⟩
    · exact o_mul hK _ _ _ _ _ _ _ _ _ _ R dx dy hz k
  · exact o_mul hK _ _ _ _ _ _ _ _ _ _ R dx dy hz k
@[simp] theorem gMul1_one {xs : List D} : gMul1 (.tuple xs) (.int 1) = some (.tuple xs) := rfl
end BC
set_option Elab.async false
set_option linter.all false
set_option maxRecDepth 100000
set_option maxHeartbeats 2000000
namespace BC
open PySem PySem.Spec PyProof.Rows L2 GxR
/-! ### d.get(k), d a name's own dict keyed by tuples -/
def xGetT1 (i : Nat) (fk : DX) : DX := fun S => match S[i]? with
  | some (.own (.dic _)) => (fk S).bind fun p => match p.2[i]? with
    | some (.own (.dic kvs)) => (keyT p.1).map fun k => ((valT kvs k).getD .none, p.2)
    | _ => none
  | _ => none
@[simp] theorem xGetT1_eq {i : Nat} {fk : DX} {S : SS} : xGetT1 i fk S = match S[i]? with
  | some (.own (.dic _)) => (fk S).bind fun p => match p.2[i]? with
    | some (.own (.dic kvs)) => (keyT p.1).map fun k => ((valT kvs k).getD .none, p.2)
    | _ => none
  | _ => none := rfl
section
variable {X : Cx} {E : En} {a b : Expr} {fb : DX}
theorem d_getT1 {i : Nat} {apos cpos : Pos} (hu : X.A.units + 65 < cLine) (ha : PE X a (tVar i)) (hb : PE X b (up E fb)) (m : M1 X a "get" apos b cpos) : PE X (.Call (.Attribute a "get" apos) [b] [] cpos) (up E (xGetT1 i fb)) :=
  PE.imp (pe_dget1 (by omega) ha hb m) fun σ H Q ⟨B, S, d, S', R, e, k⟩ => by
    unfold xGetT1 at e
    split at e
    · rename_i ds0 h0
      obtain ⟨a0, o0, es, _, hH0, ⟨ws0, rfl, _⟩, _⟩ := R.own i _ h0
      simp only [Option.bind_eq_some_iff] at e
      obtain ⟨⟨d2, S2⟩, e2, e4⟩ := e
      split at e4
      · rename_i ds h1
        simp only at h1
        simp only [Option.map_eq_some_iff] at e4
        obtain ⟨k0, ek, e6⟩ := e4
        cases e6
        refine ⟨_, es, _, rfl, .inr ⟨_, .inl hH0⟩, B, S, _, _, R, e2, fun y B2 H2 s2 R2 dy => ?_⟩
        obtain ⟨p, rfl, hp⟩ := key_at dy ek
        obtain ⟨a1, o1, es1, _, hH, ⟨ws, rfl, r⟩, _⟩ := R2.own i _ h1
        rw [es] at es1
        cases es1
        refine ⟨_, DGet.t hH (R2.sub _ _ hp), ?_⟩
        cases hv : valT ds k0 with
        | none =>
          rw [(dit_val r).2.1 hv]
          rw [hv] at k
          exact k _ B2 H2 s2 R2 .non
        | some w =>
          obtain ⟨v, h3, h4⟩ := (dit_val r).1 hv
          rw [h3]
          rw [hv] at k
          exact k v B2 H2 s2 R2 h4
      · cases e4
    · cases e
end
end BC
set_option Elab.async false
set_option linter.all false
set_option maxRecDepth 100000
set_option maxHeartbeats 2000000
namespace BC
open PySem PySem.Spec PyProof.Rows L2 GxR
/-! ### {k: v}, k a tuple -/
theorem wpAny_Dict1 {prog : Program} {w : World} {A : Around} {Ex : Value → Shared → Prop} {s : Shared} {env : Env} {k v : Expr} {pos : Pos} {Q : Value → Shared → Prop}
    (h : wpAny (model prog w) A (evalPairs (pairTrees [some k] [v] env pos)) (fun vs s1 => ∃ kv vv, vs = [(kv, vv)] ∧ wpAny (model prog w) A (dictSet s.heap.objs.size kv vv) (fun _ s2 => Q (.ref s.heap.objs.size) s2) Ex s1) Ex
      { s with heap := s.heap.push { cls := .type "dict", data := .dict #[] } }) :
    wpAny (model prog w) A (eval (.Dict [some k] [v] pos) env) Q Ex s := by
  rw [arm_eval_Dict, zip_pairTrees [some k] [v] env pos rfl rfl, dictDisplay_pairs (pairTrees [some k] [v] env pos) (fun z => nomatch z) (by rw [pairTrees_length _ _ _ _ rfl rfl]; show 1 < 17; decide)]
  refine wpAny_bind (wpAny_standAt (wpAny_bind ?_))
  unfold subDict
  refine wpAny_bind (wpAny_alloc ?_)
  refine wpAny_bind (wpAny_holding ?_)
  rw [if_pos (by rw [pairTrees_length _ _ _ _ rfl rfl]; show 1 ≤ 15; decide)]
  refine wpAny_bind (wpAny_mono h (fun vs s1 h1 => ?_) fun _ _ e => e)
  obtain ⟨kv, vv, rfl, hd⟩ := h1
  refine wpAny_holding ?_
  rw [List.forIn_cons]
  refine wpAny_bind (wpAny_bind ?_)
  refine wpAny_bind (wpAny_mono hd (fun _ s2 h2 => ?_) fun _ _ e => e)
  refine wpAny_pure ?_
  show wpAny _ _ (forIn [] _ _) _ _ _
  rw [List.forIn_nil]
  exact wpAny_pure (wpAny_pure (wpAny_pure (wpAny_pure h2)))
def tDisp1T (tk tv : TE) : TE := fun σ H Q => ∀ p, H p = none → tPairs [(tk, tv)] σ (upd H p (.dT [])) fun ps H2 => H2 p = some (.dT []) ∧ ∃ (ks : List Key) (b : Addr) (y : V), ps = [(V.ref b, y)] ∧ H2 b = some (.tup (ks.map kV)) ∧ Q (.ref p) (upd H2 p (.dT (putK [] ks y)))
theorem pe_dispT1 {X : Cx} {k v : Expr} {pos : Pos} {tk tv : TE} (hu : X.A.units + 1 < cLine) (hk : PE X k tk) (hv : PE X v tv) : PE X (.Dict [some k] [v] pos) (tDisp1T tk tv) := by
  refine ⟨fun pins s σ H Q I q => ?_⟩
  have hn := I.hok.fresh (Nat.le_refl s.heap.objs.size)
  have I1 := I.laid (a := s.heap.objs.size) (o := .dT []) (h' := s.heap.push { cls := .type "dict", data := .dict #[] }) (t' := s.toks) (fun _ _ q => Heap.get?_push_of_some _ q) (Nat.le_refl _) (dt_empty s.heap I.big)
  refine wpAny_Dict1 (thn ((pps_cons hk hv pps_nil).run pins _ σ _ _ I1 (q _ hn)) fun vs s2 ⟨ps, H2, I2, rel, e, ks, b, y, ep, eb, q2⟩ => ?_)
  subst ep
  rcases vs with _ | ⟨⟨kv, vv⟩, vs⟩
  · cases rel
  · obtain ⟨ra, ry, rfl⟩ : RelV (V.ref b) kv ∧ RelV y vv ∧ vs = [] := by
      cases rel with
      | cons r0 r1 => exact ⟨r0.1, r0.2, by cases r1; rfl⟩
    cases (show kv = Value.ref b from ra)
    refine ⟨_, _, rfl, ?_⟩
    obtain ⟨z, hd, xs, rel0, dd⟩ := dt_of I2.hok e
    have hz : xs.length ≤ sizeLine := by rw [← Paired.length rel0]; exact z
    have hl : (putK ([] : List (List Key × V)) ks y).length ≤ sizeLine := by
      have := length_putK ([] : List (List Key × V)) ks y
      rw [sizeLine_eq]
      simp at this
      omega
    refine wpAny_dictSet_heap (hsz := hz) (by show X.A.units < cLine; omega) (key_of I2.hok eb) dd fun h' dd' hs => ?_
    obtain ⟨q0, es, ep, hq, h2, h3, h4, _, h5⟩ := dd'
    refine ⟨.ref s.heap.objs.size, upd H2 s.heap.objs.size (.dT (putK [] ks y)), d_write I2 (by rw [e]; exact True.intro) hs ⟨q0, hq⟩ ⟨hl, hd, _, (rel0.put ks eb ry).keeps fun c ys ec => ?_, q0, es, ep, hq, h2, h3, h4, h5⟩, rfl, q2⟩
    rw [upd_ne (ne_of ec e (fun z => nomatch z))]
    exact ec
end BC
set_option Elab.async false
set_option linter.all false
set_option maxRecDepth 100000
set_option maxHeartbeats 2000000
namespace BC
open PySem PySem.Spec PyProof.Rows L2 GxR
/-! ### x = {k: v}, k a tuple of ints: a new dict of x's own -/
abbrev pend (E : En) (p : Addr) (o : HO) : En := { E with H0 := upd E.H0 p o }
section
variable {E : En} {B H B' H' : Hp} {σ : L2.St} {S S1 : SS} {p : Addr} {o : HO}
theorem pend_in (R : Rep E B H σ S) (hpn : H p = none) (ho : NoTbl o) : Rep (pend E p o) B (upd H p o) σ S := by
  have R0 : Rep E B (upd H p o) σ S := R.fresh hpn ho
  have zb : B p = none := R.sub.free hpn
  have zB0 : E.B0 p = none := R.base.free zb
  refine ⟨R0.base, R0.sub, fun q hq nt => ?_, fun q o' hq h1 h2 => ?_, fun q hq => ?_, R0.tabs, R0.par, R0.len, R0.val, fun i c hi => ?_, R0.sep⟩
  · by_cases hqp : q = p
    · rw [hqp, zb]; exact zB0.symm
    · exact R0.new q (by rw [show (pend E p o).H0 = upd E.H0 p o from rfl, upd_ne hqp] at hq; exact hq) nt
  · by_cases hqp : q = p
    · rw [hqp] at hq ⊢; rw [upd_same]; rw [← hq]; exact upd_same.symm
    · exact R0.frame q o' (by rw [show (pend E p o).H0 = upd E.H0 p o from rfl, upd_ne hqp] at hq; exact hq) h1 h2
  · by_cases hqp : q = p
    · rw [hqp, upd_same]; simp
    · exact R0.keep q (by rw [show (pend E p o).H0 = upd E.H0 p o from rfl, upd_ne hqp] at hq; exact hq)
  · obtain ⟨a0, o0, g1, g2, g3, g4, g5⟩ := R.own i c hi
    have hne : a0 ≠ p := ne_of_none g3 hpn
    refine ⟨a0, o0, g1, g2, by rw [upd_ne hne]; exact g3, g4, g5.elim (fun z => .inl ?_) .inr⟩
    show upd E.H0 p o a0 = none
    rw [upd_ne hne]; exact z
theorem pend_out (R : Rep E B H σ S) (hpn : H p = none) (ho : NoTbl o) (R' : Rep (pend E p o) B' H' σ S1) (hnt : ∀ xs, o ≠ .tup xs := by first | assumption | (intro _ z; cases z)) :
    H' p = some o ∧ B' p = none ∧ Rep E B' H' σ S1 ∧ ∀ (j : Nat) c, S1[j]? = some (.own c) → σ[j]? ≠ some (some (V.ref p)) := by
  have z0 := h0_of R hpn
  have zb : B p = none := R.sub.free hpn
  have zB0 : E.B0 p = none := R.base.free zb
  have npa : ∀ j, (j, p) ∉ E.pa := fun j hj => by
    obtain ⟨q1, c, q2⟩ := R.par _ hj
    exact own_ne R hpn j c q2 q1
  have hp' : H' p = some o := R'.frame p _ upd_same ho npa
  have hb0 : B' p = none := (R'.new p (by rw [show (pend E p o).H0 = upd E.H0 p o from rfl, upd_same]; simp) fun xs z => hnt xs (Option.some.inj (hp'.symm.trans z))).trans zB0
  have ne1 : ∀ q, E.H0 q ≠ none → (pend E p o).H0 q = E.H0 q := fun q hq => upd_ne fun z => hq (by rw [z]; exact z0)
  refine ⟨hp', hb0, ?_, ?_⟩
  · refine ⟨R'.base, R'.sub, fun q hq nt => R'.new q (by rw [ne1 q hq]; exact hq) nt, fun q o' hq h1 h2 => R'.frame q o' (by rw [ne1 q (by rw [hq]; simp)]; exact hq) h1 h2, fun q hq => R'.keep q (by rw [ne1 q hq]; exact hq), R'.tabs, R'.par, R'.len, R'.val, fun i c hi => ?_, R'.sep⟩
    obtain ⟨a0, o0, g1, g2, g3, g4, g5⟩ := R'.own i c hi
    refine ⟨a0, o0, g1, g2, g3, g4, g5.elim (fun z => .inl ?_) .inr⟩
    have z : upd E.H0 p o a0 = none := z
    by_cases hap : a0 = p
    · rw [hap, upd_same] at z; cases z
    · rw [upd_ne hap] at z; exact z
  · intro j c hj hz
    obtain ⟨a0, o0, g1, g2, g3, g4, g5⟩ := R'.own j c hj
    rw [hz] at g1
    cases g1
    rcases g5 with z | z
    · have z : upd E.H0 p o p = none := z
      rw [upd_same] at z
      cases z
    · exact npa _ z
end
/-- x = {k: v} -/
def sNewT1 (i : Nat) (fk fv : DX) : SX := fun S => (fk S).bind fun p => (fv p.2).bind fun q => (keyT p.1).bind fun k => if i < q.2.length then some (.nx (q.2.set i (.own (.dic [(k, q.1)])))) else none
@[simp] theorem sNewT1_eq {i : Nat} {fk fv : DX} {S : SS} : sNewT1 i fk fv S = (fk S).bind fun p => (fv p.2).bind fun q => (keyT p.1).bind fun k => if i < q.2.length then some (.nx (q.2.set i (.own (.dic [(k, q.1)])))) else none := rfl
section
variable {X : Cx} {E : En} {kx e : Expr} {fk fv : DX} {pos : Pos}
theorem s_newT1 {i : Nat} {x : Str} {pos' pos2 : Pos} (hu : X.A.units + 65 < cLine) (hp : ∀ q ∈ E.pa, q.1 ≠ i) (hN : X.N.Nodup) (hi : X.N[i]? = some x) (hx : Loc X.env.scope x)
    (hk : ∀ E' : En, E'.K = E.K → E'.T = E.T → E'.pa = E.pa → PE X kx (up E' fk)) (hv : ∀ E' : En, E'.K = E.K → E'.T = E.T → E'.pa = E.pa → PE X e (up E' fv))
    (hs : swapsWith (.Dict [some kx] [e] pos2) (some (.Name x pos')) pos.line X.env = pure false := by rfl) (hf : X.fn x = true ∨ X.env.scope.names.lookup x = some .local := by first | exact .inl rfl | exact .inr rfl | assumption) :
    PS X (.Assign [.Name x pos'] (.Dict [some kx] [e] pos2) pos) (upS E (sNewT1 i fk fv)) :=
  ⟨fun pins s σ H D I ⟨B, S, r, R, e0, k⟩ => by
    unfold sNewT1 at e0
    simp only [Option.bind_eq_some_iff] at e0
    obtain ⟨⟨d1, S1⟩, e1, ⟨d2, S2⟩, e2, k0, ek, e3⟩ := e0
    split at e3
    · rename_i hl
      cases e3
      have hk' : ∀ q : {q : Addr // H q = none}, PE X kx (up (pend E q.1 (.dT [])) fk) := fun q => hk _ rfl rfl rfl
      have hv' : ∀ q : {q : Addr // H q = none}, PE X e (up (pend E q.1 (.dT [])) fv) := fun q => hv _ rfl rfl rfl
      have mk : PE X kx (fun σ' H' Q => ∃ p, H p = none ∧ up (pend E p (.dT [])) fk σ' H' Q) :=
        ⟨fun pins s σ' H' Q I ⟨p, hn, q⟩ => (hk' ⟨p, hn⟩).run pins s σ' H' Q I q⟩
      have mv : PE X e (fun σ' H' Q => ∃ p, H p = none ∧ up (pend E p (.dT [])) fv σ' H' Q) :=
        ⟨fun pins s σ' H' Q I ⟨p, hn, q⟩ => (hv' ⟨p, hn⟩).run pins s σ' H' Q I q⟩
      refine (ps_set hN hi hx (pe_dispT1 (by omega) mk mv) hs hf).run pins s σ H D I ?_
      intro p hpn
      refine ⟨p, hpn, B, S, d1, S1, pend_in R hpn ntDit, e1, fun x1 B1 H1 s1 R1 dx => ⟨p, hpn, B1, S1, d2, S2, R1, e2, fun y B2 H2 s2 R2 dy => ?_⟩⟩
      obtain ⟨b, rfl, hb⟩ := key_at (dp_mono s2 dx) ek
      obtain ⟨h', hb0, R3, sep⟩ := pend_out R hpn ntDit R2
      refine ⟨h', k0.map Sum.inl, b, y, rfl, R3.sub _ _ hb, ?_⟩
      have R4 := R3.setOwn (c := .dic []) (h0_of R hpn) hb0 h' ⟨_, rfl, .nil⟩ sep hp hl
      have hl2 : i < σ.length := by rw [← R3.len]; exact hl
      have R5 := R4.write (i := i) (a := p) (c := .dic []) (c' := .dic [(k0, d2)]) (o := .dT (putK [] (k0.map Sum.inl) y)) (by simp [hl]) (by simp [hl2]) ⟨_, rfl, .cons ⟨rfl, dy⟩ .nil⟩
      rw [List.set_set] at R5
      exact k _ B2 _ (s1.trans s2) R5
    · cases e3⟩
end
end BC
set_option Elab.async false
set_option linter.all false
set_option maxRecDepth 100000
set_option maxHeartbeats 2000000
namespace BC
open PySem PySem.Spec PyProof.Rows L2 GxR
/-! ### x, y, z = [e], {k: v}, 0: an own list, an own dict, a number -/
def sParLD (i j l : Nat) (f1 fk fv : DX) (n : Int) : SX := fun S => (f1 S).bind fun p1 => (fk p1.2).bind fun p2 => (fv p2.2).bind fun p3 => (keyT p2.1).bind fun k =>
  if i < p3.2.length ∧ j < p3.2.length ∧ l < p3.2.length then some (.nx (((p3.2.set i (.own (.lst [p1.1]))).set j (.own (.dic [(k, p3.1)]))).set l (.val (.int n)))) else none
@[simp] theorem sParLD_eq {i j l : Nat} {f1 fk fv : DX} {n : Int} {S : SS} : sParLD i j l f1 fk fv n S = (f1 S).bind fun p1 => (fk p1.2).bind fun p2 => (fv p2.2).bind fun p3 => (keyT p2.1).bind fun k =>
  if i < p3.2.length ∧ j < p3.2.length ∧ l < p3.2.length then some (.nx (((p3.2.set i (.own (.lst [p1.1]))).set j (.own (.dic [(k, p3.1)]))).set l (.val (.int n)))) else none := rfl
section
variable {X : Cx} {E : En} {e1 kx e : Expr} {f1 fk fv : DX} {pos : Pos}
theorem s_parLD {i j l : Nat} {x y z : Str} {px py pz pt : Pos} {kt k2 pt2} {lp pd pc : Pos} {n : Int} {jj} (hu : X.A.units + 65 < cLine) (hp : ∀ q ∈ E.pa, q.1 ≠ i) (hp2 : ∀ q ∈ E.pa, q.1 ≠ j) (hp3 : ∀ q ∈ E.pa, q.1 ≠ l) (calm : X.calm = true) (hN : X.N.Nodup)
    (hi : X.N[i]? = some x) (hj : X.N[j]? = some y) (hl : X.N[l]? = some z) (hij : i ≠ j) (hil : i ≠ l) (hjl : j ≠ l)
    (hx : X.env.scope.names.lookup x = some .local) (hy : X.env.scope.names.lookup y = some .local) (hz : X.env.scope.names.lookup z = some .local)
    (h1 : PE X e1 (up E f1)) (hk : ∀ E' : En, E'.K = E.K → E'.T = E.T → E'.pa = E.pa → PE X kx (up E' fk)) (hv : ∀ E' : En, E'.K = E.K → E'.T = E.T → E'.pa = E.pa → PE X e (up E' fv))
    (hw : swappedStores [.Tuple [.Name x px, .Name y py, .Name z pz] kt pt] (.Tuple [.List [e1] lp, .Dict [some kx] [e] pd, .Constant (.int n) jj pc] k2 pt2) X.env = pure (some [x, y, z]))
    (hs : swapsWithSole [.Tuple [.Name x px, .Name y py, .Name z pz] kt pt] (.Tuple [.List [e1] lp, .Dict [some kx] [e] pd, .Constant (.int n) jj pc] k2 pt2) pos.line X.env = pure false := by rfl)
    (s1 : starEach [.List [e1] lp, .Dict [some kx] [e] pd, .Constant (.int n) jj pc] X.env = (false, eval (.List [e1] lp) X.env) :: starEach [.Dict [some kx] [e] pd, .Constant (.int n) jj pc] X.env := by rfl)
    (s2 : starEach [.Dict [some kx] [e] pd, .Constant (.int n) jj pc] X.env = (false, eval (.Dict [some kx] [e] pd) X.env) :: starEach [.Constant (.int n) jj pc] X.env := by rfl)
    (s3 : starEach [e1] X.env = (false, eval e1 X.env) :: starEach [] X.env := by rfl) :
    PS X (.Assign [.Tuple [.Name x px, .Name y py, .Name z pz] kt pt] (.Tuple [.List [e1] lp, .Dict [some kx] [e] pd, .Constant (.int n) jj pc] k2 pt2) pos) (upS E (sParLD i j l f1 fk fv n)) :=
  ⟨fun pins s σ H D I ⟨B, S, r, R, e0, k⟩ => by
    unfold sParLD at e0
    simp only [Option.bind_eq_some_iff] at e0
    obtain ⟨⟨d1, S1⟩, q1, ⟨dk, S2⟩, q2, ⟨dv, S3⟩, q3, k0, ek, q4⟩ := e0
    split at q4
    case isFalse => cases q4
    rename_i hb
    obtain ⟨b1, b2, b3⟩ := hb
    have b1 : i < S3.length := b1
    have b2 : j < S3.length := b2
    have b3 : l < S3.length := b3
    cases q4
    have mk : PE X kx (fun σ' H' Q => ∃ E' : En, (E'.K = E.K ∧ E'.T = E.T ∧ E'.pa = E.pa) ∧ up E' fk σ' H' Q) := ⟨fun pins s σ' H' Q I ⟨E', ⟨a, b, c⟩, q⟩ => (hk E' a b c).run pins s σ' H' Q I q⟩
    have mv : PE X e (fun σ' H' Q => ∃ E' : En, (E'.K = E.K ∧ E'.T = E.T ∧ E'.pa = E.pa) ∧ up E' fv σ' H' Q) := ⟨fun pins s σ' H' Q I ⟨E', ⟨a, b, c⟩, q⟩ => (hv E' a b c).run pins s σ' H' Q I q⟩
    refine (ps_par3 calm hN hi hj hl hij hil hjl hx hy hz (pa_cons (pe_lst (pa_cons h1 pa_nil s3)) (pa_cons (pe_dispT1 (by omega) mk mv) (pa_cons pe_int pa_nil) s2) s1) hw hs).run pins s σ H D I ?_
    refine ⟨B, S, d1, S1, R, q1, fun v1 B1 H1 z1 R1 dv1 => ⟨by rw [sizeLine_eq]; simp, fun p1 hp1 => ?_⟩⟩
    intro p2 hp2n
    have R1' := pend_in (o := .lst [v1]) R1 hp1 ntLst
    refine ⟨pend (pend E p1 (.lst [v1])) p2 (.dT []), ⟨rfl, rfl, rfl⟩, B1, S1, dk, S2, pend_in R1' hp2n ntDit, q2, fun xk B2 H2 z2 R2 dxk => ⟨pend (pend E p1 (.lst [v1])) p2 (.dT []), ⟨rfl, rfl, rfl⟩, B2, S2, dv, S3, R2, q3, fun y B3 H3 z3 R3 dy => ?_⟩⟩
    obtain ⟨b, rfl, hb⟩ := key_at (dp_mono z3 dxk) ek
    obtain ⟨h3, hb3, R3', sep3⟩ := pend_out R1' hp2n ntDit R3
    obtain ⟨h1', hb1, R4, sep1⟩ := pend_out R1 hp1 ntLst R3'
    refine ⟨h3, k0.map Sum.inl, b, y, rfl, R4.sub _ _ hb, _, _, _, rfl, ?_⟩
    have p12 : p2 ≠ p1 := fun z => by rw [z, upd_same] at hp2n; cases hp2n
    have e2 : E.H0 p2 = none := by
      have := h0_of R1' hp2n
      rw [show (pend E p1 (.lst [v1])).H0 = upd E.H0 p1 (.lst [v1]) from rfl, upd_ne p12] at this
      exact this
    have ls : S3.length = σ.length := R4.len
    have R5 := R4.setOwn (c := .lst [d1]) (h0_of R1 hp1) hb1 h1' ⟨[v1], rfl, .cons (dp_mono (z2.trans z3) dv1) .nil⟩ sep1 hp b1
    have R6 := R5.setOwn (i := j) (a := p2) (c := .dic []) e2 hb3 h3 ⟨_, rfl, .nil⟩ (fun m c hm hz => by
      by_cases hmi : m = i
      · subst hmi
        rw [List.getElem?_set_self (by omega)] at hz
        exact p12 (by cases hz; rfl)
      · rw [List.getElem?_set_ne (Ne.symm hmi)] at hm hz
        exact sep3 m c hm hz) hp2 (by rw [List.length_set]; exact b2)
    have R7 := R6.write (i := j) (a := p2) (c := .dic []) (c' := .dic [(k0, dv)]) (o := .dT (putK [] (k0.map Sum.inl) y)) (by rw [List.getElem?_set_self (by rw [List.length_set]; exact b2)]) (by rw [List.getElem?_set_self (by rw [List.length_set]; omega)]) ⟨_, rfl, .cons ⟨rfl, dy⟩ .nil⟩
    rw [List.set_set] at R7
    have R8 := R7.set (i := l) (v := .int n) (d := .int n) (.int n) hp3 (by rw [List.length_set, List.length_set]; exact b3)
    exact k _ B3 _ (z1.trans (z2.trans z3)) R8⟩
end
/-! ### x, y, z = a, {k: v}, 0: any value, an own dict, a number -/
def sParVD (i j l : Nat) (f1 fk fv : DX) (n : Int) : SX := fun S => (f1 S).bind fun p1 => (fk p1.2).bind fun p2 => (fv p2.2).bind fun p3 => (keyT p2.1).bind fun k =>
  if i < p3.2.length ∧ j < p3.2.length ∧ l < p3.2.length then some (.nx (((p3.2.set i (.val p1.1)).set j (.own (.dic [(k, p3.1)]))).set l (.val (.int n)))) else none
@[simp] theorem sParVD_eq {i j l : Nat} {f1 fk fv : DX} {n : Int} {S : SS} : sParVD i j l f1 fk fv n S = (f1 S).bind fun p1 => (fk p1.2).bind fun p2 => (fv p2.2).bind fun p3 => (keyT p2.1).bind fun k =>
  if i < p3.2.length ∧ j < p3.2.length ∧ l < p3.2.length then some (.nx (((p3.2.set i (.val p1.1)).set j (.own (.dic [(k, p3.1)]))).set l (.val (.int n)))) else none := rfl
section
variable {X : Cx} {E : En} {e1 kx e : Expr} {f1 fk fv : DX} {pos : Pos}
theorem s_parVD {i j l : Nat} {x y z : Str} {px py pz pt : Pos} {kt k2 pt2} {pd pc : Pos} {n : Int} {jj} (hu : X.A.units + 65 < cLine) (hp : ∀ q ∈ E.pa, q.1 ≠ i) (hp2 : ∀ q ∈ E.pa, q.1 ≠ j) (hp3 : ∀ q ∈ E.pa, q.1 ≠ l) (calm : X.calm = true) (hN : X.N.Nodup)
    (hi : X.N[i]? = some x) (hj : X.N[j]? = some y) (hl : X.N[l]? = some z) (hij : i ≠ j) (hil : i ≠ l) (hjl : j ≠ l)
    (hx : X.env.scope.names.lookup x = some .local) (hy : X.env.scope.names.lookup y = some .local) (hz : X.env.scope.names.lookup z = some .local)
    (h1 : PE X e1 (up E f1)) (hk : ∀ E' : En, E'.K = E.K → E'.T = E.T → E'.pa = E.pa → PE X kx (up E' fk)) (hv : ∀ E' : En, E'.K = E.K → E'.T = E.T → E'.pa = E.pa → PE X e (up E' fv))
    (hw : swappedStores [.Tuple [.Name x px, .Name y py, .Name z pz] kt pt] (.Tuple [e1, .Dict [some kx] [e] pd, .Constant (.int n) jj pc] k2 pt2) X.env = pure (some [x, y, z]))
    (hs : swapsWithSole [.Tuple [.Name x px, .Name y py, .Name z pz] kt pt] (.Tuple [e1, .Dict [some kx] [e] pd, .Constant (.int n) jj pc] k2 pt2) pos.line X.env = pure false := by rfl)
    (s1 : starEach [e1, .Dict [some kx] [e] pd, .Constant (.int n) jj pc] X.env = (false, eval e1 X.env) :: starEach [.Dict [some kx] [e] pd, .Constant (.int n) jj pc] X.env := by rfl)
    (s2 : starEach [.Dict [some kx] [e] pd, .Constant (.int n) jj pc] X.env = (false, eval (.Dict [some kx] [e] pd) X.env) :: starEach [.Constant (.int n) jj pc] X.env := by rfl) :
    PS X (.Assign [.Tuple [.Name x px, .Name y py, .Name z pz] kt pt] (.Tuple [e1, .Dict [some kx] [e] pd, .Constant (.int n) jj pc] k2 pt2) pos) (upS E (sParVD i j l f1 fk fv n)) :=
  ⟨fun pins s σ H D I ⟨B, S, r, R, e0, k⟩ => by
    unfold sParVD at e0
    simp only [Option.bind_eq_some_iff] at e0
    obtain ⟨⟨d1, S1⟩, q1, ⟨dk, S2⟩, q2, ⟨dv, S3⟩, q3, k0, ek, q4⟩ := e0
    split at q4
    case isFalse => cases q4
    rename_i hb
    obtain ⟨b1, b2, b3⟩ := hb
    have b1 : i < S3.length := b1
    have b2 : j < S3.length := b2
    have b3 : l < S3.length := b3
    cases q4
    have mk : PE X kx (fun σ' H' Q => ∃ E' : En, (E'.K = E.K ∧ E'.T = E.T ∧ E'.pa = E.pa) ∧ up E' fk σ' H' Q) := ⟨fun pins s σ' H' Q I ⟨E', ⟨a, b, c⟩, q⟩ => (hk E' a b c).run pins s σ' H' Q I q⟩
    have mv : PE X e (fun σ' H' Q => ∃ E' : En, (E'.K = E.K ∧ E'.T = E.T ∧ E'.pa = E.pa) ∧ up E' fv σ' H' Q) := ⟨fun pins s σ' H' Q I ⟨E', ⟨a, b, c⟩, q⟩ => (hv E' a b c).run pins s σ' H' Q I q⟩
    refine (ps_par3 calm hN hi hj hl hij hil hjl hx hy hz (pa_cons h1 (pa_cons (pe_dispT1 (by omega) mk mv) (pa_cons pe_int pa_nil) s2) s1) hw hs).run pins s σ H D I ?_
    refine ⟨B, S, d1, S1, R, q1, fun v1 B1 H1 z1 R1 dv1 => ?_⟩
    intro p2 hp2n
    refine ⟨pend E p2 (.dT []), ⟨rfl, rfl, rfl⟩, B1, S1, dk, S2, pend_in R1 hp2n ntDit, q2, fun xk B2 H2 z2 R2 dxk => ⟨pend E p2 (.dT []), ⟨rfl, rfl, rfl⟩, B2, S2, dv, S3, R2, q3, fun y B3 H3 z3 R3 dy => ?_⟩⟩
    obtain ⟨b, rfl, hb⟩ := key_at (dp_mono z3 dxk) ek
    obtain ⟨h3, hb3, R3', sep3⟩ := pend_out R1 hp2n ntDit R3
    refine ⟨h3, k0.map Sum.inl, b, y, rfl, R3'.sub _ _ hb, _, _, _, rfl, ?_⟩
    have ls : S3.length = σ.length := R3'.len
    have R5 := R3'.set (i := i) (v := v1) (d := d1) (dp_mono (z2.trans z3) dv1) hp b1
    have R6 := R5.setOwn (i := j) (a := p2) (c := .dic []) (h0_of R1 hp2n) hb3 h3 ⟨_, rfl, .nil⟩ (fun m c hm hz => by
      by_cases hmi : m = i
      · subst hmi
        rw [List.getElem?_set_self b1] at hm
        cases hm
      · rw [List.getElem?_set_ne (Ne.symm hmi)] at hm hz
        exact sep3 m c hm hz) hp2 (by rw [List.length_set]; exact b2)
    have R7 := R6.write (i := j) (a := p2) (c := .dic []) (c' := .dic [(k0, dv)]) (o := .dT (putK [] (k0.map Sum.inl) y)) (by rw [List.getElem?_set_self (by rw [List.length_set]; exact b2)]) (by rw [List.getElem?_set_self (by rw [List.length_set]; omega)]) ⟨_, rfl, .cons ⟨rfl, dy⟩ .nil⟩
    rw [List.set_set] at R7
    have R8 := R7.set (i := l) (v := .int n) (d := .int n) (.int n) hp3 (by rw [List.length_set, List.length_set]; exact b3)
    exact k _ B3 _ (z1.trans (z2.trans z3)) R8⟩
end
end BC
set_option Elab.async false
set_option linter.all false
set_option maxRecDepth 100000
set_option maxHeartbeats 2000000
namespace BC
open PySem PySem.Spec PyProof.Rows L2 GxR
/-! ### two readings of one piece -/
theorem PE.or {X : Cx} {e : Expr} {t t' : TE} (h : PE X e t) (h' : PE X e t') : PE X e (fun σ H Q => t σ H Q ∨ t' σ H Q) := ⟨fun pins s σ H Q I q => q.elim (h.run pins s σ H Q I) (h'.run pins s σ H Q I)⟩
theorem PI.or {X : Cx} {tg iter : Expr} {t t' : TI} (h : PI X tg iter t) (h' : PI X tg iter t') : PI X tg iter (fun σ H Q => t σ H Q ∨ t' σ H Q) := ⟨fun pins s σ H Q I q => q.elim (h.run pins s σ H Q I) (h'.run pins s σ H Q I)⟩
theorem PS.or {X : Cx} {e : Stmt} {t t' : TS} (h : PS X e t) (h' : PS X e t') : PS X e (fun D σ H => t D σ H ∨ t' D σ H) := ⟨fun pins s σ H D I q => q.elim (h.run pins s σ H D I) (h'.run pins s σ H D I)⟩
section
variable {E : En} {B H : Hp} {σ : L2.St} {S : SS}
/-! ### all tuples that stand are fixed -/
def tupsOf (B H : Hp) : Hp := fun p => match B p with
  | some o => some o
  | none => match H p with
    | some (.tup xs) => some (.tup xs)
    | _ => none
theorem tupsOf_B {p : Addr} {o : HO} (h : B p = some o) : tupsOf B H p = some o := by unfold tupsOf; rw [h]
theorem tupsOf_same : Same B (tupsOf B H) := fun p o h => tupsOf_B h
theorem tupsOf_nt {p : Addr} (h : ∀ xs, H p ≠ some (.tup xs)) : tupsOf B H p = B p := by
  unfold tupsOf
  cases hb : B p with
  | some o => rfl
  | none =>
    dsimp only
    split
    · rename_i xs e; exact absurd e (h xs)
    · rfl
theorem tupsOf_tup (R : Rep E B H σ S) {q : Addr} {xs : List V} (h : H q = some (.tup xs)) : tupsOf B H q = some (.tup xs) := by
  unfold tupsOf
  cases hb : B q with
  | some o => have := R.sub _ _ hb; rw [h] at this; exact this.symm
  | none => dsimp only; rw [h]
theorem Rep.fixTups (R : Rep E B H σ S) : Rep E (tupsOf B H) H σ S := by
  refine ⟨R.base.trans tupsOf_same, fun b x e => ?_, fun p h nt => by rw [tupsOf_nt nt]; exact R.new p h nt, R.frame, R.keep, fun P hP => ?_, R.par, R.len, fun i d h => ?_, fun i c h => ?_, R.sep⟩
  · cases hb : B b with
    | some o => rw [tupsOf_B hb] at e; rw [← e]; exact R.sub _ _ hb
    | none =>
      unfold tupsOf at e
      rw [hb] at e
      dsimp only at e
      split at e
      · rename_i xs q; rw [q, ← e]
      · cases e
  · obtain ⟨⟨ps, e, t⟩, n⟩ := R.tabs P hP
    exact ⟨⟨ps, e, t⟩, by rw [tupsOf_nt (fun xs z => by rw [e] at z; cases z)]; exact n⟩
  · obtain ⟨v, e, r⟩ := R.val i d h
    exact ⟨v, e, dp_mono tupsOf_same r⟩
  · obtain ⟨a, o, e, n, h1, h2, h3⟩ := R.own i c h
    exact ⟨a, o, e, by rw [tupsOf_nt (fun xs z => cellR_nt h2 xs (Option.some.inj (h1.symm.trans z)))]; exact n, h1, cellR_mono tupsOf_same h2, h3⟩
/-- an own cell's thing becomes a value, in another clothing -/
theorem Rep.freezeG (R : Rep E B H σ S) {i : Nat} {a : Addr} {c : Cell} {o' : HO} {d : D} (hi : S[i]? = some (.own c)) (hσ : σ[i]? = some (some (V.ref a))) (hp : ∀ q ∈ E.pa, q.1 ≠ i) (ho : NoTbl o')
    (hd : Dp E.K (upd B a o') (.ref a) d) : Same B (upd B a o') ∧ Rep E (upd B a o') (upd H a o') σ (S.set i (.val d)) := by
  obtain ⟨a', o, e, hb, hH, hc, hor⟩ := R.own i _ hi
  rw [hσ] at e
  cases e
  have hl : i < S.length := (List.getElem?_eq_some_iff.mp hi).1
  have sB : Same B (upd B a o') := same_upd hb
  have h0a : E.H0 a = none := hor.elim id fun z => absurd rfl (hp _ z)
  have ne0 : ∀ q, E.H0 q ≠ none → q ≠ a := fun q h z => h (by rw [z]; exact h0a)
  have nS : ∀ (j : Nat), j ≠ i → (S.set i (Slot.val d))[j]? = S[j]? := fun (j : Nat) h => List.getElem?_set_ne (Ne.symm h)
  have oi : ∀ {j : Nat} {c}, (S.set i (Slot.val d))[j]? = some (Slot.own c) → j ≠ i ∧ S[j]? = some (Slot.own c) := fun {j : Nat} {c} h => by
    by_cases hj : j = i
    · rw [hj, List.getElem?_set_self hl] at h; cases h
    · rw [nS j hj] at h; exact ⟨hj, h⟩
  refine ⟨sB, R.base.trans sB, fun b x z => ?_, fun q h nt => ?_, fun q x h h1 h2 => ?_, fun q h => ?_, fun P hP => ?_, fun q hq => ?_, by simp [R.len], fun j e h => ?_, fun j c' h => ?_, fun j k c1 c2 x hjk h1 h2 => ?_⟩
  · by_cases hba : b = a
    · rw [hba, upd_same] at z; rw [hba, upd_same]; exact z
    · rw [upd_ne hba] at z; rw [upd_ne hba]; exact R.sub _ _ z
  · rw [upd_ne (ne0 q h)]; exact R.new q h fun xs z => nt xs (by rw [upd_ne (ne0 q h)]; exact z)
  · rw [upd_ne (ne0 q (by rw [h]; simp))]; exact R.frame q x h h1 h2
  · rw [upd_ne (ne0 q h)]; exact R.keep q h
  · obtain ⟨⟨ps, e1, t⟩, n⟩ := R.tabs P hP
    have hne : P ≠ a := fun z => by rw [z, hH] at e1; exact cellR_no hc ps (Option.some.inj e1)
    exact ⟨⟨ps, by rw [upd_ne hne]; exact e1, t⟩, by rw [upd_ne hne]; exact n⟩
  · obtain ⟨h1, c1, h2⟩ := R.par q hq
    exact ⟨h1, c1, by rw [nS _ (hp q hq)]; exact h2⟩
  · by_cases hj : j = i
    · rw [hj, List.getElem?_set_self hl] at h
      cases h
      exact ⟨_, by rw [hj]; exact hσ, hd⟩
    · rw [nS j hj] at h
      obtain ⟨v, e1, r⟩ := R.val j e h
      exact ⟨v, e1, dp_mono sB r⟩
  · obtain ⟨hj, h⟩ := oi h
    obtain ⟨x, u, e1, n1, h1, h2, h3⟩ := R.own j c' h
    have hne : x ≠ a := fun z => R.sep j i c' c x hj h hi e1 (by rw [hσ, z])
    exact ⟨x, u, e1, by rw [upd_ne hne]; exact n1, by rw [upd_ne hne]; exact h1, cellR_mono sB h2, h3⟩
  · obtain ⟨_, h1⟩ := oi h1
    obtain ⟨_, h2⟩ := oi h2
    exact R.sep j k c1 c2 x hjk h1 h2
end
/-! ### dicts as data -/
def dtD (kvs : List (List Int × D)) : List (D × D) := kvs.map fun kv => (.tuple (kv.1.map PyData.int), kv.2)
def dkD (kvs : List (Int × D)) : List (D × D) := kvs.map fun kv => (.int kv.1, kv.2)
theorem dtD_dp {K : PySem.W.Frag} {B : Hp} : ∀ {kvs : List (List Int × D)} {ws : List (List Key × V)}, Paired (DitR K B) kvs ws → DpT K B ws (dtD kvs)
  | _, _, .nil => .nil
  | _, _, .cons (b := ⟨_, _⟩) h t => .cons (keyT_ints _) h.1.symm h.2 (dtD_dp t)
theorem dkD_dp {K : PySem.W.Frag} {B : Hp} : ∀ {kvs : List (Int × D)} {ws : List (Key × V)}, Paired (fun (p : Int × D) (q : Key × V) => (Sum.inl p.1 : Key) = q.1 ∧ Dp K B q.2 p.2) kvs ws → DpK K B ws (dkD kvs)
  | _, _, .nil => .nil
  | _, _, .cons (a := ⟨_, _⟩) (b := ⟨_, _⟩) ⟨rfl, h⟩ t => .cons h (dkD_dp t)
/-- a name, whatever it holds; what it holds is a value from now on -/
def xNm (i : Nat) : DX := fun S => match S[i]? with
  | some (.val d) => some (d, S)
  | some (.own (.lst ds)) => some (.list ds, S.set i (.val (.list ds)))
  | some (.own (.dic kvs)) => some (.dict (dtD kvs), S.set i (.val (.dict (dtD kvs))))
  | some (.own (.dik kvs)) => some (.dict (dkD kvs), S.set i (.val (.dict (dkD kvs))))
  | _ => none
section
variable {X : Cx} {E : En} {a b c e : Expr} {fa fb fe fk : DX} {pos : Pos}
/-- an empty dict is both -/
theorem inv_toT {pins : List (Addr × Obj)} {σ : L2.St} {H : Hp} {s : Shared} {p : Addr} (I : Inv X pins σ H s) (h : H p = some (.dK [])) : Inv X pins σ (upd H p (.dT [])) s := by
  obtain ⟨z, y, vs, kv, ob, es, ep, ho, hx, hd, _, hpr, _⟩ := I.hok p _ h
  cases kv
  have hes : es.toList = [] := by
    cases q : es.toList with
    | nil => rfl
    | cons x r => rw [q] at hpr; cases hpr
  exact I.write (x := p) (e := p) (t' := s.toks) (h' := s.heap) (by rw [h]; trivial) (.inl rfl) (fun b v _ q => q) ⟨ob, ho⟩ ⟨z, y, [], .nil, ob, es, ep, ho, hx, hd, by rw [hes]; rfl, .nil⟩
theorem d_nm {i : Nat} (ha : PE X a (tVar i)) (hp : ∀ q ∈ E.pa, q.1 ≠ i) : PE X a (up E (xNm i)) := by
  refine ⟨fun pins s σ H Q I ⟨B, S, d, S', R, e, k⟩ => ?_⟩
  unfold xNm at e
  split at e
  · rename_i d' hd
    cases e
    obtain ⟨v, hv, r⟩ := R.val i _ hd
    exact ha.run pins s σ H Q I ⟨v, hv, k v B H (Same.refl B) R r⟩
  · rename_i ds hd
    cases e
    obtain ⟨x, vs, e1, e2, r, hb, R2⟩ := R.freeze hd hp
    have s1 : Same B (upd B x (.lst vs)) := same_upd hb
    exact ha.run pins s σ H Q I ⟨_, e1, k _ _ H s1 R2 (.lst (.inl (.inl upd_same)) (dpAll_mono s1 r))⟩
  · rename_i kvs hd
    cases e
    obtain ⟨x, o, e1, e2, e3, ⟨ws, rfl, r⟩, _⟩ := R.own i _ hd
    refine thn (ha.run pins s σ H (fun v H1 => v = .ref x ∧ H1 = H) I ⟨_, e1, rfl, rfl⟩) fun u s1 ⟨v, H1, I1, rv, q1, q2⟩ => ?_
    subst q1 q2
    obtain ⟨od, I2⟩ := I1.lock e3 trivial
    obtain ⟨_, _, _, es, ep, h1, _, h2⟩ := I2.frzT upd_same
    have R1 := R.fixTups
    have nb : tupsOf B H1 x = none := by
      obtain ⟨x', o', g1, g2, _⟩ := R1.own i _ hd
      rw [e1] at g1; cases g1; exact g2
    have sB : Same (tupsOf B H1) (upd (tupsOf B H1) x (.frz od (.dT ws))) := same_upd nb
    have hD : Dp E.K (upd (tupsOf B H1) x (.frz od (.dT ws))) (.ref x) (.dict (dtD kvs)) := .dit upd_same ⟨es, ep, h1, fun j kk vv hj => by
      obtain ⟨en, q, g1, g2, g3⟩ := h2 j kk vv hj
      have hne : q ≠ x := fun z => by rw [z, upd_same] at g3; cases g3
      rw [upd_ne hne] at g3
      exact ⟨en, q, g1, g2, by rw [upd_ne hne]; exact tupsOf_tup R g3⟩⟩ (dpT_mono (tupsOf_same.trans sB) (dtD_dp r))
    obtain ⟨s2, R2⟩ := R1.freezeG hd e1 hp ntFrz hD
    exact ⟨_, _, I2, rv, k _ _ _ (tupsOf_same.trans s2) R2 hD⟩
  · rename_i kvs hd
    cases e
    obtain ⟨x, o, e1, e2, e3, ⟨ws, rfl, r⟩, _⟩ := R.own i _ hd
    refine thn (ha.run pins s σ H (fun v H1 => v = .ref x ∧ H1 = H) I ⟨_, e1, rfl, rfl⟩) fun u s1 ⟨v, H1, I1, rv, q1, q2⟩ => ?_
    subst q1 q2
    cases r with
    | nil =>
      have I1' := inv_toT I1 e3
      obtain ⟨od, I2⟩ := I1'.lock upd_same trivial
      rw [upd_upd] at I2
      obtain ⟨_, _, _, es, ep, h1, _, h2⟩ := I2.frzT upd_same
      have hD : Dp E.K (upd B x (.frz od (.dT []))) (.ref x) (.dict []) := .dit upd_same ⟨es, ep, h1, fun j kk vv hj => by simp at hj⟩ .nil
      obtain ⟨s2, R2⟩ := R.freezeG hd e1 hp ntFrz hD
      exact ⟨_, _, I2, rv, k _ _ _ s2 R2 hD⟩
    | @cons p1 q1 l1 l2 h t =>
      obtain ⟨od, I2⟩ := I1.lock e3 trivial
      have sB : Same B (upd B x (.frz od (.dK (q1 :: l2)))) := same_upd e2
      have hD : Dp E.K (upd B x (.frz od (.dK (q1 :: l2)))) (.ref x) (.dict (dkD (p1 :: l1))) := .dik (by simp [dkD]) upd_same (dpK_mono sB (dkD_dp (.cons h t)))
      obtain ⟨s2, R2⟩ := R.freezeG hd e1 hp ntFrz hD
      exact ⟨_, _, I2, rv, k _ _ _ s2 R2 hD⟩
  · cases e
/-! ### what a locked dict holds -/
def lookT : List (D × D) → List Int → Option (Option D)
  | [], _ => some none
  | (kd, d) :: r, ns => match keyT kd with
    | some ms => if ms = ns then some (some d) else lookT r ns
    | none => none
def lookI : List (D × D) → Int → Option (Option D)
  | [], _ => some none
  | (.int m, d) :: r, n => if m = n then some (some d) else lookI r n
  | _, _ => none
/-- found or not; none: no such question -/
def lookD (kvs : List (D × D)) (k : D) : Option (Option D) := match k with
  | .int n => if kvs.isEmpty then none else lookI kvs n
  | k => (keyT k).bind (lookT kvs)
theorem lookT_dp {K : PySem.W.Frag} {B : Hp} : ∀ {ws : List (List Key × V)} {kvs : List (D × D)} {ns : List Int} {o : Option D}, DpT K B ws kvs → lookT kvs ns = some o → match o with
    | some d => ∃ v, valV ws (ns.map Sum.inl : List Key) = some v ∧ Dp K B v d
    | none => valV ws (ns.map Sum.inl : List Key) = none
  | _, _, ns, o, .nil, h => by cases h; rfl
  | _, _, ns, o, .cons (ns := ms) hk hw hv hr, h => by
    simp only [lookT, hk] at h
    subst hw
    by_cases c : ms = ns
    · rw [if_pos c] at h
      cases h
      exact ⟨_, valV_pos (by rw [c]), hv⟩
    · rw [if_neg c] at h
      have ih := lookT_dp hr h
      have e : ¬ (ms.map Sum.inl : List Key) = ns.map Sum.inl := fun z => c (inl_inj z)
      cases o with
      | none => dsimp only at ih ⊢; rw [valV_neg e]; exact ih
      | some d => dsimp only at ih ⊢; rw [valV_neg e]; exact ih
theorem lookI_dp {K : PySem.W.Frag} {B : Hp} : ∀ {ws : List (Key × V)} {kvs : List (D × D)} {n : Int} {o : Option D}, DpK K B ws kvs → lookI kvs n = some o → match o with
    | some d => ∃ v, valV ws (Sum.inl n : Key) = some v ∧ Dp K B v d
    | none => valV ws (Sum.inl n : Key) = none
  | _, _, n, o, .nil, h => by cases h; rfl
  | _, _, n, o, .cons (n := m) hv hr, h => by
    simp only [lookI] at h
    by_cases c : m = n
    · rw [if_pos c] at h
      cases h
      exact ⟨_, valV_pos (by rw [c]), hv⟩
    · rw [if_neg c] at h
      have ih := lookI_dp hr h
      have e : ¬ (Sum.inl m : Key) = Sum.inl n := fun z => c (Sum.inl.inj z)
      cases o with
      | none => dsimp only at ih ⊢; rw [valV_neg e]; exact ih
      | some d => dsimp only at ih ⊢; rw [valV_neg e]; exact ih
/-- a locked dict asked for a key -/
theorem look_get {σ : L2.St} {S : SS} {B H : Hp} {x y : V} {kvs : List (D × D)} {k : D} {o : Option D} (R : Rep E B H σ S) (dx : Dp E.K B x (.dict kvs)) (dy : Dp E.K B y k) (h : lookD kvs k = some o) :
    ∃ a r, x = .ref a ∧ IsD H a ∧ DGet H a y r ∧ match o with
      | some d => ∃ v, r = some v ∧ Dp E.K B v d
      | none => r = none := by
  cases dx with
  | @dit p od ws _ hs hk hr =>
    have hH := R.sub _ _ hs
    have key : ∃ ns, keyT k = some ns ∧ lookT kvs ns = some o := by
      unfold lookD at h
      split at h
      · rename_i n
        split at h
        · cases h
        · rename_i hne
          cases hr with
          | nil => exact absurd rfl hne
          | cons hk' _ _ _ =>
            rename_i kd _ _ _ _ _ _
            cases kd <;> simp [keyT, lookI] at hk' h
      · rw [Option.bind_eq_some_iff] at h; exact h
    obtain ⟨ns, e1, e2⟩ := key
    obtain ⟨q, rfl, hq⟩ := key_at dy e1
    have z := lookT_dp hr e2
    refine ⟨p, _, rfl, .inr ⟨_, .inr ⟨_, hH⟩⟩, .inr ⟨ws, _, q, .inr ⟨_, hH⟩, rfl, R.sub _ _ hq, rfl⟩, ?_⟩
    cases o with
    | none => exact z
    | some d => exact z
  | @dik p od ws _ hne hs hr =>
    have hH := R.sub _ _ hs
    have key : ∃ n, k = .int n ∧ lookI kvs n = some o := by
      unfold lookD at h
      split at h
      · rename_i n
        split at h
        · cases h
        · exact ⟨n, rfl, h⟩
      · rw [Option.bind_eq_some_iff] at h
        obtain ⟨ns, h1, h2⟩ := h
        cases hr with
        | nil => exact absurd rfl hne
        | cons _ _ => simp [lookT, keyT] at h2
    obtain ⟨n, rfl, e2⟩ := key
    cases dy
    have z := lookI_dp hr e2
    refine ⟨p, _, rfl, .inl ⟨_, .inr ⟨_, hH⟩⟩, .inl ⟨ws, Sum.inl n, .inr ⟨_, hH⟩, rfl, rfl⟩, ?_⟩
    cases o with
    | none => exact z
    | some d => exact z
end
end BC
set_option Elab.async false
set_option linter.all false
set_option maxRecDepth 100000
set_option maxHeartbeats 2000000
namespace BC
open PySem PySem.Spec PyProof.Rows L2 GxR
/-! ### a locked dict walked: its keys, its values, its pairs -/
def DV (o : Obj) (u : HO) (kvs : List (V × V)) : Prop :=
  (∃ ws : List (List Key × V), u = .dT ws ∧ ∃ es ep, o.data = Data.dict es ep ∧ kvs.length = ws.length ∧ ∀ (i : Nat) (k : List Key) (v : V), ws[i]? = some (k, v) → ∃ (en : DictEntry) (q : Addr), es[i]? = some en ∧ en.key = .ref q ∧ kvs[i]? = some (.ref q, v)) ∨
  ∃ ws : List (Key × V), u = .dK ws ∧ kvs = ws.map fun p => (kV p.1, p.2)
def DPair (K : PySem.W.Frag) (B : Hp) (p : V × V) (q : D × D) : Prop := Dp K B p.1 q.1 ∧ Dp K B p.2 q.2
theorem dpT_view {K : PySem.W.Frag} {B : Hp} {es : Array DictEntry} : ∀ {ws : List (List Key × V)} {kvs : List (D × D)} (n : Nat), DpT K B ws kvs → (∀ (i : Nat) (k : List Key) (v : V), ws[i]? = some (k, v) → ∃ (en : DictEntry) (q : Addr), es[n + i]? = some en ∧ en.key = .ref q ∧ B q = some (.tup (k.map kV))) →
    ∃ l : List (V × V), l.length = ws.length ∧ (∀ (i : Nat) (k : List Key) (v : V), ws[i]? = some (k, v) → ∃ (en : DictEntry) (q : Addr), es[n + i]? = some en ∧ en.key = .ref q ∧ l[i]? = some (.ref q, v)) ∧ Paired (DPair K B) l kvs
  | _, _, n, .nil, h => ⟨[], rfl, fun i k v e => by simp at e, .nil⟩
  | _, _, n, .cons (k := k0) (ns := ns) (v := v0) (kd := kd) (d := d0) (ws := ws) (kvs := kvs) hk hw hv hr, h => by
    obtain ⟨en, q, h1, h2, h3⟩ := h 0 k0 v0 rfl
    obtain ⟨l, g1, g2, g3⟩ := dpT_view (n + 1) hr fun i k v e => by
      obtain ⟨en, q, z⟩ := h (i + 1) k v (by simpa using e)
      exact ⟨en, q, by rw [Nat.add_assoc, Nat.add_comm 1 i]; exact z⟩
    refine ⟨(.ref q, v0) :: l, by simp [g1], fun i k v e => ?_, .cons ⟨?_, hv⟩ g3⟩
    · cases i with
      | zero =>
        simp at e
        obtain ⟨rfl, rfl⟩ := e
        exact ⟨en, q, h1, h2, rfl⟩
      | succ i =>
        obtain ⟨en', q', z1, z2, z3⟩ := g2 i k v (by simpa using e)
        exact ⟨en', q', by rw [Nat.add_assoc, Nat.add_comm 1 i] at z1; exact z1, z2, by simpa using z3⟩
    · show Dp K B (.ref q) kd
      rw [keyT_eq hk]
      subst hw
      rw [vals_kV] at h3
      exact .tup h3 (dpAll_ints ns)
theorem dpK_view {K : PySem.W.Frag} {B : Hp} : ∀ {ws : List (Key × V)} {kvs : List (D × D)}, DpK K B ws kvs → Paired (DPair K B) (ws.map fun p => (kV p.1, p.2)) kvs
  | _, _, .nil => .nil
  | _, _, .cons hv hr => .cons ⟨.int _, hv⟩ (dpK_view hr)
theorem dict_view {K : PySem.W.Frag} {B : Hp} {x : V} {kvs : List (D × D)} (h : Dp K B x (.dict kvs)) : ∃ d o u l, x = .ref d ∧ B d = some (.frz o u) ∧ DV o u l ∧ Paired (DPair K B) l kvs := by
  cases h with
  | @dit p od ws _ hs hk hr =>
    obtain ⟨es, ep, h1, h2⟩ := hk
    obtain ⟨l, g1, g2, g3⟩ := dpT_view (es := es) 0 hr fun i k v e => by rw [Nat.zero_add]; exact h2 i k v e
    exact ⟨p, od, _, l, rfl, hs, .inl ⟨ws, rfl, es, ep, h1, g1, fun i k v e => by have := g2 i k v e; rw [Nat.zero_add] at this; exact this⟩, g3⟩
  | @dik p od ws _ hn hs hr => exact ⟨p, od, _, _, rfl, hs, .inr ⟨ws, rfl, rfl⟩, dpK_view hr⟩
section
variable {X : Cx} {pins : List (Addr × Obj)} {σ : L2.St} {H : Hp} {s : Shared} {d : Addr} {o : Obj} {u : HO} {l : List (V × V)}
theorem paired_at {α β : Type} {F : α → β → Prop} : ∀ {l₁ : List α} {l₂ : List β}, Paired F l₁ l₂ → ∀ {i : Nat} {a : α}, l₁[i]? = some a → ∃ b, l₂[i]? = some b ∧ F a b
  | _, _, .nil, _, _, e => by simp at e
  | _, _, .cons r t, 0, _, e => by simp at e; subst e; exact ⟨_, rfl, r⟩
  | _, _, .cons r t, i + 1, _, e => by
    obtain ⟨b, h1, h2⟩ := paired_at t (i := i) (by simpa using e)
    exact ⟨b, by simpa using h1, h2⟩
theorem pairs_at {P : Program} {w : World} : ∀ {es : List DictEntry} {vs : List (Key × Value)}, Pairs (mixKind P w) es vs → ∀ {i : Nat} {k : Key} {v : Value}, vs[i]? = some (k, v) → ∃ en, es[i]? = some en ∧ RelV (kV k) en.key ∧ en.val = v
  | _, _, .nil, _, _, _, e => by simp at e
  | _, _, .cons h1 h2 t, 0, _, _, e => by simp at e; subst e; exact ⟨_, rfl, relV_key h1, h2⟩
  | _, _, .cons h1 h2 t, i + 1, _, _, e => by
    obtain ⟨b, g1, g2⟩ := pairs_at t (i := i) (by simpa using e)
    exact ⟨b, by simpa using g1, g2⟩
theorem frz_view (I : Inv X pins σ H s) (h : H d = some (.frz o u)) (v : DV o u l) : (d == sysModules) = false ∧ ∃ es ep, o.data = Data.dict es ep ∧ s.heap.DictRaw d es ep ∧ es.size = l.length ∧
    ∀ (i : Nat) (x y : V), l[i]? = some (x, y) → ∃ en, es[i]? = some en ∧ RelV x en.key ∧ RelV y en.val := by
  have x := I.hok d _ h
  rcases v with ⟨ws, rfl, es, ep, hd, hl, hq⟩ | ⟨ws, rfl, rfl⟩
  · obtain ⟨hg, z, hs, xs, pr, o', es', ep', ho, hx, hdt, he, _⟩ := x
    rw [hg] at ho
    cases ho
    rw [hd] at hdt
    cases hdt
    have hsz : es.size = xs.length := by rw [← Array.length_toList, he, List.length_map]
    refine ⟨hs, es, ep, hd, ⟨o, hg, hx, hd⟩, by rw [hsz, hl]; exact (Paired.length pr).symm, fun i x y e => ?_⟩
    have hi : i < ws.length := by rw [← hl]; exact (List.getElem?_eq_some_iff.mp e).1
    obtain ⟨⟨k, v⟩, hkv⟩ : ∃ p, ws[i]? = some p := ⟨ws[i], List.getElem?_eq_getElem hi⟩
    obtain ⟨en, q, h1, h2, h3⟩ := hq i k v hkv
    rw [e] at h3
    cases h3
    obtain ⟨b, g1, _, _, g2⟩ := paired_at pr hkv
    have h4 : es.toList[i]? = some en := by rw [Array.getElem?_toList]; exact h1
    rw [he, List.getElem?_map, g1] at h4
    cases h4
    exact ⟨_, h1, h2, g2⟩
  · obtain ⟨hg, z, hs, vs, kv, o', es, ep, ho, hx, hdt, _, hpr, _⟩ := x
    rw [hg] at ho
    cases ho
    have hsz : es.size = vs.length := by rw [← Array.length_toList]; exact hpr.length
    refine ⟨hs, es, ep, hdt, ⟨o, hg, hx, hdt⟩, by rw [hsz, List.length_map]; exact (Paired.length kv).symm, fun i x y e => ?_⟩
    rw [List.getElem?_map, Option.map_eq_some_iff] at e
    obtain ⟨⟨k, v⟩, hkv, e2⟩ := e
    cases e2
    obtain ⟨⟨k', v'⟩, g1, g2, g3⟩ := paired_at kv hkv
    cases g2
    obtain ⟨en, z1, z2, z3⟩ := pairs_at hpr g1
    rw [Array.getElem?_toList] at z1
    exact ⟨en, z1, z2, by rw [z3]; exact g3⟩
end
/-- the walk: what of a pair comes -/
def Jd (d : Addr) (o : Obj) (u : HO) (l : List (V × V)) (f : V × V → V) : It :=
  ⟨fun i H => H d = some (.frz o u) ∧ i < l.length, fun i H x H' => H' = H ∧ ∃ p, l[i]? = some p ∧ x = f p, fun i H => H d = some (.frz o u) ∧ l.length ≤ i⟩
def Ji (d : Addr) (o : Obj) (u : HO) (l : List (V × V)) : It :=
  ⟨fun i H => H d = some (.frz o u) ∧ i < l.length, fun i H x H' => ∃ T p, l[i]? = some p ∧ x = .ref T ∧ H T = none ∧ H' = upd H T (.tup [p.1, p.2]), fun i H => H d = some (.frz o u) ∧ l.length ≤ i⟩
section
variable {P : Program} {w : World} {K : PySem.W.Frag} {tg : Expr} {d : Addr} {o : Obj} {u : HO} {l : List (V × V)} {es : Array DictEntry} {ep : Nat}
theorem sameData {es es' : Array DictEntry} {ep ep' : Nat} (h : o.data = .dict es ep) (h' : o.data = .dict es' ep') : es' = es ∧ ep' = ep := by
  rw [h] at h'
  cases h'
  exact ⟨rfl, rfl⟩
theorem jd_keys (it : Addr) (hv : DV o u l) (hod : o.data = .dict es ep) (hsz0 : es.size = l.length) : Turn P w K tg (Jd d o u l (·.1)) [it] it (fun i h => h.IsKeyIter it d i es.size ep) where
  mem := List.mem_singleton.mpr rfl
  obj := fun i h st b hb => by
    cases List.mem_singleton.mp hb
    obtain ⟨oi, e, c, dd⟩ := st
    exact ⟨oi, e, fun v z => by rw [dd] at z; cases z⟩
  keep := fun i h h' st k => by
    obtain ⟨oi, e, r⟩ := st
    exact ⟨oi, k it (List.mem_singleton.mpr rfl) oi e, r⟩
  item := fun X hP hw hK hc i pins s σ H E I hf st ⟨hd, hi⟩ => by
    subst hP hw hK
    obtain ⟨f0, f1, f2, f3, f4, f5⟩ := hf it (List.mem_singleton.mpr rfl)
    obtain ⟨_, es', ep', hdt, raw, hsz, ent⟩ := frz_view I hd hv
    obtain ⟨rfl, rfl⟩ := sameData hod hdt
    obtain ⟨⟨x, y⟩, hxy⟩ : ∃ p, l[i]? = some p := ⟨l[i], List.getElem?_eq_getElem hi⟩
    obtain ⟨en, h1, h2, _⟩ := ent i x y hxy
    have hlt : i < es'.size := by omega
    have hen : es'[i] = en := by rw [Array.getElem?_eq_getElem hlt] at h1; exact Option.some.inj h1
    refine wpAny_pyNext_keys_item_raw st raw hlt fun h' st' sb => ?_
    have I1 : Inv X pins σ H { s with heap := h' } := I.turned (t' := s.toks) (fun b ob hb e => (sb.2 b hb).trans e) f0 f1 f3 f4 f5
    obtain ⟨oi, e, c, dd⟩ := id st'
    exact ⟨_, rfl, go_of (s := { s with heap := h' }) e c dd (by decide) ⟨x, H, I1, by rw [hen]; exact h2, ⟨rfl, _, hxy, rfl⟩, st', fun b hb => (hf b hb).1⟩⟩
  done := fun X hP hw hK hc i pins s σ H E I hf st ⟨hd, hi⟩ => by
    subst hP hw hK
    obtain ⟨f0, f1, f2, f3, f4, f5⟩ := hf it (List.mem_singleton.mpr rfl)
    obtain ⟨_, es', ep', hdt, raw, hsz, _⟩ := frz_view I hd hv
    obtain ⟨rfl, rfl⟩ := sameData hod hdt
    exact wpAny_pyNext_keys_end_raw (I.ok.hd hc) st raw (by omega) fun h' eb => ⟨rfl, I.turned (t' := s.toks) (fun b ob hb e => eb b ob hb e) f0 f1 f3 f4 f5⟩
  self := fun A i s Q E st h => wpAny_pyIter_keyiter st h
theorem jd_vals (it : Addr) (hv : DV o u l) (hod : o.data = .dict es ep) (hsz0 : es.size = l.length) : Turn P w K tg (Jd d o u l (·.2)) [it] it (fun i h => h.IsValIter it d i es.size ep) where
  mem := List.mem_singleton.mpr rfl
  obj := fun i h st b hb => by
    cases List.mem_singleton.mp hb
    obtain ⟨oi, e, c, dd⟩ := st
    exact ⟨oi, e, fun v z => by rw [dd] at z; cases z⟩
  keep := fun i h h' st k => by
    obtain ⟨oi, e, r⟩ := st
    exact ⟨oi, k it (List.mem_singleton.mpr rfl) oi e, r⟩
  item := fun X hP hw hK hc i pins s σ H E I hf st ⟨hd, hi⟩ => by
    subst hP hw hK
    obtain ⟨f0, f1, f2, f3, f4, f5⟩ := hf it (List.mem_singleton.mpr rfl)
    obtain ⟨_, es', ep', hdt, raw, hsz, ent⟩ := frz_view I hd hv
    obtain ⟨rfl, rfl⟩ := sameData hod hdt
    obtain ⟨⟨x, y⟩, hxy⟩ : ∃ p, l[i]? = some p := ⟨l[i], List.getElem?_eq_getElem hi⟩
    obtain ⟨en, h1, _, h2⟩ := ent i x y hxy
    have hlt : i < es'.size := by omega
    have hen : es'[i] = en := by rw [Array.getElem?_eq_getElem hlt] at h1; exact Option.some.inj h1
    refine wpAny_pyNext_values_item_raw st raw hlt fun h' st' sb => ?_
    have I1 : Inv X pins σ H { s with heap := h' } := I.turned (t' := s.toks) (fun b ob hb e => (sb.2 b hb).trans e) f0 f1 f3 f4 f5
    obtain ⟨oi, e, c, dd⟩ := id st'
    exact ⟨_, rfl, go_of (s := { s with heap := h' }) e c dd (by decide) ⟨y, H, I1, by rw [hen]; exact h2, ⟨rfl, _, hxy, rfl⟩, st', fun b hb => (hf b hb).1⟩⟩
  done := fun X hP hw hK hc i pins s σ H E I hf st ⟨hd, hi⟩ => by
    subst hP hw hK
    obtain ⟨f0, f1, f2, f3, f4, f5⟩ := hf it (List.mem_singleton.mpr rfl)
    obtain ⟨_, es', ep', hdt, raw, hsz, _⟩ := frz_view I hd hv
    obtain ⟨rfl, rfl⟩ := sameData hod hdt
    exact wpAny_pyNext_values_end_raw (I.ok.hd hc) st raw (by omega) fun h' eb => ⟨rfl, I.turned (t' := s.toks) (fun b ob hb e => eb b ob hb e) f0 f1 f3 f4 f5⟩
  self := fun A i s Q E st h => wpAny_pyIter_valiter st h
theorem ji_items {elts : List Expr} {kk : Nat} {tpos : Pos} (it : Addr) (hv : DV o u l) (hod : o.data = .dict es ep) (hsz0 : es.size = l.length) : Turn P w K (.Tuple elts kk tpos) (Ji d o u l) [it] it (fun i h => ∃ ok ov, IsItemIter h it d i es.size ep ok ov) where
  mem := List.mem_singleton.mpr rfl
  obj := fun i h st b hb => by
    cases List.mem_singleton.mp hb
    obtain ⟨ok, ov, e⟩ := st
    exact ⟨_, e, fun v z => nomatch z⟩
  keep := fun i h h' st k => let ⟨ok, ov, e⟩ := st; ⟨ok, ov, k it (List.mem_singleton.mpr rfl) _ e⟩
  item := fun X hP hw hK hc i pins s σ H E I hf st ⟨hd, hi⟩ => by
    subst hP hw hK
    obtain ⟨_, es', ep', hdt, raw, hsz, ent⟩ := frz_view I hd hv
    obtain ⟨rfl, rfl⟩ := sameData hod hdt
    obtain ⟨⟨x, y⟩, hxy⟩ : ∃ p, l[i]? = some p := ⟨l[i], List.getElem?_eq_getElem hi⟩
    obtain ⟨en, h1, h2, h3⟩ := ent i x y hxy
    have hlt : i < es'.size := by omega
    have hen : es'[i] = en := by rw [Array.getElem?_eq_getElem hlt] at h1; exact Option.some.inj h1
    obtain ⟨ok, ov, he⟩ := st
    have hit : it < s.heap.objs.size := Heap.lt_size he
    refine wpAny_pyNext_items_item_raw he raw hlt fun h' ho hT hz hk => ⟨_, rfl, wpAny_letOwnedTupleGo_items (s := { s with heap := h' }) ho fun h'' he' sb => ?_⟩
    rw [hen] at hT
    have hT2 : h''.get? s.heap.objs.size = some { cls := .type "tuple", data := .seq #[en.key, en.val] } := (sb.2 _ (Nat.ne_of_gt hit)).trans hT
    have I1 : Inv X pins σ (upd H s.heap.objs.size (.tup [x, y])) { s with heap := h'' } :=
      I.turnedNew (t' := s.toks) (ch := [it]) (fun b ob hb e => (sb.2 b (by simpa using hb)).trans (hk b ob (by simpa using hb) e)) hf (Nat.le_refl _) ⟨by show 2 ≤ sizeLine; decide, [en.key, en.val], .cons h2 (.cons h3 .nil), ⟨_, hT2, rfl, _, rfl⟩⟩
    refine ⟨.ref s.heap.objs.size, _, I1, rfl, ⟨_, _, hxy, rfl, I.hok.fresh (Nat.le_refl _), rfl⟩, ⟨_, _, he'⟩, fun b hb => ?_⟩
    cases List.mem_singleton.mp hb
    rw [upd_ne (Nat.ne_of_lt hit)]
    exact (hf it (List.mem_singleton.mpr rfl)).1
  done := fun X hP hw hK hc i pins s σ H E I hf st ⟨hd, hi⟩ => by
    subst hP hw hK
    obtain ⟨f0, f1, f2, f3, f4, f5⟩ := hf it (List.mem_singleton.mpr rfl)
    obtain ⟨_, es', ep', hdt, raw, hsz, _⟩ := frz_view I hd hv
    obtain ⟨rfl, rfl⟩ := sameData hod hdt
    obtain ⟨ok, ov, he⟩ := st
    exact wpAny_pyNext_items_end_raw (I.ok.hd hc) he raw (by omega) fun h' eb => ⟨rfl, I.turned (t' := s.toks) (fun b ob hb e => eb b ob hb e) f0 f1 f3 f4 f5⟩
  self := fun A i s Q E st h => let ⟨_, _, e⟩ := st; wpAny_pyIter_itemiter e h
end
/-! ### for k in d, for v in d.values(), for k, v in d.items() -/
def tFrz (td : TE) (R : Addr → Obj → HO → List (V × V) → Hp → Prop) : L2.St → Hp → Prop := fun σ H => td σ H fun x H1 => ∃ d o u l, x = .ref d ∧ H1 d = some (.frz o u) ∧ DV o u l ∧ R d o u l H1
section
variable {X : Cx} {tg e : Expr} {td : TE} {apos cpos : Pos}
theorem pi_keysD (he : PE X e td) : PI X tg e (fun σ H R => tFrz td (fun d o u l H1 => R (Jd d o u l (·.1)) H1) σ H) := by
  refine ⟨fun pins s σ H R I h => ?_⟩
  refine thn (he.run pins s σ H _ I h) fun v s1 ⟨x, H1, I1, rx, d, o, u, l, ex, hd, hv, q⟩ => ?_
  subst ex
  obtain rfl : v = Value.ref d := rx
  obtain ⟨hs, es, ep, hdt, raw, hsz, _⟩ := frz_view I1 hd hv
  exact wpAny_pyIter_dict_raw hs raw (pi_one (tk := s1.toks) I1 _ (jd_keys _ hv hdt hsz) ⟨_, Heap.get?_push_size _ rfl, rfl, rfl⟩ q)
theorem pi_valsD (he : PE X e td) (hbase : attributeBase e "values" X.env (eval e X.env) = eval e X.env := by rfl) (hline : (apos.endLine == cpos.line) = true := by rfl) :
    PI X tg (.Call (.Attribute e "values" apos) [] [] cpos) (fun σ H R => tFrz td (fun d o u l H1 => R (Jd d o u l (·.2)) H1) σ H) := by
  refine ⟨fun pins s σ H R I h => ?_⟩
  refine wpAny_Call_method (T := "dict") (id := "dict.values") hbase rfl hline F.plainAttrs_dict F.slot_dict_values F.type_dict_values (thn (he.run pins s σ H _ I h) fun v s1 ⟨x, H1, I1, rx, d, o, u, l, ex, hd, hv, q⟩ => ?_)
  subst ex
  obtain rfl : v = Value.ref d := rx
  obtain ⟨hs, es, ep, hdt, raw, hsz, _⟩ := frz_view I1 hd hv
  have nd : ∀ b, Value.ref d = .ref b → ∃ ob, s1.heap.get? b = some ob ∧ ob.dict = none := fun b z => by
    cases z
    obtain ⟨ob, h1, h2, _⟩ := raw
    exact ⟨ob, h1, h2.2.1⟩
  refine ⟨raw.typeIs, nd, ?_⟩
  have I2 : Inv X pins σ H1 { s1 with heap := s1.heap.push { cls := .type "dict_values", data := .fields #[.ref d] } } := I1.kept (t' := s1.toks) fun b ob q => Heap.get?_push_of_some _ q
  have fin : wpAny (model X.prog X.w) X.A (pyIter (.ref s1.heap.objs.size)) (PIE X pins σ tg R) X.xe { s1 with heap := s1.heap.push { cls := .type "dict_values", data := .fields #[.ref d] } } :=
    wpAny_pyIter_values_raw (d := d) ⟨_, Heap.get?_push_size _ rfl, rfl, rfl⟩ (raw.at fun ob q => Heap.get?_push_of_some _ q) (pi_one (tk := s1.toks) I2 _ (jd_vals _ hv hdt hsz) ⟨_, Heap.get?_push_size _ rfl, rfl, rfl⟩ q)
  exact method_meetsIn F.slot_dict_values F.entry_dict_values rfl (PySem.evalArgs_none ⟨rfl, raw.typeIs, F.args_dict_values_1 _, _, meets_dict_values_raw d hs, ⟨⟨_, _, raw⟩, fin⟩⟩)
theorem pi_itemsD {elts : List Expr} {kk : Nat} {tpos : Pos} (he : PE X e td) (hbase : attributeBase e "items" X.env (eval e X.env) = eval e X.env := by rfl) (hline : (apos.endLine == cpos.line) = true := by rfl) :
    PI X (.Tuple elts kk tpos) (.Call (.Attribute e "items" apos) [] [] cpos) (fun σ H R => tFrz td (fun d o u l H1 => R (Ji d o u l) H1) σ H) := by
  refine ⟨fun pins s σ H R I h => ?_⟩
  refine wpAny_Call_method (T := "dict") (id := "dict.items") hbase rfl hline F.plainAttrs_dict F.slot_dict_items F.type_dict_items (thn (he.run pins s σ H _ I h) fun v s1 ⟨x, H1, I1, rx, d, o, u, l, ex, hd, hv, q⟩ => ?_)
  subst ex
  obtain rfl : v = Value.ref d := rx
  obtain ⟨hs, es, ep, hdt, raw, hsz, _⟩ := frz_view I1 hd hv
  have nd : ∀ b, Value.ref d = .ref b → ∃ ob, s1.heap.get? b = some ob ∧ ob.dict = none := fun b z => by
    cases z
    obtain ⟨ob, h1, h2, _⟩ := raw
    exact ⟨ob, h1, h2.2.1⟩
  refine ⟨raw.typeIs, nd, ?_⟩
  have I2 : Inv X pins σ H1 { s1 with heap := s1.heap.push { cls := .type "dict_items", data := .fields #[.ref d] } } := I1.kept (t' := s1.toks) fun b ob q => Heap.get?_push_of_some _ q
  have fin : wpAny (model X.prog X.w) X.A (pyIter (.ref s1.heap.objs.size)) (PIE X pins σ (.Tuple elts kk tpos) R) X.xe { s1 with heap := s1.heap.push { cls := .type "dict_items", data := .fields #[.ref d] } } :=
    wpAny_pyIter_items_raw (d := d) ⟨_, Heap.get?_push_size _ rfl, rfl, rfl⟩ (raw.at fun ob q => Heap.get?_push_of_some _ q) (pi_one (tk := s1.toks) I2 _ (ji_items _ hv hdt hsz) ⟨.none, .none, Heap.get?_push_size _ rfl⟩ q)
  exact method_meetsIn F.slot_dict_items F.entry_dict_items rfl (PySem.evalArgs_none ⟨rfl, raw.typeIs, F.args_dict_items_1 _, _, meets_dict_items_raw d hs, ⟨⟨_, _, raw⟩, fin⟩⟩)
end
end BC
set_option Elab.async false
set_option linter.all false
set_option maxRecDepth 100000
set_option maxHeartbeats 2000000
namespace BC
open PySem PySem.Spec PyProof.Rows L2 GxR
/-! ### x in a tuple, a list, a dict -/
def memD (neg : Bool) (d : D) (ds : List D) (w : D) : Option D := if SeqAt.shaped d = true ∧ SeqAt.shaped w = true then some (.bool ((ds.any fun z => PyData.eqv z d) != neg)) else none
def gInA (neg : Bool) (d e : D) : Option D := match e with
  | .tuple ds => memD neg d ds (.tuple ds)
  | .list ds => memD neg d ds (.list ds)
  | .dict kvs => (lookD kvs d).map fun o => .bool (o.isSome != neg)
  | _ => none
def opIn (neg : Bool) : CmpOp := if neg then .NotIn else .In
section
variable {X : Cx} {E : En} {a b c e tg : Expr} {es : List Expr} {fa fb fc fe fk : DX} {fr : DA} {pos : Pos}
def rMemA (neg : Bool) (F : PySem.W.Frag) : R2 := fun x y M Q => ∃ d ds, Dp F M x d ∧ SeqAt.shaped d = true ∧ ((Dp F M y (.list ds) ∧ SeqAt.shaped (.list ds) = true) ∨ (Dp F M y (.tuple ds) ∧ SeqAt.shaped (.tuple ds) = true)) ∧ Q (.bl ((ds.any fun z => PyData.eqv z d) != neg)) M
theorem op_memA {neg : Bool} (room : X.A.units + 65 < cLine) : OpR X (compareOp (opIn neg)) (rMemA neg X.K) := by
  rintro pins s σ H x y v u Q I rx ry ⟨d, ds, dx, sd, z, q⟩
  obtain ⟨as, q1⟩ := dx.reads I rx
  have c2 := SeqAt.canLay_of_shaped sd
  rcases z with ⟨dy, se⟩ | ⟨dy, se⟩
  · obtain ⟨bs, q2⟩ := dy.reads I ry
    have c1 := SeqAt.canLay_of_shaped se
    cases neg with
    | false => exact SeqAt.in_list_reads q2 q1 c1 c2 (room_in_shaped sd room) ⟨.bl _, H, I, rfl, by simpa using q⟩
    | true => exact SeqAt.notIn_list_reads q2 q1 c1 c2 (room_in_shaped sd room) ⟨.bl _, H, I, rfl, by simpa using q⟩
  · obtain ⟨bs, q2⟩ := dy.reads I ry
    have c1 := SeqAt.canLay_of_shaped se
    cases neg with
    | false => exact SeqAt.in_tuple_reads q2 q1 c1 c2 (room_in_shaped sd room) ⟨.bl _, H, I, rfl, by simpa using q⟩
    | true => exact SeqAt.notIn_tuple_reads q2 q1 c1 c2 (room_in_shaped sd room) ⟨.bl _, H, I, rfl, by simpa using q⟩
/-- the reading of a membership, the right side's reading ta -/
def tInA (K : PySem.W.Frag) (neg : Bool) (tb ta : TE) : TE := fun σ H Q => tOp (rMemA neg K) tb ta σ H Q ∨ tb σ H fun y H1 => ta σ H1 fun x H2 => ∃ a o, x = .ref a ∧ DGet H2 a y o ∧ Q (.bl (o.isSome != neg)) H2
theorem pe_inA {neg : Bool} {ta tb : TE} (room : X.A.units + 65 < cLine) (hb : PE X b tb) (ha : PE X a ta) (hm : behindInMarks (opIn neg) a = false) : PE X (.Compare b [opIn neg] [a] pos) (tInA X.K neg tb ta) := by
  refine PE.or (pe_cmpR (op_memA room) hb ha hm) ?_
  cases neg with
  | false => exact PE.imp (pe_cmp (pc_din (by omega) hb ha) hm) fun σ H Q h => by simpa [tDIn] using h
  | true => exact PE.imp (pe_cmp (pc_dnotin (by omega) hb ha) hm) fun σ H Q h => by simpa [tDNotIn] using h
theorem PT.or {e : Expr} {t t' : TT} (h : PT X e t) (h' : PT X e t') : PT X e (fun σ H Q => t σ H Q ∨ t' σ H Q) := ⟨fun pins s σ H Q I q => q.elim (h.run pins s σ H Q I) (h'.run pins s σ H Q I)⟩
theorem pt_inD {neg : Bool} {ta tb : TE} (hb : PE X b tb) (ha : PE X a ta) (hm : behindInMarks (opIn neg) a = false) (room : X.A.units + 65 < cLine) : PT X (.Compare b [opIn neg] [a] pos) (fun σ H Q => tb σ H fun y H1 => ta σ H1 fun x H2 => ∃ a o, x = .ref a ∧ DGet H2 a y o ∧ ∃ k, (V.bl (o.isSome != neg)) = .bl k ∧ Q k H2) := by
  cases neg with
  | false => exact PT.imp (pt_cmp (pc_din (by omega) hb ha) hm) fun σ H Q h => by simpa [tB, tDIn] using h
  | true => exact PT.imp (pt_cmp (pc_dnotin (by omega) hb ha) hm) fun σ H Q h => by simpa [tB, tDNotIn] using h
theorem pt_inA {neg : Bool} {ta tb : TE} (room : X.A.units + 65 < cLine) (hb : PE X b tb) (ha : PE X a ta) (hm : behindInMarks (opIn neg) a = false) : PT X (.Compare b [opIn neg] [a] pos) (fun σ H Q => tInA X.K neg tb ta σ H fun x H' => ∃ k, x = .bl k ∧ Q k H') :=
  PT.imp (PT.or (pt_cmpR (op_memA (neg := neg) room) hb ha hm) (pt_inD hb ha hm room)) fun σ H Q h => h
/-- a value on the right -/
theorem inA_up {neg : Bool} {σ : L2.St} {H : Hp} {Q : VK} (hK : X.K = E.K) (h : up E (x2 (gInA neg) fb fa) σ H Q) : tInA X.K neg (up E fb) (up E fa) σ H Q := by
  obtain ⟨B, S, d, S', R, e, k⟩ := h
  unfold x2 at e
  simp only [Option.bind_eq_some_iff, Option.map_eq_some_iff] at e
  obtain ⟨⟨d1, S1⟩, e1, ⟨d2, S2⟩, e2, z, e3, e4⟩ := e
  cases e4
  dsimp only at e3 k ⊢
  cases d2 <;> simp only [gInA] at e3 <;> (try cases e3)
  case tuple ds =>
    unfold memD at e3
    split at e3
    · rename_i hq
      cases e3
      refine .inl ⟨B, S, d1, S1, R, e1, fun x B1 H1 s1 R1 dx => ⟨B1, S1, _, _, R1, e2, fun y B2 H2 s2 R2 dy => ?_⟩⟩
      exact ⟨d1, ds, by rw [hK]; exact dp_mono (s2.trans R2.sub) dx, hq.1, .inr ⟨by rw [hK]; exact dp_mono R2.sub dy, hq.2⟩, k _ B2 H2 (s1.trans s2) R2 (.bl _)⟩
    · cases e3
  case list ds =>
    unfold memD at e3
    split at e3
    · rename_i hq
      cases e3
      refine .inl ⟨B, S, d1, S1, R, e1, fun x B1 H1 s1 R1 dx => ⟨B1, S1, _, _, R1, e2, fun y B2 H2 s2 R2 dy => ?_⟩⟩
      exact ⟨d1, ds, by rw [hK]; exact dp_mono (s2.trans R2.sub) dx, hq.1, .inl ⟨by rw [hK]; exact dp_mono R2.sub dy, hq.2⟩, k _ B2 H2 (s1.trans s2) R2 (.bl _)⟩
    · cases e3
  case dict kvs =>
    rw [Option.map_eq_some_iff] at e3
    obtain ⟨o, e5, e6⟩ := e3
    cases e6
    refine .inr ⟨B, S, d1, S1, R, e1, fun y B1 H1 s1 R1 dy => ⟨B1, S1, _, _, R1, e2, fun x B2 H2 s2 R2 dx => ?_⟩⟩
    obtain ⟨p, r, rfl, _, g, m⟩ := look_get R2 dx (dp_mono s2 dy) e5
    refine ⟨p, r, rfl, g, ?_⟩
    have : r.isSome = o.isSome := by
      cases o with
      | none => rw [show r = none from m]; rfl
      | some d => obtain ⟨v, m, _⟩ := m; rw [m]; rfl
    rw [this]
    exact k _ B2 H2 (s1.trans s2) R2 (.bl _)
theorem d_inA {neg : Bool} (hK : X.K = E.K) (room : X.A.units + 65 < cLine) (hb : PE X b (up E fb)) (ha : PE X a (up E fa)) (hm : behindInMarks (opIn neg) a = false) : PE X (.Compare b [opIn neg] [a] pos) (up E (x2 (gInA neg) fb fa)) :=
  PE.imp (pe_inA room hb ha hm) fun σ H Q h => inA_up hK h
theorem t_inA {neg : Bool} (hK : X.K = E.K) (room : X.A.units + 65 < cLine) (hb : PE X b (up E fb)) (ha : PE X a (up E fa)) (hm : behindInMarks (opIn neg) a = false) : PT X (.Compare b [opIn neg] [a] pos) (upT E (xT (x2 (gInA neg) fb fa))) :=
  PT.imp (pt_inA room hb ha hm) fun σ H Q h => inA_up hK (upT_up h)
/-- a name on the right, whatever it holds -/
def xInN (neg : Bool) (i : Nat) (fb : DX) : DX := fun S => (fb S).bind fun p => match p.2[i]? with
  | some (.own (.lst ds)) => (memD neg p.1 ds (.list ds)).map fun z => (z, p.2)
  | some (.own (.dic kvs)) => (keyT p.1).map fun k => (.bool (hasT kvs k != neg), p.2)
  | some (.own (.dik kvs)) => match p.1 with
    | .int n => some (.bool (hasI kvs n != neg), p.2)
    | _ => none
  | some (.val d) => (gInA neg p.1 d).map fun z => (z, p.2)
  | _ => none
theorem inN_up {neg : Bool} {i : Nat} {σ : L2.St} {H : Hp} {Q : VK} (hK : X.K = E.K) (h : up E (xInN neg i fb) σ H Q) : tInA X.K neg (up E fb) (tVar i) σ H Q := by
  obtain ⟨B, S, d, S', R, e, k⟩ := h
  unfold xInN at e
  simp only [Option.bind_eq_some_iff] at e
  obtain ⟨⟨d1, S1⟩, e1, e2⟩ := e
  split at e2
  · rename_i ds h1
    simp only at h1
    unfold memD at e2
    split at e2
    · rename_i hq
      cases e2
      refine .inl ⟨B, S, d1, _, R, e1, fun x B1 H1 s1 R1 dx => ?_⟩
      obtain ⟨a0, o0, g1, _, g3, ⟨vs, rfl, r⟩, _⟩ := R1.own i _ h1
      exact ⟨_, g1, d1, ds, by rw [hK]; exact dp_mono R1.sub dx, hq.1, .inl ⟨by rw [hK]; exact .lst (SqL.of g3) (dpAll_mono R1.sub r), hq.2⟩, k _ B1 H1 s1 R1 (.bl _)⟩
    · cases e2
  · rename_i kvs h1
    simp only at h1
    rw [Option.map_eq_some_iff] at e2
    obtain ⟨k0, ek, e6⟩ := e2
    cases e6
    refine .inr ⟨B, S, d1, _, R, e1, fun x B1 H1 s1 R1 dx => ?_⟩
    obtain ⟨a0, o0, g1, _, g3, ⟨ws, rfl, r⟩, _⟩ := R1.own i _ h1
    obtain ⟨p, rfl, hp⟩ := key_at dx ek
    refine ⟨_, g1, a0, _, rfl, DGet.t g3 (R1.sub _ _ hp), ?_⟩
    rw [← (dit_val r (k := k0)).2.2]
    exact k _ B1 H1 s1 R1 (.bl _)
  · rename_i kvs h1
    simp only at h1
    split at e2
    · rename_i n h2
      simp only at h2
      subst h2
      cases e2
      refine .inr ⟨B, S, _, _, R, e1, fun x B1 H1 s1 R1 dx => ?_⟩
      cases dx
      obtain ⟨a0, o0, g1, _, g3, ⟨ws, rfl, r⟩, _⟩ := R1.own i _ h1
      refine ⟨_, g1, a0, _, rfl, .inl ⟨ws, (Sum.inl n : Key), .inl g3, rfl, rfl⟩, ?_⟩
      have hh : hasI kvs n = (valV ws (Sum.inl n : Key)).isSome := by rw [← dik_has r n]; exact valV_any _ _
      rw [← hh]
      exact k _ B1 H1 s1 R1 (.bl _)
    · cases e2
  · rename_i d2 h1
    simp only at h1
    rw [Option.map_eq_some_iff] at e2
    obtain ⟨z, e3, e4⟩ := e2
    cases e4
    have := inA_up (X := X) (fb := fb) (fa := xV i) (neg := neg) (σ := σ) (H := H) (Q := Q) hK ⟨B, S, _, S1, R, by
      unfold x2 xV
      simp only [e1, Option.bind_some, h1]
      exact congrArg (Option.map _) e3, k⟩
    rcases this with ⟨B', S', d', S'', R', e', k'⟩ | ⟨B', S', d', S'', R', e', k'⟩
    · refine .inl ⟨B', S', d', S'', R', e', fun x B1 H1 s1 R1 dx => ?_⟩
      obtain ⟨B2, S2, d2', S2', R2, e2', k2⟩ := k' x B1 H1 s1 R1 dx
      unfold xV at e2'
      split at e2'
      · rename_i d3 h3
        cases e2'
        obtain ⟨v, g1, g2⟩ := R2.val i _ h3
        exact ⟨v, g1, k2 v B2 H1 (Same.refl B2) R2 g2⟩
      · cases e2'
    · refine .inr ⟨B', S', d', S'', R', e', fun x B1 H1 s1 R1 dx => ?_⟩
      obtain ⟨B2, S2, d2', S2', R2, e2', k2⟩ := k' x B1 H1 s1 R1 dx
      unfold xV at e2'
      split at e2'
      · rename_i d3 h3
        cases e2'
        obtain ⟨v, g1, g2⟩ := R2.val i _ h3
        exact ⟨v, g1, k2 v B2 H1 (Same.refl B2) R2 g2⟩
      · cases e2'
  · cases e2
theorem d_inN {neg : Bool} {i : Nat} (hK : X.K = E.K) (room : X.A.units + 65 < cLine) (hb : PE X b (up E fb)) (ha : PE X a (tVar i)) (hm : behindInMarks (opIn neg) a = false) : PE X (.Compare b [opIn neg] [a] pos) (up E (xInN neg i fb)) :=
  PE.imp (pe_inA room hb ha hm) fun σ H Q h => inN_up hK h
theorem t_inN {neg : Bool} {i : Nat} (hK : X.K = E.K) (room : X.A.units + 65 < cLine) (hb : PE X b (up E fb)) (ha : PE X a (tVar i)) (hm : behindInMarks (opIn neg) a = false) : PT X (.Compare b [opIn neg] [a] pos) (upT E (xT (xInN neg i fb))) :=
  PT.imp (pt_inA room hb ha hm) fun σ H Q h => inN_up hK (upT_up h)
/-! ### a[b]: of a tuple, a list, a dict -/
def gIxA (d k : D) : Option D := match d with
  | .dict kvs => (lookD kvs k).bind id
  | d => gIx d k
theorem d_ixA (hK : X.K = E.K) (room : X.A.units + 65 < cLine) (ha : PE X a (up E fa)) (hb : PE X b (up E fb)) (hs : PlainIx b := by exact fun _ _ => rfl) (hs2 : NoSl b := by exact fun _ _ => rfl) : PE X (.Subscript a b pos) (up E (x2 gIxA fa fb)) :=
  PE.imp (PE.or (d_ix hK ha hb hs) (pe_dget (by omega) ha hb hs2)) fun σ H Q ⟨B, S, d, S', R, e, k⟩ => by
    unfold x2 at e
    simp only [Option.bind_eq_some_iff, Option.map_eq_some_iff] at e
    obtain ⟨⟨d1, S1⟩, e1, ⟨d2, S2⟩, e2, z, e3, e4⟩ := e
    cases e4
    dsimp only at e3 k ⊢
    have other : gIx d1 d2 = some d → up E (x2 gIx fa fb) σ H Q := fun h => ⟨B, S, d, _, R, by unfold x2; simp only [e1, e2, Option.bind_some, h, Option.map_some], k⟩
    cases d1
    case dict kvs =>
      rw [show gIxA (.dict kvs) d2 = (lookD kvs d2).bind id from rfl, Option.bind_eq_some_iff] at e3
      obtain ⟨o, e5, e6⟩ := e3
      cases o with
      | none => cases e6
      | some dd =>
        cases e6
        refine .inr ⟨B, S, _, S1, R, e1, fun x B1 H1 s1 R1 dx => ⟨B1, S1, d2, _, R1, e2, fun y B2 H2 s2 R2 dy => ?_⟩⟩
        obtain ⟨p, r, rfl, _, g, v, m1, m2⟩ := look_get R2 (dp_mono s2 dx) dy e5
        subst m1
        exact ⟨p, v, rfl, g, k _ B2 H2 (s1.trans s2) R2 m2⟩
    all_goals exact .inl (other e3)
/-- of a name, whatever it holds -/
def xIxN (i : Nat) (fb : DX) : DX := fun S => match S[i]? with
  | some (.own (.lst _)) => xIxO i fb S
  | some (.own (.dic _)) => xIxT i fb S
  | some (.own (.dik _)) => xIxK i fb S
  | _ => x2 gIxA (xV i) fb S
theorem d_ixN {i : Nat} (hK : X.K = E.K) (room : X.A.units + 65 < cLine) (ha : PE X a (tVar i)) (hb : PE X b (up E fb)) (hs : PlainIx b := by exact fun _ _ => rfl) (hs2 : NoSl b := by exact fun _ _ => rfl) : PE X (.Subscript a b pos) (up E (xIxN i fb)) :=
  PE.imp (PE.or (PE.or (d_ixO hK ha hb hs) (d_ixT room ha hb hs2)) (PE.or (d_ixK room ha hb hs2) (d_ixA hK room (d_var ha) hb hs hs2))) fun σ H Q ⟨B, S, d, S', R, e, k⟩ => by
    unfold xIxN at e
    split at e
    · exact .inl (.inl ⟨B, S, d, S', R, e, k⟩)
    · exact .inl (.inr ⟨B, S, d, S', R, e, k⟩)
    · exact .inr (.inl ⟨B, S, d, S', R, e, k⟩)
    · exact .inr (.inr ⟨B, S, d, S', R, e, k⟩)
/-! ### a.get(b), a.get(b, c): of a value -/
def xGetA (fa fb fe : DX) : DX := fun S => (fa S).bind fun p => (fb p.2).bind fun q => (fe q.2).bind fun r => match p.1 with
  | .dict kvs => (lookD kvs q.1).map fun o => (o.getD r.1, r.2)
  | _ => none
theorem d_getA {apos cpos : Pos} (room : X.A.units + 65 < cLine) (ha : PE X a (up E fa)) (hb : PE X b (up E fb)) (hc : PE X c (up E fe)) (m : M2 X a "get" apos b c cpos) : PE X (.Call (.Attribute a "get" apos) [b, c] [] cpos) (up E (xGetA fa fb fe)) :=
  PE.imp (pe_dget2 (by omega) ha hb hc m) fun σ H Q ⟨B, S, d, S', R, e, k⟩ => by
    unfold xGetA at e
    simp only [Option.bind_eq_some_iff] at e
    obtain ⟨⟨d1, S1⟩, e1, ⟨d2, S2⟩, e2, ⟨d3, S3⟩, e3, e4⟩ := e
    split at e4
    · rename_i kvs h1
      simp only at h1
      subst h1
      rw [Option.map_eq_some_iff] at e4
      obtain ⟨o, e5, e6⟩ := e4
      cases e6
      refine ⟨B, S, _, S1, R, e1, fun x B1 H1 s1 R1 dx => ?_⟩
      obtain ⟨p, od, u, l, rfl, hB, hv, _⟩ := dict_view dx
      have isd : IsD H1 p := by
        rcases hv with ⟨ws, rfl, _⟩ | ⟨ws, rfl, _⟩
        · exact .inr ⟨ws, .inr ⟨od, R1.sub _ _ hB⟩⟩
        · exact .inl ⟨ws, .inr ⟨od, R1.sub _ _ hB⟩⟩
      refine ⟨p, rfl, isd, B1, S1, d2, S2, R1, e2, fun y B2 H2 s2 R2 dy => ⟨B2, S2, d3, _, R2, e3, fun w B3 H3 s3 R3 dw => ?_⟩⟩
      obtain ⟨p', r, ep, _, g, m⟩ := look_get R3 (dp_mono (s2.trans s3) dx) (dp_mono s3 dy) e5
      cases ep
      refine ⟨r, g, ?_⟩
      cases o with
      | none => rw [m]; exact k w B3 H3 ((s1.trans s2).trans s3) R3 dw
      | some dd => obtain ⟨v, m1, m2⟩ := m; rw [m1]; exact k v B3 H3 ((s1.trans s2).trans s3) R3 m2
    · cases e4
def xGet1A (fa fb : DX) : DX := fun S => (fa S).bind fun p => (fb p.2).bind fun q => match p.1 with
  | .dict kvs => (lookD kvs q.1).map fun o => (o.getD .none, q.2)
  | _ => none
theorem d_get1A {apos cpos : Pos} (room : X.A.units + 65 < cLine) (ha : PE X a (up E fa)) (hb : PE X b (up E fb)) (m : M1 X a "get" apos b cpos) : PE X (.Call (.Attribute a "get" apos) [b] [] cpos) (up E (xGet1A fa fb)) :=
  PE.imp (pe_dget1 (by omega) ha hb m) fun σ H Q ⟨B, S, d, S', R, e, k⟩ => by
    unfold xGet1A at e
    simp only [Option.bind_eq_some_iff] at e
    obtain ⟨⟨d1, S1⟩, e1, ⟨d2, S2⟩, e2, e4⟩ := e
    split at e4
    · rename_i kvs h1
      simp only at h1
      subst h1
      rw [Option.map_eq_some_iff] at e4
      obtain ⟨o, e5, e6⟩ := e4
      cases e6
      refine ⟨B, S, _, S1, R, e1, fun x B1 H1 s1 R1 dx => ?_⟩
      obtain ⟨p, od, u, l, rfl, hB, hv, _⟩ := dict_view dx
      have isd : IsD H1 p := by
        rcases hv with ⟨ws, rfl, _⟩ | ⟨ws, rfl, _⟩
        · exact .inr ⟨ws, .inr ⟨od, R1.sub _ _ hB⟩⟩
        · exact .inl ⟨ws, .inr ⟨od, R1.sub _ _ hB⟩⟩
      refine ⟨p, rfl, isd, B1, S1, d2, _, R1, e2, fun y B2 H2 s2 R2 dy => ?_⟩
      obtain ⟨p', r, ep, _, g, m⟩ := look_get R2 (dp_mono s2 dx) dy e5
      cases ep
      refine ⟨r, g, ?_⟩
      cases o with
      | none => rw [m]; exact k _ B2 H2 (s1.trans s2) R2 .non
      | some dd => obtain ⟨v, m1, m2⟩ := m; rw [m1]; exact k v B2 H2 (s1.trans s2) R2 m2
    · cases e4
/-- of a name, whatever it holds -/
def xGetN (i : Nat) (fb fe : DX) : DX := fun S => match S[i]? with
  | some (.own (.dic _)) => xGetT i fb fe S
  | _ => xGetA (xV i) fb fe S
theorem d_getN {i : Nat} {apos cpos : Pos} (room : X.A.units + 65 < cLine) (ha : PE X a (tVar i)) (hb : PE X b (up E fb)) (hc : PE X c (up E fe)) (m : M2 X a "get" apos b c cpos) : PE X (.Call (.Attribute a "get" apos) [b, c] [] cpos) (up E (xGetN i fb fe)) :=
  PE.imp (PE.or (d_getT room ha hb hc m) (d_getA room (d_var ha) hb hc m)) fun σ H Q ⟨B, S, d, S', R, e, k⟩ => by
    unfold xGetN at e
    split at e
    · exact .inl ⟨B, S, d, S', R, e, k⟩
    · exact .inr ⟨B, S, d, S', R, e, k⟩
def xGet1N (i : Nat) (fb : DX) : DX := fun S => match S[i]? with
  | some (.own (.dic _)) => xGetT1 i fb S
  | _ => xGet1A (xV i) fb S
theorem d_get1N {i : Nat} {apos cpos : Pos} (room : X.A.units + 65 < cLine) (ha : PE X a (tVar i)) (hb : PE X b (up E fb)) (m : M1 X a "get" apos b cpos) : PE X (.Call (.Attribute a "get" apos) [b] [] cpos) (up E (xGet1N i fb)) :=
  PE.imp (PE.or (d_getT1 room ha hb m) (d_get1A room (d_var ha) hb m)) fun σ H Q ⟨B, S, d, S', R, e, k⟩ => by
    unfold xGet1N at e
    split at e
    · exact .inl ⟨B, S, d, S', R, e, k⟩
    · exact .inr ⟨B, S, d, S', R, e, k⟩
/-! ### len of any of them -/
def gLenA : List D → Option D
  | [.tuple ds] => some (.int (ds.length : Nat))
  | [.list ds] => some (.int (ds.length : Nat))
  | [.dict kvs] => some (.int (kvs.length : Nat))
  | _ => none
theorem cr_lenF : CallR X (.builtin "len") (fun xs H Q => ∃ d o u l, xs = [V.ref d] ∧ H d = some (.frz o u) ∧ DV o u l ∧ Q (.int (l.length : Nat)) H) := by
  rintro pins s σ H xs us Q I r ⟨d, o, u, l, rfl, hd, hv, q⟩
  obtain ⟨v, rfl, rx⟩ := vals1 r
  cases (show v = Value.ref d from rx)
  rcases hv with ⟨ws, rfl, _, _, _, hl, _⟩ | ⟨ws, rfl, rfl⟩
  · obtain ⟨z, hs, ys, rel, dd⟩ := dt_rd I.hok (.inr ⟨o, hd⟩)
    have hl2 : ws.length = ys.length := Paired.length rel
    refine call_len_dictH hs dd (by rw [← hl2]; rw [sizeLine_eq] at z; omega) ?_
    rw [← hl2, ← hl]
    exact ⟨.int _, H, I.tok _, ⟨_, rfl⟩, q⟩
  · rw [List.length_map] at q
    exact d_len I (.inr ⟨o, hd⟩) fun t s' I' => ⟨.int _, H, I', ⟨t, rfl⟩, q⟩
theorem c_lenA (hK : X.K = E.K) : CallD X E (.builtin "len") gLenA := by
  intro σ S B H xs ds z Q R dv hz k
  have seq : gLen ds = some z → ∃ r, CallR X (.builtin "len") r ∧ r xs H Q := fun h => c_len hK σ S B H xs ds z Q R dv h k
  unfold gLenA at hz
  split at hz
  · exact seq hz
  · exact seq hz
  · cases hz
    obtain ⟨v, rfl, dx⟩ := dpAll1 dv
    obtain ⟨d, o, u, l, rfl, hB, hv, pr⟩ := dict_view dx
    exact ⟨_, cr_lenF, d, o, u, l, rfl, R.sub _ _ hB, hv, by rw [Paired.length pr]; exact k _ B H (Same.refl B) R (.int _)⟩
  · cases hz
/-! ### what is walked: any of them; a dict's pairs, its values -/
def iAny (fe : DX) : DA := fun S => (fe S).bind fun p => match p.1 with
  | .tuple ds => some (ds, p.2)
  | .list ds => some (ds, p.2)
  | .dict kvs => some (kvs.map (·.1), p.2)
  | _ => none
theorem itd_jd {K : PySem.W.Frag} {B : Hp} {d : Addr} {o : Obj} {u : HO} {l : List (V × V)} {kvs : List (D × D)} (hB : B d = some (.frz o u)) (pr : Paired (DPair K B) l kvs) {f : V × V → V} {g : D × D → D} (hf : ∀ p q, DPair K B p q → Dp K B (f p) (g q)) : ItD K B (Jd d o u l f) (kvs.map g) := by
  have hl := Paired.length pr
  refine ⟨fun i H s hi => ⟨s _ _ hB, by rw [hl]; simpa using hi⟩, fun i H x H' dd s hi ⟨e1, p, e2, e3⟩ => .inl ⟨e1, ?_⟩, fun i H s hi => ⟨s _ _ hB, by rw [hl]; simpa using hi⟩⟩
  obtain ⟨q, g1, g2⟩ := paired_at pr e2
  rw [List.getElem?_map, g1] at hi
  cases hi
  rw [e3]
  exact hf _ _ g2
theorem i_keys (he : PE X e (up E fe)) : PI X tg e (upI E (fun S => (fe S).bind fun p => match p.1 with | .dict kvs => some (kvs.map (·.1), p.2) | _ => none)) :=
  PI.imp (pi_keysD he) fun σ H R ⟨B, S, ds, S', Rp, e, k⟩ => by
    simp only [Option.bind_eq_some_iff] at e
    obtain ⟨⟨d1, S1⟩, e1, e2⟩ := e
    split at e2
    · rename_i kvs h1
      simp only at h1
      subst h1
      cases e2
      refine ⟨B, S, _, _, Rp, e1, fun x B1 H1 s1 R1 dx => ?_⟩
      obtain ⟨d, o, u, l, rfl, hB, hv, pr⟩ := dict_view dx
      exact ⟨d, o, u, l, rfl, R1.sub _ _ hB, hv, k _ B1 H1 s1 R1 (itd_jd hB pr fun p q h => h.1)⟩
    · cases e2
theorem i_any (hK : X.K = E.K) (he : PE X e (up E fe)) : PI X tg e (upI E (iAny fe)) :=
  PI.imp (PI.or (PI.or (i_tup hK he) (i_lst hK he)) (i_keys he)) fun σ H R ⟨B, S, ds, S', Rp, e, k⟩ => by
    unfold iAny at e
    simp only [Option.bind_eq_some_iff] at e
    obtain ⟨⟨d1, S1⟩, e1, e2⟩ := e
    split at e2
    · rename_i l h1
      refine .inl (.inl ⟨B, S, ds, S', Rp, ?_, k⟩)
      unfold iSeq; simp only [e1, Option.bind_some]; simp only at h1; rw [h1]; exact e2
    · rename_i l h1
      refine .inl (.inr ⟨B, S, ds, S', Rp, ?_, k⟩)
      unfold iLst; simp only [e1, Option.bind_some]; simp only at h1; rw [h1]; exact e2
    · rename_i l h1
      refine .inr ⟨B, S, ds, S', Rp, ?_, k⟩
      simp only [e1, Option.bind_some]; simp only at h1; rw [h1]; exact e2
    · cases e2
def iVals (fe : DX) : DA := fun S => (fe S).bind fun p => match p.1 with
  | .dict kvs => some (kvs.map (·.2), p.2)
  | _ => none
def iItems (fe : DX) : DA := fun S => (fe S).bind fun p => match p.1 with
  | .dict kvs => some (kvs.map (fun q => .tuple [q.1, q.2]), p.2)
  | _ => none
theorem i_vals {apos cpos : Pos} (he : PE X e (up E fe)) (hbase : attributeBase e "values" X.env (eval e X.env) = eval e X.env := by rfl) (hline : (apos.endLine == cpos.line) = true := by rfl) : PI X tg (.Call (.Attribute e "values" apos) [] [] cpos) (upI E (iVals fe)) :=
  PI.imp (pi_valsD he hbase hline) fun σ H R ⟨B, S, ds, S', Rp, e, k⟩ => by
    unfold iVals at e
    simp only [Option.bind_eq_some_iff] at e
    obtain ⟨⟨d1, S1⟩, e1, e2⟩ := e
    split at e2
    · rename_i kvs h1
      simp only at h1
      subst h1
      cases e2
      refine ⟨B, S, _, _, Rp, e1, fun x B1 H1 s1 R1 dx => ?_⟩
      obtain ⟨d, o, u, l, rfl, hB, hv, pr⟩ := dict_view dx
      exact ⟨d, o, u, l, rfl, R1.sub _ _ hB, hv, k _ B1 H1 s1 R1 (itd_jd hB pr fun p q h => h.2)⟩
    · cases e2
theorem i_items {apos cpos tpos : Pos} {elts : List Expr} {kk : Nat} (he : PE X e (up E fe)) (hbase : attributeBase e "items" X.env (eval e X.env) = eval e X.env := by rfl) (hline : (apos.endLine == cpos.line) = true := by rfl) : PI X (.Tuple elts kk tpos) (.Call (.Attribute e "items" apos) [] [] cpos) (upI E (iItems fe)) :=
  PI.imp (pi_itemsD he hbase hline) fun σ H R ⟨B, S, ds, S', Rp, e, k⟩ => by
    unfold iItems at e
    simp only [Option.bind_eq_some_iff] at e
    obtain ⟨⟨d1, S1⟩, e1, e2⟩ := e
    split at e2
    · rename_i kvs h1
      simp only at h1
      subst h1
      cases e2
      refine ⟨B, S, _, _, Rp, e1, fun x B1 H1 s1 R1 dx => ?_⟩
      obtain ⟨d, o, u, l, rfl, hB, hv, pr⟩ := dict_view dx
      have hl := Paired.length pr
      refine ⟨d, o, u, l, rfl, R1.sub _ _ hB, hv, k _ B1 H1 s1 R1 ⟨fun i H s hi => ⟨s _ _ hB, by rw [hl]; simpa using hi⟩, fun i H x H' dd s hi ⟨T, p, e2, e3, e4, e5⟩ => .inr ?_, fun i H s hi => ⟨s _ _ hB, by rw [hl]; simpa using hi⟩⟩⟩
      obtain ⟨q, g1, g2⟩ := paired_at pr e2
      rw [List.getElem?_map, g1] at hi
      cases hi
      exact ⟨T, _, _, e3, e4, e5, rfl, .cons g2.1 (.cons g2.2 .nil)⟩
    · cases e2
end
end BC
set_option Elab.async false
set_option linter.all false
set_option maxRecDepth 100000
set_option maxHeartbeats 2000000
namespace BC
open PySem PySem.Spec PyProof.Rows L2 GxR
open Sem (wp)
/-! ### no generator is ever forgotten -/
theorem runs_gens {M : Model} {Γ : PySem.Ctx} {p : Pos} {t : Sem Fin} {fs : List Frame} {s s' : Shared} {e : End} (h : Runs M Γ p t fs s e s') : s.gens.size ≤ s'.gens.size := by
  induction h <;> (try simp only [Shared.setGen, Array.size_setIfInBounds, Array.size_push] at *) <;> first
    | omega
    | (rename_i h1 h2; exact Nat.le_trans h1 h2)
theorem wakes_gens {M : Model} {Γ : PySem.Ctx} {p : Pos} {g : Nat} {r : Resume} {s s' : Shared} {res : GenResult} (h : Wakes M Γ p g r s res s') : s.gens.size ≤ s'.gens.size := by
  unfold Wakes at h
  split at h
  · exact h.elim
  · split at h
    · obtain ⟨e1, s1, h1, _, _, rfl⟩ := h
      have := runs_gens h1
      simpa [Shared.setGen] using this
    · rw [h.2]; exact Nat.le_refl _
    · rw [h.2]; simp [Shared.setGen]
  · obtain ⟨e1, s1, h1, _, _, rfl⟩ := h
    have := runs_gens h1
    simpa [Shared.setGen] using this
  · rw [h.2]; exact Nat.le_refl _
  · rw [h.2]; exact Nat.le_refl _
theorem wp_gens {X : Type} {post : X → Pos → Shared → Prop} {exc : Value → Pos → Shared → Prop} (M : Model) (Γ : PySem.Ctx) (n : Nat) (tree : Sem X) (p : Pos) (s : Shared) (hn : n ≤ s.gens.size) (known : wp M Γ tree post exc p s) :
    wp M Γ tree (fun x p' s' => post x p' s' ∧ n ≤ s'.gens.size) (fun v p' s' => exc v p' s' ∧ n ≤ s'.gens.size) p s := by
  revert known hn
  induction tree generalizing p s with
  | pure x => exact fun hn h => ⟨h, hn⟩
  | raise v => exact fun hn h => ⟨h, hn⟩
  | unsupported | finish | yield | fork | await | register => exact fun _ h => h.elim
  | rule _ k ih | «at» _ k ih | alloc _ k ih | loadIfAlive _ k ih | point _ k ih | fresh k ih | ask k ih | os _ _ k ih | handled _ k ih | stack k ih | thread k ih => exact fun hn h => ih _ _ _ hn h
  | newGen _ k ih => exact fun hn h => ih _ _ _ (by show n ≤ (s.gens.push _).size; rw [Array.size_push]; omega) h
  | load a _ k ih | genState a k ih => exact fun hn ⟨o, ho, h⟩ => ⟨o, ho, ih _ _ _ hn h⟩
  | update a _ f k ih | choose _ _ k ih => exact fun hn ⟨ha, h⟩ => ⟨ha, ih _ _ _ hn h⟩
  | call c h g l k ih => exact fun hn ⟨r, s', hr, h⟩ => ⟨r, s', hr, ih _ _ _ (Nat.le_trans hn (runs_gens hr)) h⟩
  | resume g r l k ih => exact fun hn ⟨res, s', hw, h⟩ => ⟨res, s', hw, ih _ _ _ (Nat.le_trans hn (wakes_gens hw)) h⟩
theorem wpAny_gens {α : Type} {M : Model} {A : Around} {t : Sem α} {Q : α → Shared → Prop} {E : Value → Shared → Prop} {s : Shared} (h : wpAny M A t Q E s) : wpAny M A t (fun a s' => Q a s' ∧ s.gens.size ≤ s'.gens.size) (fun e s' => E e s' ∧ s.gens.size ≤ s'.gens.size) s :=
  fun Γ p hΓ => wp_gens M Γ _ t p s (Nat.le_refl _) (h Γ p hΓ)
end BC
set_option Elab.async false
set_option linter.all false
set_option maxRecDepth 100000
set_option maxHeartbeats 2000000
namespace BC
open PySem PySem.Spec PyProof.Rows L2 GxR
/-! ### a generator whose element does anything -/
theorem inv_gens {X : Cx} {pins : List (Addr × Obj)} {σ : L2.St} {H : Hp} {s : Shared} (I : Inv X pins σ H s) {g : Array GenState} (h : AllBare g) : Inv X pins σ H { s with gens := g } :=
  ⟨I.ok, I.os, h, I.base, I.loc, I.cell, I.free, I.freeC, I.pin, I.hok, I.len⟩
theorem allBare_set {gs : Array GenState} {g : Nat} {x : GenState} (h : AllBare gs) (hx : x.bare = true) : AllBare (gs.setIfInBounds g x) := fun y hy => by
  rcases Array.mem_or_eq_of_mem_setIfInBounds hy with z | z
  · exact h y z
  · rw [z]; exact hx
/-- a generator's block: its frame above all those that run -/
abbrev gblk (X : Cx) (A' : Around) (s : Shared) (H : Hp) (scope : Scope) (cenv : Env) (fp : List Addr) : Cx := { X with A := A', s_0 := s, H_0 := H, env := cenv, outer := X.stack, stack := cenv :: X.stack, ex := fp, fn := fun x => scope.names.lookup x == some .cell, pn := [], xe := fun _ _ => False }
structure GSt (Xg : Cx) (p : Addr × Obj) (g : Nat) (fp : List Addr) (tn : Nat → Heap → Prop) (σw : L2.St) (W : Nat → Nat → Hp → Prop) (i n : Nat) (s : Shared) : Prop where
  ex : ∃ H', Inv Xg [p] σw H' s ∧ tn i s.heap ∧ (∀ b ∈ fp, H' b = none) ∧ W i n H'
  num : g < s.gens.size
structure GFin (Xg : Cx) (p : Addr × Obj) (g : Nat) (σw : L2.St) (Qs : Hp → Prop) (s : Shared) : Prop where
  ex : ∃ H', Inv Xg [p] σw H' s ∧ Qs H'
  num : g < s.gens.size
theorem GSt.set {Xg : Cx} {p : Addr × Obj} {g : Nat} {fp : List Addr} {tn : Nat → Heap → Prop} {σw : L2.St} {W : Nat → Nat → Hp → Prop} {i n : Nat} {s : Shared} (h : GSt Xg p g fp tn σw W i n s) {x : GenState} (hx : x.bare = true) : GSt Xg p g fp tn σw W i n (s.setGen g x) := by
  obtain ⟨H', I, t, f, w⟩ := h.ex
  exact ⟨⟨H', inv_gens I (allBare_set I.bare hx), t, f, w⟩, by have := h.num; simpa [Shared.setGen] using this⟩
theorem GFin.set {Xg : Cx} {p : Addr × Obj} {g : Nat} {σw : L2.St} {Qs : Hp → Prop} {s : Shared} (h : GFin Xg p g σw Qs s) {x : GenState} (hx : x.bare = true) : GFin Xg p g σw Qs (s.setGen g x) := by
  obtain ⟨H', I, q⟩ := h.ex
  exact ⟨⟨H', inv_gens I (allBare_set I.bare hx), q⟩, by have := h.num; simpa [Shared.setGen] using this⟩
def gEnd (Xg : Cx) (p : Addr × Obj) (g : Nat) (σw : L2.St) (Qs : Hp → Prop) : GenEnd := fun _ _ r s1 => r = .ok .next ∧ GFin Xg p g σw Qs s1
def gYield (Xg : Cx) (p : Addr × Obj) (g : Nat) (fp : List Addr) (tn : Nat → Heap → Prop) (σw : L2.St) (W : Nat → Nat → Hp → Prop) (e : Bool) (Qe : Hp → Prop) : Protocol := fun n _ v s k => ∃ b : Bool, v = .bool b ∧
  if b = e then GFin Xg p g σw Qe s else ∃ i m, m ≤ n ∧ GSt Xg p g fp tn σw W i m s ∧ ∀ s'', GSt Xg p g fp tn σw W i m s'' → k (.send .none) s''
/-- what a walk that ends early at e owes at each turn -/
def GTurn (J : It) (gg : TG) (te : TE) (vs : List Nat) (σ : L2.St) (e : Bool) (Qe Qs : Hp → Prop) (W : Nat → Nat → Hp → Prop) : Prop := ∀ i m H, W i m H →
  (J.stop i H ∧ Qs H) ∨ (J.go i H ∧ 0 < m ∧ ∃ Nx : Hp → Prop, (∀ H', Nx H' → ∃ m', m' < m ∧ W (i + 1) m' H') ∧ ∀ x H', J.yld i H x H' → gg x (wipe σ vs) H' fun σ2 H2 => wipe σ2 vs = wipe σ vs ∧ te σ2 H2 fun y H4 => ∃ b : Bool, y = .bl b ∧ if b = e then Qe H4 else Nx H4)
abbrev genC (elt tg iter : Expr) (scope : Scope) (pos : Pos) (it : Addr) (cenv : Env) : Code := .compLoop (.GeneratorExp elt [⟨tg, iter, [], 0⟩] scope pos) 0 (.ref it) .none cenv
theorem thnG {α : Type} {t : Sem α} {Q Q' : α → Shared → Prop} {M : Model} {A : Around} {E : Value → Shared → Prop} {s : Shared} (h : wpAny M A t Q (fun _ _ => False) s) (hQ : ∀ a s', Q a s' → s.gens.size ≤ s'.gens.size → Q' a s') : wpAny M A t Q' E s := wpAny_mono (wpAny_gens h) (fun a s' z => hQ a s' z.1 z.2) fun _ _ z => z.1.elim
section
variable {Xg : Cx} {A : Around} {elt tg iter : Expr} {scope : Scope} {pos : Pos} {it : Addr} {cenv : Env} {p : Addr × Obj} {g : Nat} {fp : List Addr} {tn : Nat → Heap → Prop} {σ : L2.St} {vs : List Nat} {J : It} {gg : TG} {te : TE} {e : Bool} {Qe Qs : Hp → Prop} {W : Nat → Nat → Hp → Prop}
theorem seg_loud (hXA : Xg.A = A.over (genC elt tg iter scope pos it cenv) []) (henv : Xg.env = cenv) (hxe : Xg.xe = fun _ _ => False) (T : Turn Xg.prog Xg.w Xg.K tg J fp it tn) (hc : Xg.calm = true) (hco : cenv.scope.isCoroutine = false)
    (stat : ∀ {σ' : L2.St} {H' : Hp} {s' : Shared}, Inv Xg [p] σ' H' s' → (∀ b ∈ fp, H' b = none) → ∀ b ∈ fp, FpOk Xg [p] H' b) (pg : PG Xg tg gg) (pe : PE Xg elt te) (hW : GTurn J gg te vs σ e Qe Qs W) :
    ∀ m n i s0 s, m ≤ n → GSt Xg p g fp tn (wipe σ vs) W i m s → Seg (model Xg.prog Xg.w) A (gEnd Xg p g (wipe σ vs) Qs) (gYield Xg p g fp tn (wipe σ vs) W e Qe) n s0 (genC elt tg iter scope pos it cenv) ((model Xg.prog Xg.w).den (genC elt tg iter scope pos it cenv)) [] s := by
  intro m
  induction m using Nat.strongRecOn with
  | _ m ih =>
  intro n i s0 s hmn ⟨⟨H5, I5, st5, n5, w5⟩, hg⟩
  show Seg _ A _ _ _ s0 _ ((compTurn (.GeneratorExp elt [⟨tg, iter, [], 0⟩] scope pos) 0 (.ref it) .none cenv).onRaise (leaving cenv)) [] s
  rw [compTurn_gen, Sem.onRaise_eq_wrap]
  refine seg_bind_wrap (wpAny_standAt ?_)
  rcases hW i m H5 w5 with ⟨stop, qq⟩ | ⟨go, hm, Nx, hNx, step⟩
  · refine seg_bind_wrap ?_
    show wpAny _ (A.over (genC elt tg iter scope pos it cenv) []) _ _ _ _
    rw [← hXA]
    have td := T.done Xg rfl rfl rfl hc i [p] s _ H5 (fun _ _ => False) I5 (stat I5 n5) st5 stop
    refine thnG td fun r s6 ⟨hr, I6⟩ hs6 => ?_
    subst hr
    exact seg_end (.ok .next) ⟨rfl, ⟨H5, I6, qq⟩, Nat.lt_of_lt_of_le hg hs6⟩
  · refine seg_bind_wrap ?_
    show wpAny _ (A.over (genC elt tg iter scope pos it cenv) []) _ _ _ _
    rw [← hXA]
    have ti := T.item Xg rfl rfl rfl hc i [p] s _ H5 (fun _ _ => False) I5 (stat I5 n5) st5 go
    refine thnG ti fun r s6 ⟨u, hr, h6⟩ hs6 => ?_
    subst hr
    refine seg_bind_wrap ?_
    show wpAny _ (A.over (genC elt tg iter scope pos it cenv) []) _ _ _ _
    rw [← hXA]
    refine thnG h6 fun _ s7 ⟨x, H7, I7, r7, y7, st7, n7⟩ hs7 => ?_
    have I7' := I7.pinned (stat I7 n7) (T.obj _ _ st7)
    have hpg := pg.run _ s7 _ H7 x u _ I7' r7 (step x H7 y7)
    rw [hxe, henv] at hpg
    refine seg_bind_wrap ?_
    show wpAny _ (A.over (genC elt tg iter scope pos it cenv) []) _ _ _ _
    rw [← hXA]
    refine thnG hpg fun _ s8 ⟨σ8, H8, I8, hw8, q8⟩ hs8 => ?_
    refine seg_bind_wrap ?_
    show wpAny _ (A.over (genC elt tg iter scope pos it cenv) []) _ _ _ _
    refine wpAny_tests_nil ?_
    simp only [if_true]
    have hy : ∀ v, yieldOut cenv v = yieldValue v := fun v => by simp only [yieldOut, hco, Bool.false_eq_true, if_false]
    simp only [hy]
    obtain ⟨n', rfl⟩ : ∃ n', n = n' + 1 := ⟨n - 1, by omega⟩
    rw [Sem.bind_eq_wrap', Sem.bind_eq_wrap', Sem.wrap_wrap, Sem.wrap_wrap]
    refine seg_wrap ?_
    show wpAny _ (A.over (genC elt tg iter scope pos it cenv) []) _ _ _ _
    rw [← hXA]
    have hpe := pe.run _ s8 _ H8 _ I8 q8
    rw [hxe, henv] at hpe
    refine thnG hpe fun z s9 ⟨y, H9, I9, r9, b, hb, nx⟩ hs9 => ?_
    subst hb
    have hzb : z = .bool b := r9
    subst hzb
    have hg9 : g < s9.gens.size := by omega
    have pin' : ∀ b ∈ fp, ∀ o, s7.heap.get? b = some o → s9.heap.get? b = some o ∧ H9 b = none := fun b hb o e =>
      let z := I9.pin (b, o) (List.mem_append_right _ (List.mem_append_right _ (mem_pinsAt hb e)))
      ⟨z.1, z.2.1⟩
    have hl : (wipe σ vs).length = σ8.length := by rw [← hw8, wipe_length]
    have I9' : Inv Xg [p] (wipe σ vs) H9 s9 := (I9.unpinned (pins := [p])).weak hl (fun j v e => by
      rw [← hw8] at e
      exact (wipe_some e).1)
    by_cases hbe : b = e
    · rw [if_pos hbe] at nx
      exact seg_at (seg_yield rfl rfl rfl ⟨b, rfl, by rw [if_pos hbe]; exact ⟨⟨H9, I9', nx⟩, hg9⟩⟩)
    · rw [if_neg hbe] at nx
      obtain ⟨m', hm', w'⟩ := hNx H9 nx
      refine seg_at (seg_yield rfl rfl rfl ⟨b, rfl, ?_⟩)
      rw [if_neg hbe]
      refine ⟨i + 1, m', by show m' ≤ n'; omega, ⟨⟨H9, I9', T.keep _ _ _ st7 fun b hb o e => (pin' b hb o e).1, fun b hb => ?_, w'⟩, hg9⟩, fun s'' hs'' => ?_⟩
      · obtain ⟨o, e, _⟩ := T.obj _ _ st7 b hb
        exact (pin' b hb o e).2
      · exact seg_again rfl (ih m' hm' n' (i + 1) s'' s'' (by omega) hs'')
end
end BC
set_option Elab.async false
set_option linter.all false
set_option maxRecDepth 100000
set_option maxHeartbeats 2000000
namespace BC
open PySem PySem.Spec PyProof.Rows L2 GxR
section
variable {Xg : Cx} {A : Around} {elt tg iter : Expr} {scope : Scope} {pos : Pos} {it : Addr} {cenv : Env} {p : Addr × Obj} {g : Nat} {fp : List Addr} {tn : Nat → Heap → Prop} {σ : L2.St} {vs : List Nat} {J : It} {gg : TG} {te : TE} {e : Bool} {Qe Qs : Hp → Prop} {W : Nat → Nat → Hp → Prop}
theorem seg_loud0 (hXA : Xg.A = A.over (genC elt tg iter scope pos it cenv) []) (henv : Xg.env = cenv) (hxe : Xg.xe = fun _ _ => False) (T : Turn Xg.prog Xg.w Xg.K tg J fp it tn) (hc : Xg.calm = true) (hco : cenv.scope.isCoroutine = false)
    (stat : ∀ {σ' : L2.St} {H' : Hp} {s' : Shared}, Inv Xg [p] σ' H' s' → (∀ b ∈ fp, H' b = none) → ∀ b ∈ fp, FpOk Xg [p] H' b) (pg : PG Xg tg gg) (pe : PE Xg elt te) (hW : GTurn J gg te vs σ e Qe Qs W)
    (m n : Nat) (s0 s : Shared) (hmn : m ≤ n) (h : GSt Xg p g fp tn (wipe σ vs) W 0 m s) : Seg (model Xg.prog Xg.w) A (gEnd Xg p g (wipe σ vs) Qs) (gYield Xg p g fp tn (wipe σ vs) W e Qe) n s0 (.compStart (.GeneratorExp elt [⟨tg, iter, [], 0⟩] scope pos) 0 (.ref it) .none cenv)
      ((model Xg.prog Xg.w).den (.compStart (.GeneratorExp elt [⟨tg, iter, [], 0⟩] scope pos) 0 (.ref it) .none cenv)) [] s := by
  have loop := seg_loud hXA henv hxe T hc hco stat pg pe hW m n 0 s0 s hmn h
  obtain ⟨H', I', st, _⟩ := h.ex
  show Seg _ A _ _ _ s0 _ ((compStart (.GeneratorExp elt [⟨tg, iter, [], 0⟩] scope pos) 0 (.ref it) .none cenv).onRaise (leaving cenv)) [] s
  unfold compStart
  rw [Sem.onRaise_eq_wrap]
  show Seg _ A _ _ _ s0 _ ((ask >>= _).wrap _ _ _ _) [] s
  refine seg_bind_wrap (wpAny_askSetting ?_)
  split
  · exact seg_again rfl loop
  · first
      | exact seg_bind_wrap (wpAny_rule (seg_bind_wrap (wpAny_standAt (seg_bind_wrap (T.self _ 0 s _ _ st (seg_again rfl loop))))))
      | (refine seg_bind_wrap (wpAny_rule ?_); show Seg _ A _ _ _ s0 _ ((standAt iter.pos >>= _).wrap _ _ _ _) [] s; exact seg_bind_wrap (wpAny_standAt (seg_bind_wrap (T.self _ 0 s _ _ st (seg_again rfl loop)))))
/-- the walk of a generator by any: W's measure n -/
theorem any_loud {R : Result → Shared → Prop} (hh : A.handled = none) (hroom : A.depth < recursionLimit) (hgen : ∀ h : Heap, h.get? p.1 = some p.2 → h.IsGen p.1 g)
    (hRe : ∀ s' H', Inv Xg [p] (wipe σ vs) H' s' → Qe H' → R (.ok (.ret (.bool true))) s') (hRs : ∀ s' H', Inv Xg [p] (wipe σ vs) H' s' → Qs H' → R (.ok (.ret (.bool false))) s') :
    ∀ n m i s gs, m ≤ n → GSt Xg p g fp tn (wipe σ vs) W i m s → s.gens[g]? = some gs → (∀ s'', GSt Xg p g fp tn (wipe σ vs) W i m s'' → gs.Goes (model Xg.prog Xg.w) A.in1.in1 (gEnd Xg p g (wipe σ vs) Qs) (gYield Xg p g fp tn (wipe σ vs) W true Qe) n (.send .none) s'') →
      codeAny (model Xg.prog Xg.w) A (.builtin "any.loop" ⟨[.ref p.1], []⟩) R s := by
  intro n
  induction n with
  | zero =>
    intro m i s gs hmn hG hgs hgo
    obtain ⟨H5, I5, st5, n5, w5⟩ := hG.ex
    refine codeAny_builtin F.entry_any_loop ?_
    rw [Around.under_plainId F.plain_any_loop _]
    show wpAny _ A.in1 (pyNext (.ref p.1) >>= _) _ _ s
    refine wpAny_bind (wpAny_pyNext_genexpQ (P := fun _ _ s1 => GFin Xg p g (wipe σ vs) Qs s1) hh I5.nolimit hroom (hgen _ (I5.pin p (by simp)).1) hgs (hgo _ (hG.set rfl)) (fun v s1 gs' hb hv => ?_) (fun s1 hp h' hk => ?_))
    · obtain ⟨b, rfl, hv⟩ := hv
      by_cases hbe : b = true
      · rw [if_pos hbe] at hv
        obtain ⟨H6, I6, q6⟩ := (hv.set hb).ex
        subst hbe
        refine wpAny_bind (wpAny_holding (wpAny_truthy_bool ?_))
        refine wpAny_bind (wpAny_letGo ?_)
        simp only [if_true]
        exact wpAny_bind (wpAny_rule (wpAny_pure (hRe _ H6 I6 q6)))
      · rw [if_neg hbe] at hv
        obtain ⟨i', m', hm', hG', hk'⟩ := hv
        exact (hk' _ hG').elim
    · obtain ⟨H6, I6, q6⟩ := (hp.set (x := .finished) rfl).ex
      exact wpAny_bind (wpAny_rule (wpAny_pure (hRs _ H6 (I6.kept (t' := s1.toks) hk) q6)))
  | succ n ih =>
    intro m i s gs hmn hG hgs hgo
    obtain ⟨H5, I5, st5, n5, w5⟩ := hG.ex
    refine codeAny_builtin F.entry_any_loop ?_
    rw [Around.under_plainId F.plain_any_loop _]
    show wpAny _ A.in1 (pyNext (.ref p.1) >>= _) _ _ s
    refine wpAny_bind (wpAny_pyNext_genexpQ (P := fun _ _ s1 => GFin Xg p g (wipe σ vs) Qs s1) hh I5.nolimit hroom (hgen _ (I5.pin p (by simp)).1) hgs (hgo _ (hG.set rfl)) (fun v s1 gs' hb hv => ?_) (fun s1 hp h' hk => ?_))
    · obtain ⟨b, rfl, hv⟩ := hv
      by_cases hbe : b = true
      · rw [if_pos hbe] at hv
        obtain ⟨H6, I6, q6⟩ := (hv.set hb).ex
        subst hbe
        refine wpAny_bind (wpAny_holding (wpAny_truthy_bool ?_))
        refine wpAny_bind (wpAny_letGo ?_)
        simp only [if_true]
        exact wpAny_bind (wpAny_rule (wpAny_pure (hRe _ H6 I6 q6)))
      · rw [if_neg hbe] at hv
        obtain ⟨i', m', hm', hG', hk'⟩ := hv
        have hbf : b = false := by simpa using hbe
        subst hbf
        refine wpAny_bind (wpAny_holding (wpAny_truthy_bool ?_))
        refine wpAny_bind (wpAny_letGo ?_)
        simp only [Bool.false_eq_true, if_false]
        refine wpAny_pure ⟨plainId_quiet F.plain_any_loop _, ih m' i' _ gs' hm' (hG'.set hb) ?_ hk'⟩
        have := hG'.num
        simp [Shared.setGen, this]
    · obtain ⟨H6, I6, q6⟩ := (hp.set (x := .finished) rfl).ex
      exact wpAny_bind (wpAny_rule (wpAny_pure (hRs _ H6 (I6.kept (t' := s1.toks) hk) q6)))
theorem all_loud {R : Result → Shared → Prop} (hh : A.handled = none) (hroom : A.depth < recursionLimit) (hgen : ∀ h : Heap, h.get? p.1 = some p.2 → h.IsGen p.1 g)
    (hRe : ∀ s' H', Inv Xg [p] (wipe σ vs) H' s' → Qe H' → R (.ok (.ret (.bool false))) s') (hRs : ∀ s' H', Inv Xg [p] (wipe σ vs) H' s' → Qs H' → R (.ok (.ret (.bool true))) s') :
    ∀ n m i s gs, m ≤ n → GSt Xg p g fp tn (wipe σ vs) W i m s → s.gens[g]? = some gs → (∀ s'', GSt Xg p g fp tn (wipe σ vs) W i m s'' → gs.Goes (model Xg.prog Xg.w) A.in1.in1 (gEnd Xg p g (wipe σ vs) Qs) (gYield Xg p g fp tn (wipe σ vs) W false Qe) n (.send .none) s'') →
      codeAny (model Xg.prog Xg.w) A (.builtin "all.loop" ⟨[.ref p.1], []⟩) R s := by
  intro n
  induction n with
  | zero =>
    intro m i s gs hmn hG hgs hgo
    obtain ⟨H5, I5, st5, n5, w5⟩ := hG.ex
    refine codeAny_builtin F.entry_all_loop ?_
    rw [Around.under_plainId F.plain_all_loop _]
    show wpAny _ A.in1 (pyNext (.ref p.1) >>= _) _ _ s
    refine wpAny_bind (wpAny_pyNext_genexpQ (P := fun _ _ s1 => GFin Xg p g (wipe σ vs) Qs s1) hh I5.nolimit hroom (hgen _ (I5.pin p (by simp)).1) hgs (hgo _ (hG.set rfl)) (fun v s1 gs' hb hv => ?_) (fun s1 hp h' hk => ?_))
    · obtain ⟨b, rfl, hv⟩ := hv
      by_cases hbe : b = false
      · rw [if_pos hbe] at hv
        obtain ⟨H6, I6, q6⟩ := (hv.set hb).ex
        subst hbe
        refine wpAny_bind (wpAny_holding (wpAny_truthy_bool ?_))
        refine wpAny_bind (wpAny_letGo ?_)
        simp only [Bool.false_eq_true, if_false]
        exact wpAny_bind (wpAny_rule (wpAny_pure (hRe _ H6 I6 q6)))
      · rw [if_neg hbe] at hv
        obtain ⟨i', m', hm', hG', hk'⟩ := hv
        exact (hk' _ hG').elim
    · obtain ⟨H6, I6, q6⟩ := (hp.set (x := .finished) rfl).ex
      exact wpAny_bind (wpAny_rule (wpAny_pure (hRs _ H6 (I6.kept (t' := s1.toks) hk) q6)))
  | succ n ih =>
    intro m i s gs hmn hG hgs hgo
    obtain ⟨H5, I5, st5, n5, w5⟩ := hG.ex
    refine codeAny_builtin F.entry_all_loop ?_
    rw [Around.under_plainId F.plain_all_loop _]
    show wpAny _ A.in1 (pyNext (.ref p.1) >>= _) _ _ s
    refine wpAny_bind (wpAny_pyNext_genexpQ (P := fun _ _ s1 => GFin Xg p g (wipe σ vs) Qs s1) hh I5.nolimit hroom (hgen _ (I5.pin p (by simp)).1) hgs (hgo _ (hG.set rfl)) (fun v s1 gs' hb hv => ?_) (fun s1 hp h' hk => ?_))
    · obtain ⟨b, rfl, hv⟩ := hv
      by_cases hbe : b = false
      · rw [if_pos hbe] at hv
        obtain ⟨H6, I6, q6⟩ := (hv.set hb).ex
        subst hbe
        refine wpAny_bind (wpAny_holding (wpAny_truthy_bool ?_))
        refine wpAny_bind (wpAny_letGo ?_)
        simp only [Bool.false_eq_true, if_false]
        exact wpAny_bind (wpAny_rule (wpAny_pure (hRe _ H6 I6 q6)))
      · rw [if_neg hbe] at hv
        obtain ⟨i', m', hm', hG', hk'⟩ := hv
        have hbf : b = true := by simpa using hbe
        subst hbf
        refine wpAny_bind (wpAny_holding (wpAny_truthy_bool ?_))
        refine wpAny_bind (wpAny_letGo ?_)
        simp only [if_true]
        refine wpAny_pure ⟨plainId_quiet F.plain_all_loop _, ih m' i' _ gs' hm' (hG'.set hb) ?_ hk'⟩
        have := hG'.num
        simp [Shared.setGen, this]
    · obtain ⟨H6, I6, q6⟩ := (hp.set (x := .finished) rfl).ex
      exact wpAny_bind (wpAny_rule (wpAny_pure (hRs _ H6 (I6.kept (t' := s1.toks) hk) q6)))
end
end BC
set_option Elab.async false
set_option linter.all false
set_option maxRecDepth 100000
set_option maxHeartbeats 2000000
namespace BC
open PySem PySem.Spec PyProof.Rows L2 GxR
section
variable {X : Cx} {pins : List (Addr × Obj)} {σ : L2.St} {H : Hp} {s : Shared}
theorem gblk_start {A' : Around} {scope : Scope} {own : List (Str × Nat)} {fp : List Addr} {code : Value} {a : Addr} {ao : Obj} {h5 : Heap} {tk : Nat} {gs : Array GenState} {m5 : Str → Option Value}
    (I : Inv X pins σ H s) (ok : BlkOk X.N X.env.scope scope own) (hnc : ∀ y ∈ scope.names, y.2 ≠ .cell) (hN : X.N.Nodup) (hfp : ∀ b ∈ fp, FpOk X pins H b ∧ b < s.heap.objs.size)
    (hA : A'.frames = some (genEnv scope (cloFrom X.env.cells scope.names []) s.heap.objs.size code builtinsNs X.env :: X.stack)) (hh : A'.handled = none) (kp : ∀ b o, s.heap.get? b = some o → h5.get? b = some o)
    (hns : h5.Ns s.heap.objs.size m5) (hga : h5.get? a = some ao) (hlt : s.heap.objs.size < a) (hao : ∀ v, ao.data ≠ .cell v) (hgs : AllBare gs) :
    Inv (gblk X A' s H scope (genEnv scope (cloFrom X.env.cells scope.names []) s.heap.objs.size code builtinsNs X.env) fp) [(a, ao)] (wipe σ (own.map (·.2))) H { s with gens := gs, toks := tk, heap := h5 } := by
  have hfree : ∀ y ∈ scope.names, y.2 = .free → ∃ c, X.env.cells.lookup y.1 = some c := fun y hy e => by
    rcases ok.free y hy e with k | k
    · exact I.ok.has _ (.inl k)
    · exact I.ok.has _ (.inr k)
  generalize hcenv : genEnv scope (cloFrom X.env.cells scope.names []) s.heap.objs.size code builtinsNs X.env = cenv at hA ⊢
  have hL : cenv.locals = s.heap.objs.size := by rw [← hcenv]; rfl
  have hcl : cenv.cells = cloFrom X.env.cells scope.names [] := by rw [← hcenv]; rfl
  have hsc : cenv.scope = scope := by rw [← hcenv]; rfl
  have cm : ∀ {y c}, (y, c) ∈ cloFrom X.env.cells scope.names [] → X.env.cells.lookup y = some c ∧ c < s.heap.objs.size := fun {y c} hm => by
    rcases cloFrom_mem hm with hm | ⟨h1, rfl⟩
    · cases hm
    · obtain ⟨c, hc⟩ := hfree _ h1 rfl
      rw [hc]
      obtain ⟨w, z⟩ := I.cell _ _ hc
      exact ⟨rfl, z.lt⟩
  have mem : ∀ {y c}, cenv.cells.lookup y = some c → X.env.cells.lookup y = some c ∧ c < s.heap.objs.size := fun {y c} e => by
    rw [hcl] at e
    exact cm (PySem.mem_of_lookup e)
  have look : ∀ {y}, scope.names.lookup y = some .free → ∃ c, cenv.cells.lookup y = some c ∧ X.env.cells.lookup y = some c := fun {y} hl => by
    have hy : (y, NameKind.free) ∈ scope.names := PySem.mem_of_lookup hl
    obtain ⟨c', e'⟩ := mem_lookup (cloFrom_has (cells := X.env.cells) (acc := []) hy)
    rw [← hcl] at e'
    exact ⟨c', e', (mem e').1⟩
  have hasK : ∀ {y k}, cenv.kindOf y = some k → scope.names.lookup y = some k := fun {y k} e => by
    unfold Env.kindOf at e
    rw [hsc] at e
    exact e
  have okB : (gblk X A' s H scope cenv fp).Ok := by
    refine ⟨I.ok.mod, by show cenv.scope.kind = _; rw [hsc]; exact ok.kind, by show cenv.globals = _; rw [← hcenv]; exact I.ok.glob, by show cenv.builtins = _; rw [← hcenv]; rfl, by show s.heap.objs.size ≤ cenv.locals; rw [hL]; exact Nat.le_refl _,
      fun y z c e1 e2 => I.ok.inj y z c (mem e1).1 (mem e2).1, fun y hy => ?_, fun y c z e => ?_, fun _ => hh, hA, .inr ⟨rfl, by rw [← hcenv]; rfl⟩, fun b hb => ⟨?_, fun y c e z => ?_⟩, I.bs, Nat.le_trans I.ok.bsz I.sz, fun b o e hb => ?_, fun b hb z => ?_, I.stack, I.stkFree⟩
    · rcases hy with hy | hy
      · exact absurd rfl (hnc (y, .cell) (PySem.mem_of_lookup (hasK hy)))
      · obtain ⟨c, h1, _⟩ := look (hasK hy)
        exact ⟨c, h1⟩
    · have z : (scope.names.lookup y == some NameKind.cell) = true := z
      have z : scope.names.lookup y = some .cell := by simpa using z
      exact absurd rfl (hnc (y, .cell) (PySem.mem_of_lookup z))
    · show b ≠ cenv.locals
      rw [hL]; exact Nat.ne_of_lt (hfp b hb).2
    · exact (hfp b hb).1.2.2.2.2.1 y c (mem e).1 z
    · rcases (hfp b hb).1.2.2.2.1 with z | z
      · exact I.ok.noex b o e z
      · exact absurd (Nat.lt_of_lt_of_le (Heap.lt_size e) (Nat.le_trans I.ok.bsz z)) (Nat.lt_irrefl _)
    · rcases List.mem_cons.mp (I.stkSub b z) with z | z
      · exact (hfp b hb).1.2.1 z
      · exact (hfp b hb).1.2.2.1 z
  refine ⟨okB, rfl, hgs, Un.kept kp, ⟨m5, ?_, fun i y av e1 e2 e3 => ?_⟩, fun y c e => ?_, ?_, fun y c e => ?_, fun p hp => ?_, I.hok.kept kp, by rw [wipe_length]; exact I.len⟩
  · show Heap.Ns _ cenv.locals _
    rw [hL]
    exact hns
  · obtain ⟨e2, hne⟩ := wipe_some e2
    have hfr : scope.names.lookup y = some .free := by
      have key : ∀ k, cenv.scope.names.lookup y = some k → k = .local ∨ k = .cell ∨ k = .free → scope.names.lookup y = some .free := fun k hk hk' => by
        rw [hsc] at hk
        have no : ¬ (k = .local ∨ k = .cell) := fun hh => by
          rcases ok.own _ (PySem.mem_of_lookup hk) hh with e' | e'
          · obtain ⟨p, hp, hpy⟩ := List.mem_map.mp e'
            have e3 := ok.ix p hp
            have : p.1 = y := hpy
            rw [this] at e3
            exact hne (List.mem_map.mpr ⟨p, hp, nodup_ix hN e3 e1⟩)
          · exact e' (List.mem_of_getElem? e1)
        rcases hk' with rfl | rfl | rfl
        · exact absurd (.inl rfl) no
        · exact absurd (.inr rfl) no
        · exact hk
      have e3 : Vis cenv.scope y := e3
      rcases e3 with e3 | e3 | e3
      · exact key _ e3 (.inl rfl)
      · exact key _ e3 (.inr (.inl rfl))
      · exact key _ e3 (.inr (.inr rfl))
    obtain ⟨m, hn, hl⟩ := I.loc
    have hvis : Vis X.env.scope y := (ok.free _ (PySem.mem_of_lookup hfr) rfl).elim (fun k => .inr (.inl k)) (fun k => .inr (.inr k))
    obtain ⟨w, r, q⟩ := hl i y av e1 e2 hvis
    refine ⟨w, r, .inr ⟨.inr (by show cenv.scope.names.lookup y = _; rw [hsc]; exact hfr), ?_⟩⟩
    obtain ⟨c, h1, h2⟩ := look hfr
    rcases q with ⟨k, _⟩ | ⟨_, c', e', z⟩
    · have k : X.env.scope.names.lookup y = some .local := k
      rcases ok.free _ (PySem.mem_of_lookup hfr) rfl with k' | k' <;> rw [show X.env.scope.names.lookup y = _ from k'] at k <;> cases k
    · rw [h2] at e'; cases e'
      exact ⟨c, h1, z.keeps kp⟩
  · obtain ⟨w, z⟩ := I.cell y c (mem e).1
    exact ⟨w, z.keeps kp⟩
  · show H cenv.locals = none
    rw [hL]; exact I.hok.fresh (Nat.le_refl _)
  · exact I.freeC y c (mem e).1
  · have hp : p ∈ ([] : List (Addr × Obj)) ++ [(a, ao)] := hp
    have hp : p = (a, ao) := by simpa using hp
    subst hp
    refine ⟨hga, I.hok.fresh (Nat.le_of_lt hlt), ?_, fun z => ?_, hao⟩
    · show a ≠ cenv.locals
      rw [hL]; exact Nat.ne_of_gt hlt
    · have hz : ∃ o, s.heap.get? a = some o := by
        rcases List.mem_cons.mp (I.stkSub a z) with z | z
        · obtain ⟨m, ⟨o, _, _, ho, _⟩, _⟩ := I.loc
          exact ⟨o, by rw [z]; exact ho⟩
        · obtain ⟨_, o, ho, _⟩ := I.funs.mem z
          exact ⟨o, ho⟩
      obtain ⟨o, ho⟩ := hz
      exact Nat.lt_irrefl _ (Nat.lt_trans hlt (Heap.lt_size ho))
end
end BC
set_option Elab.async false
set_option linter.all false
set_option maxRecDepth 100000
set_option maxHeartbeats 2000000
namespace BC
open PySem PySem.Spec PyProof.Rows L2 GxR
def tAnyG (e : Bool) (P : Addr) (wi : TI) (gg : TG) (te : TE) (vs : List Nat) : TE := fun σ H Q => wi σ H fun J H1 => TabG H1 P ∧ ∀ H2, Tabbed P H1 H2 → ∃ W : Nat → Nat → Hp → Prop, (∃ m, W 0 m H2) ∧ GTurn J gg te vs σ e (fun H => Q (.bl e) H) (fun H => Q (.bl (!e)) H) W
/-- the generator's own scope -/
structure GenK (scope : Scope) : Prop where
  co : scope.isCoroutine = false
  cell : ∀ y ∈ scope.names, y.2 ≠ .cell
  dot : scope.names.lookup (".0" : Str) = some NameKind.local
section
variable {X : Cx} {c P : Addr} {elt tg iter : Expr} {scope : Scope} {own : List (Str × Nat)} {p pos gpos : Pos} {wi : TI} {gg : TG} {te : TE} {k : Nat}
/-- what stands when a generator is made -/
structure GMade (X : Cx) (pins : List (Addr × Obj)) (σ : L2.St) (Q : VK) (e : Bool) (a : Addr) (s5 : Shared) : Prop where
  ex : ∃ (Xg : Cx) (ao : Obj) (g : Nat) (fp : List Addr) (tn : Nat → Heap → Prop) (vs : List Nat) (W : Nat → Nat → Hp → Prop) (m : Nat) (gs : GenState), Xg.prog = X.prog ∧ Xg.w = X.w ∧ (∀ h : Heap, h.get? a = some ao → h.IsGen a g) ∧ s5.heap.get? a = some ao ∧
    GSt Xg (a, ao) g fp tn (wipe σ vs) W 0 m s5 ∧ s5.gens[g]? = some gs ∧
    (∀ s'', GSt Xg (a, ao) g fp tn (wipe σ vs) W 0 m s'' → gs.Goes (model X.prog X.w) X.A.in1.in1 (gEnd Xg (a, ao) g (wipe σ vs) fun H => Q (.bl (!e)) H) (gYield Xg (a, ao) g fp tn (wipe σ vs) W e fun H => Q (.bl e) H) m (.send .none) s'') ∧
    (∀ s' H', Inv Xg [(a, ao)] (wipe σ vs) H' s' → Inv X pins σ H' s')
theorem gen_made {e : Bool} {pins : List (Addr × Obj)} {σ : L2.St} {H : Hp} {s : Shared} {Q : VK} {Q' : Value → Shared → Prop} (hr : Room (k + 1) X.A) (hN : X.N.Nodup) (hc : X.calm = true) (TB : TabB X.base X.mg c P) (hcode : X.env.code = .ref c) (S : GenK scope) (ok : BlkOk X.N X.env.scope scope own)
    (hi : PI X tg iter wi) (hg' : ∀ (A' : Around) (s : Shared) (H : Hp) (C : Addr) (code : Value) (cl : List (Str × Addr)) (fp : List Addr), Room k A' → PG (gblk X A' s H scope (genEnv scope cl C code builtinsNs X.env) fp) tg gg)
    (he : ∀ (A' : Around) (s : Shared) (H : Hp) (C : Addr) (code : Value) (cl : List (Str × Addr)) (fp : List Addr), Room k A' → PE (gblk X A' s H scope (genEnv scope cl C code builtinsNs X.env) fp) elt te)
    (hs : ∀ v, genFold iter X.env v = pure v) (I : Inv X pins σ H s) (h : tAnyG e P wi gg te (own.map (·.2)) σ H Q) (hQ : ∀ a s5, GMade X pins σ Q e a s5 → Q' (.ref a) s5) :
    wpAny (model X.prog X.w) X.A (eval (.GeneratorExp elt [⟨tg, iter, [], 0⟩] scope gpos) X.env) Q' X.xe s := by
  have dp := hr.dp
  have un := hr.un
  have hfree : ∀ y ∈ scope.names, y.2 = .free → ∃ c, X.env.cells.lookup y.1 = some c := fun y hy e => by
    rcases ok.free y hy e with k | k
    · exact I.ok.has _ (.inl k)
    · exact I.ok.has _ (.inr k)
  refine wpAny_GeneratorExp_make S.co (closure_ok hfree) S.cell S.dot ok.kind (by omega) (thn (hi.run pins s σ H _ I h) fun xv s1 hx => thn hx fun itv s2 h2 => ?_) hs
  obtain ⟨it, fp, tn, J, H2, e0, I2, T, st2, f2, ⟨t0, hP, ht⟩, q⟩ := h2
  subst e0
  refine ⟨I2.nolimit, code_of I2 hP ht TB hcode (fun b o e => e) fun code h3 tk kp ext le3 => blt_of I2 TB kp ?_⟩
  intro h' hn' hs'
  obtain ⟨more, tb, tri⟩ := kp.tab
  have I3 := inv_tab (more := more) (h' := h3) (g' := s2.gens) (d' := s2.drawn) (t' := tk) I2 hP (fun b o nb e => kp.all b o nb e) tb I2.bare
  obtain ⟨W, ⟨m0, w0⟩, hW⟩ := q _ ⟨⟨_, upd_same, tri⟩, fun _ nb => upd_ne nb⟩
  generalize hH3 : upd H2 P (.tbl (t0 ++ more)) = H3 at I3 w0
  have nP : ∀ b ∈ fp, b ≠ P := fun b hb z => by
    have := (f2 b hb).1
    rw [z, hP] at this
    cases this
  have f3 : ∀ b ∈ fp, FpOk X pins H3 b ∧ b < h3.objs.size := fun b hb => by
    obtain ⟨o, eo, _⟩ := T.obj _ _ st2 b hb
    refine ⟨⟨?_, (f2 b hb).2⟩, Heap.lt_size (kp.all b o (nP b hb) eo)⟩
    rw [← hH3, upd_ne (nP b hb)]
    exact (f2 b hb).1
  have st3 : tn 0 h3 := T.keep _ _ _ st2 fun b hb o e => kp.all b o (nP b hb) e
  have hsz : h'.objs.size = h3.objs.size + 1 := by rw [hs'.1, Heap.size_push]
  have kp4 : ∀ b o, h3.get? b = some o → h'.get? b = some o := fun b o e => hs'.extBut b o (Nat.ne_of_lt (Heap.lt_size e)) (Heap.get?_push_of_some _ e)
  refine hQ _ _ ?_
  generalize hao : ({ cls := .type "generator", data := .fields #[.int s2.gens.size 0, .str "<genexpr>" (tk + 1), .str (X.env.qual ++ "<genexpr>") (tk + 1 + 1)] } : Obj) = ao
  have kp5 : ∀ b o, h3.get? b = some o → (h'.push ao).get? b = some o := fun b o e => Heap.get?_push_of_some _ (kp4 b o e)
  have hga : (h'.push ao).get? h'.objs.size = some ao := Heap.get?_push_size _ (by rw [← hao]; rfl)
  have hlt : h3.objs.size < h'.objs.size := by omega
  generalize hce : genEnv scope (cloFrom X.env.cells scope.names []) h3.objs.size code builtinsNs X.env = cenv
  have hA' : (X.A.in1.in1.over (genC elt tg iter scope gpos it cenv) []).frames = some (cenv :: X.stack) := by
    show pushEnvs [cenv] (pushEnvs [] X.A.frames) = _
    rw [I.ok.frames]
    rfl
  have hhA : (X.A.in1.in1.over (genC elt tg iter scope gpos it cenv) []).handled = none := hr.hd
  have hrA : Room k (X.A.in1.in1.over (genC elt tg iter scope gpos it cenv) []) := ⟨hhA, by show X.A.depth + 0 + 1 + 3 * k + 5 < _; omega, by show X.A.units + 1 + 1 + 0 + 3 + 16 * k + 200 < _; omega⟩
  generalize hfr : (GenState.fresh (.compStart (.GeneratorExp elt [⟨tg, iter, [], 0⟩] scope gpos) 0 (.ref it) .none cenv)) = fr
  have bare5 : AllBare (s2.gens.push fr) := I2.bare.push (by rw [← hfr]; rfl)
  have I5 := gblk_start (A' := X.A.in1.in1.over (genC elt tg iter scope gpos it cenv) []) (code := code) (a := h'.objs.size) (ao := ao) (h5 := h'.push ao) (tk := tk + 1 + 1 + 1) (gs := s2.gens.push fr) I3 ok S.cell hN f3 (by rw [hce]; exact hA') hhA kp5 (hn'.push _) hga hlt (fun v z => by rw [← hao] at z; cases z) bare5
  have pg := hg' _ { s2 with heap := h3, toks := tk } H3 h3.objs.size code (cloFrom X.env.cells scope.names []) fp hrA
  have pe := he _ { s2 with heap := h3, toks := tk } H3 h3.objs.size code (cloFrom X.env.cells scope.names []) fp hrA
  have I5 : Inv (gblk X (X.A.in1.in1.over (genC elt tg iter scope gpos it cenv) []) { s2 with heap := h3, toks := tk } H3 scope cenv fp) [(h'.objs.size, ao)] (wipe σ (own.map (·.2))) H3 { s2 with gens := s2.gens.push fr, toks := tk + 1 + 1 + 1, heap := h'.push ao } := by
    rw [hce] at I5
    exact I5
  rw [hce] at pg pe
  generalize hXg : gblk X (X.A.in1.in1.over (genC elt tg iter scope gpos it cenv) []) { s2 with heap := h3, toks := tk } H3 scope cenv fp = Xg at I5 pg pe
  have stat : ∀ {σ' : L2.St} {H' : Hp} {s' : Shared}, Inv Xg [(h'.objs.size, ao)] σ' H' s' → (∀ b ∈ fp, H' b = none) → ∀ b ∈ fp, FpOk Xg [(h'.objs.size, ao)] H' b := fun {σ' H' s'} I' hn b hb => by
    subst hXg
    refine ⟨hn b hb, (I'.ok.exf b hb).1, I'.ok.exfs b hb, .inl hb, fun x c e => (I'.ok.exf b hb).2 x c e, fun p hp => ?_⟩
    have hp : p ∈ ([] : List (Addr × Obj)) ++ [(h'.objs.size, ao)] := hp
    have hp : p = (h'.objs.size, ao) := by simpa using hp
    subst hp
    have := (f3 b hb).2
    exact Nat.ne_of_gt (Nat.lt_trans this hlt)
  have nfp : ∀ b ∈ fp, H3 b = none := fun b hb => (f3 b hb).1.1
  have hG : GSt Xg (h'.objs.size, ao) s2.gens.size fp tn (wipe σ (own.map (·.2))) W 0 m0 { s2 with gens := s2.gens.push fr, toks := tk + 1 + 1 + 1, heap := h'.push ao } :=
    ⟨⟨H3, I5, T.keep _ _ _ st3 fun b _ o e => kp5 b o e, nfp, w0⟩, by show s2.gens.size < (s2.gens.push fr).size; rw [Array.size_push]; exact Nat.lt_succ_self _⟩
  refine ⟨Xg, ao, s2.gens.size, fp, tn, own.map (·.2), W, m0, fr, by rw [← hXg], by rw [← hXg], fun h z => ⟨ao, _, _, z, by rw [← hao], by rw [← hao], by rw [← hao]⟩, hga, hG, ?_, fun s'' hs'' => ?_, fun s' H' I' => ?_⟩
  · exact Array.getElem?_push_size ..
  · rw [← hfr]
    refine ⟨rfl, ?_⟩
    have hp1 : Xg.prog = X.prog := by rw [← hXg]
    have hp2 : Xg.w = X.w := by rw [← hXg]
    have := seg_loud0 (Xg := Xg) (A := X.A.in1.in1) (elt := elt) (tg := tg) (iter := iter) (scope := scope) (pos := gpos) (it := it) (cenv := cenv) (p := (h'.objs.size, ao)) (g := s2.gens.size) (tn := tn) (fp := fp) (W := W) (by rw [← hXg]) (by rw [← hXg]) (by rw [← hXg]) (by rw [← hXg]; exact T) (by rw [← hXg]; exact hc) (by rw [← hce]; exact S.co) (fun a b => stat a b) pg pe hW m0 m0 s'' s'' (Nat.le_refl _) hs''
    rw [hp1, hp2] at this
    exact this
  · subst hXg
    exact I3.call' (ch := fp) I'.os I'.base I'.hok I'.bare fun b hb => ⟨(f3 b hb).1.2.2.2.1, (f3 b hb).1.2.1, (f3 b hb).1.2.2.2.2.1, (f3 b hb).1.2.2.2.2.2⟩
theorem pe_anyG (hr : Room (k + 1) X.A) (hN : X.N.Nodup) (hc : X.calm = true) (hg : Gl X "any") (hm : X.mg "any" = none) (TB : TabB X.base X.mg c P) (hcode : X.env.code = .ref c) (S : GenK scope) (ok : BlkOk X.N X.env.scope scope own)
    (hi : PI X tg iter wi) (hg' : ∀ (A' : Around) (s : Shared) (H : Hp) (C : Addr) (code : Value) (cl : List (Str × Addr)) (fp : List Addr), Room k A' → PG (gblk X A' s H scope (genEnv scope cl C code builtinsNs X.env) fp) tg gg)
    (he : ∀ (A' : Around) (s : Shared) (H : Hp) (C : Addr) (code : Value) (cl : List (Str × Addr)) (fp : List Addr), Room k A' → PE (gblk X A' s H scope (genEnv scope cl C code builtinsNs X.env) fp) elt te)
    (hs : ∀ v, genFold iter X.env v = pure v := by intro _; rfl)
    (hse : starEach [.GeneratorExp elt [⟨tg, iter, [], 0⟩] scope gpos] X.env = (false, eval (.GeneratorExp elt [⟨tg, iter, [], 0⟩] scope gpos) X.env) :: starEach [] X.env := by rfl) :
    PE X (.Call (.Name "any" p) [.GeneratorExp elt [⟨tg, iter, [], 0⟩] scope gpos] [] pos) (tAnyG true P wi gg te (own.map (·.2))) := by
  refine ⟨fun pins s σ H Q I h => ?_⟩
  have dp := hr.dp
  refine wpAny_Call_Name_kw (ld_blt I hg hm (u := .builtin "any") (by decide +kernel) ?_ (by decide) (by decide))
  refine PyProof.Rows.callWith_builtin1 ?_ hse (by rfl)
  rw [hse]
  show wpAny _ _ (spliced ((false, eval (.GeneratorExp elt [⟨tg, iter, [], 0⟩] scope gpos) X.env) :: backTo pos (starEach [] X.env))) _ _ s
  refine Calls.spliced_cons (gen_made hr hN hc TB hcode S ok hi hg' he hs I h fun a s5 ⟨Xg, ao, g, fp, tn, vs, W, m, gs, e1, e2, hgen, hat, hG, hgs, hgo, back⟩ => Calls.spliced_nil ?_)
  refine call_function_tree F.kind_any F.plain_any F.entry_any (F.args_any1 _) ?_
  unfold Builtin.«any»
  refine wpAny_bind (m := oneArg "any" _) (wpAny_pure ?_)
  refine wpAny_bind (wpAny_pyIter_gen (hgen _ hat) ?_)
  rw [← e1, ← e2] at hgo ⊢
  exact wpAny_pure ⟨plainId_quiet F.plain_any_loop _, any_loud (p := (a, ao)) hr.hd (by omega) hgen (fun s' H' I' q => ⟨.bl true, H', back s' H' I', rfl, q⟩) (fun s' H' I' q => ⟨.bl false, H', back s' H' I', rfl, q⟩) m m 0 s5 gs (Nat.le_refl _) hG hgs hgo⟩
theorem pe_allG (hr : Room (k + 1) X.A) (hN : X.N.Nodup) (hc : X.calm = true) (hg : Gl X "all") (hm : X.mg "all" = none) (TB : TabB X.base X.mg c P) (hcode : X.env.code = .ref c) (S : GenK scope) (ok : BlkOk X.N X.env.scope scope own)
    (hi : PI X tg iter wi) (hg' : ∀ (A' : Around) (s : Shared) (H : Hp) (C : Addr) (code : Value) (cl : List (Str × Addr)) (fp : List Addr), Room k A' → PG (gblk X A' s H scope (genEnv scope cl C code builtinsNs X.env) fp) tg gg)
    (he : ∀ (A' : Around) (s : Shared) (H : Hp) (C : Addr) (code : Value) (cl : List (Str × Addr)) (fp : List Addr), Room k A' → PE (gblk X A' s H scope (genEnv scope cl C code builtinsNs X.env) fp) elt te)
    (hs : ∀ v, genFold iter X.env v = pure v := by intro _; rfl)
    (hse : starEach [.GeneratorExp elt [⟨tg, iter, [], 0⟩] scope gpos] X.env = (false, eval (.GeneratorExp elt [⟨tg, iter, [], 0⟩] scope gpos) X.env) :: starEach [] X.env := by rfl) :
    PE X (.Call (.Name "all" p) [.GeneratorExp elt [⟨tg, iter, [], 0⟩] scope gpos] [] pos) (tAnyG false P wi gg te (own.map (·.2))) := by
  refine ⟨fun pins s σ H Q I h => ?_⟩
  have dp := hr.dp
  refine wpAny_Call_Name_kw (ld_blt I hg hm (u := .builtin "all") (by decide +kernel) ?_ (by decide) (by decide))
  refine PyProof.Rows.callWith_builtin1 ?_ hse (by rfl)
  rw [hse]
  show wpAny _ _ (spliced ((false, eval (.GeneratorExp elt [⟨tg, iter, [], 0⟩] scope gpos) X.env) :: backTo pos (starEach [] X.env))) _ _ s
  refine Calls.spliced_cons (gen_made hr hN hc TB hcode S ok hi hg' he hs I h fun a s5 ⟨Xg, ao, g, fp, tn, vs, W, m, gs, e1, e2, hgen, hat, hG, hgs, hgo, back⟩ => Calls.spliced_nil ?_)
  refine call_function_tree F.kind_all F.plain_all F.entry_all (F.args_all1 _) ?_
  unfold Builtin.«all»
  refine wpAny_bind (m := oneArg "all" _) (wpAny_pure ?_)
  refine wpAny_bind (wpAny_pyIter_gen (hgen _ hat) ?_)
  rw [← e1, ← e2] at hgo ⊢
  exact wpAny_pure ⟨plainId_quiet F.plain_all_loop _, all_loud (p := (a, ao)) hr.hd (by omega) hgen (fun s' H' I' q => ⟨.bl false, H', back s' H' I', rfl, q⟩) (fun s' H' I' q => ⟨.bl true, H', back s' H' I', rfl, q⟩) m m 0 s5 gs (Nat.le_refl _) hG hgs hgo⟩
end
end BC
set_option Elab.async false
set_option linter.all false
set_option maxRecDepth 100000
set_option maxHeartbeats 2000000
namespace BC
open PySem PySem.Spec PyProof.Rows L2 GxR
def runAny (e : Bool) (st : D → SS → Option SS) (te : DX) (vs : List Nat) : List D → SS → Option (Bool × SS)
  | [], S => some (!e, S)
  | d :: ds, S => (st d S).bind fun S1 => (te S1).bind fun y => match y.1 with
    | .bool b => if b = e then some (e, wipeS y.2 vs) else runAny e st te vs ds (wipeS y.2 vs)
    | _ => none
/-- any (e true), all (e false) of (elt for tg in iter) -/
def xAnyG (e : Bool) (fs : DA) (st : D → SS → Option SS) (te : DX) (vs : List Nat) : DX := fun S => (fs S).bind fun p => (runAny e st te vs p.1 (wipeS p.2 vs)).map fun q => (.bool q.1, restS p.2 q.2 vs)
section
variable {X : Cx} {E : En} {σ : L2.St} {S : SS} {B H : Hp}
theorem anyG_imp {P : Addr} {e : Bool} {wi : TI} {g : TG} {st : D → SS → Option SS} {te : DX} {vs : List Nat} {fs : DA} (hP : P ∈ E.T) (hi : ∀ σ H R, upI E fs σ H R → wi σ H R) (hg : TgV vs E g st) (hp : ∀ q ∈ E.pa, q.1 ∉ vs) {Q : VK} (h : up E (xAnyG e fs st te vs) σ H Q) : tAnyG e P wi g (up E te) vs σ H Q := by
  obtain ⟨B, S, d, S', R, e0, k⟩ := h
  unfold xAnyG at e0
  simp only [Option.bind_eq_some_iff, Option.map_eq_some_iff] at e0
  obtain ⟨⟨src, S1⟩, e1, ⟨r, S2⟩, e2, e3⟩ := e0
  cases e3
  refine hi σ H _ ⟨B, S, src, S1, R, e1, fun J B1 H1 s1 R1 hJ => ⟨(R1.tabs P hP).1, fun H2 hT => ?_⟩⟩
  have R1' : Rep E B1 H2 σ S1 := Rep.tabbed R1 hP hT
  refine ⟨fun i m H => m = src.length - i ∧ i ≤ src.length ∧ ∃ B S, Same B1 B ∧ Rep E B H (wipe σ vs) S ∧ runAny e st te vs (src.drop i) S = some (r, S2), ⟨src.length, by simp, Nat.zero_le _, B1, _, Same.refl B1, R1'.wiped hp, e2⟩, ?_⟩
  rintro i m H ⟨rfl, hi', B2, S3, s2, R2, er⟩
  by_cases hlt : i < src.length
  · have hd : src[i]? = some src[i] := List.getElem?_eq_getElem hlt
    rw [drop_cons hd] at er
    unfold runAny at er
    simp only [Option.bind_eq_some_iff] at er
    obtain ⟨S4, er1, ⟨yd, S5⟩, er2, er3⟩ := er
    refine .inr ⟨hJ.go i H (s2.trans R2.sub) hlt, by omega, fun H' => ∃ B S, Same B1 B ∧ Rep E B H' (wipe σ vs) S ∧ runAny e st te vs (src.drop (i + 1)) S = some (r, S2),
      fun H' ⟨B', S', h1, h2, h3⟩ => ⟨src.length - (i + 1), by omega, rfl, hlt, B', S', h1, h2, h3⟩, fun x H' y => ?_⟩
    have fin : ∀ (B' H' : Hp), Same B2 B' → Rep E B' H' (wipe σ vs) S3 → Dp E.K B' x src[i] → g x (wipe σ vs) H' fun σ2 H2 => wipe σ2 vs = wipe σ vs ∧ up E te σ2 H2 fun y H4 => ∃ b : Bool, y = .bl b ∧
        if b = e then Q (.bl e) H4 else ∃ B S, Same B1 B ∧ Rep E B H4 (wipe σ vs) S ∧ runAny e st te vs (src.drop (i + 1)) S = some (r, S2) := fun B' H' sB R' dx => by
      refine hg x _ (wipe σ vs) B' H' S3 S4 _ R' dx er1 fun σ2 R3 hl hf => ?_
      have hw : wipe σ2 vs = wipe σ vs := by
        rw [wipe_wipe hl hf]
        exact wipe_wipe (wipe_length _ _) fun j hj => by rw [wipe_get, if_neg fun z => hj z.1]
      refine ⟨hw, B', S4, yd, S5, R3, er2, fun yv B4 H4 s4 R5 dy => ?_⟩
      cases yd with
      | bool b =>
        simp only at er3
        cases dy
        refine ⟨b, rfl, ?_⟩
        have R6 : Rep E B4 H4 (wipe σ vs) (wipeS S5 vs) := by
          rw [← hw]
          exact R5.wiped hp
        by_cases hbe : b = e
        · rw [if_pos hbe] at er3 ⊢
          cases er3
          exact k _ B4 H4 (s1.trans ((s2.trans sB).trans s4)) (R1'.restored ((s2.trans sB).trans s4) R6 hp) (.bl _)
        · rw [if_neg hbe] at er3 ⊢
          exact ⟨B4, _, (s2.trans sB).trans s4, R6, er3⟩
      | _ => cases er3
    rcases hJ.yld i H x H' _ (s2.trans R2.sub) hd y with ⟨rfl, dx⟩ | ⟨T, ws', es, rfl, hT, rfl, ed, de⟩
    · exact fin B2 H' (Same.refl B2) R2 (dp_mono s2 dx)
    · obtain ⟨s4, R4, d4⟩ := new_tup R2 hT (dpAll_mono s2 de)
      exact fin _ _ s4 R4 (by rw [ed]; exact d4)
  · have hi2 : i = src.length := by omega
    subst hi2
    rw [List.drop_length] at er
    unfold runAny at er
    cases er
    exact .inl ⟨hJ.stop _ H (s2.trans R2.sub) (Nat.le_refl _), k _ B2 H (s1.trans s2) (R1'.restored s2 R2 hp) (.bl _)⟩
variable {c P : Addr} {elt tg iter : Expr} {scope : Scope} {own : List (Str × Nat)} {p pos gpos : Pos} {fs : DA} {g : TG} {st : D → SS → Option SS} {te : DX} {k : Nat}
theorem d_anyG (hP : P ∈ E.T) (hr : Room (k + 1) X.A) (hN : X.N.Nodup) (hc : X.calm = true) (hgl : Gl X "any") (hm : X.mg "any" = none) (TB : TabB X.base X.mg c P) (hcode : X.env.code = .ref c) (S : GenK scope) (ok : BlkOk X.N X.env.scope scope own)
    (hi : PI X tg iter (upI E fs)) (hg' : ∀ (A' : Around) (s : Shared) (H : Hp) (C : Addr) (code : Value) (cl : List (Str × Addr)) (fp : List Addr), Room k A' → PG (gblk X A' s H scope (genEnv scope cl C code builtinsNs X.env) fp) tg g) (hgD : TgV (own.map (·.2)) E g st) (hp : ∀ q ∈ E.pa, q.1 ∉ own.map (·.2))
    (he : ∀ (A' : Around) (s : Shared) (H : Hp) (C : Addr) (code : Value) (cl : List (Str × Addr)) (fp : List Addr), Room k A' → PE (gblk X A' s H scope (genEnv scope cl C code builtinsNs X.env) fp) elt (up E te))
    (hs : ∀ v, genFold iter X.env v = pure v := by intro _; rfl)
    (hse : starEach [.GeneratorExp elt [⟨tg, iter, [], 0⟩] scope gpos] X.env = (false, eval (.GeneratorExp elt [⟨tg, iter, [], 0⟩] scope gpos) X.env) :: starEach [] X.env := by rfl) :
    PE X (.Call (.Name "any" p) [.GeneratorExp elt [⟨tg, iter, [], 0⟩] scope gpos] [] pos) (up E (xAnyG true fs st te (own.map (·.2)))) :=
  PE.imp (pe_anyG hr hN hc hgl hm TB hcode S ok hi hg' he hs hse) fun σ H Q h => anyG_imp hP (fun _ _ _ h => h) hgD hp h
theorem d_allG (hP : P ∈ E.T) (hr : Room (k + 1) X.A) (hN : X.N.Nodup) (hc : X.calm = true) (hgl : Gl X "all") (hm : X.mg "all" = none) (TB : TabB X.base X.mg c P) (hcode : X.env.code = .ref c) (S : GenK scope) (ok : BlkOk X.N X.env.scope scope own)
    (hi : PI X tg iter (upI E fs)) (hg' : ∀ (A' : Around) (s : Shared) (H : Hp) (C : Addr) (code : Value) (cl : List (Str × Addr)) (fp : List Addr), Room k A' → PG (gblk X A' s H scope (genEnv scope cl C code builtinsNs X.env) fp) tg g) (hgD : TgV (own.map (·.2)) E g st) (hp : ∀ q ∈ E.pa, q.1 ∉ own.map (·.2))
    (he : ∀ (A' : Around) (s : Shared) (H : Hp) (C : Addr) (code : Value) (cl : List (Str × Addr)) (fp : List Addr), Room k A' → PE (gblk X A' s H scope (genEnv scope cl C code builtinsNs X.env) fp) elt (up E te))
    (hs : ∀ v, genFold iter X.env v = pure v := by intro _; rfl)
    (hse : starEach [.GeneratorExp elt [⟨tg, iter, [], 0⟩] scope gpos] X.env = (false, eval (.GeneratorExp elt [⟨tg, iter, [], 0⟩] scope gpos) X.env) :: starEach [] X.env := by rfl) :
    PE X (.Call (.Name "all" p) [.GeneratorExp elt [⟨tg, iter, [], 0⟩] scope gpos] [] pos) (up E (xAnyG false fs st te (own.map (·.2)))) :=
  PE.imp (pe_allG hr hN hc hgl hm TB hcode S ok hi hg' he hs hse) fun σ H Q h => anyG_imp hP (fun _ _ _ h => h) hgD hp h
/-- the generator's scope, by a look -/
def genC' (scope : Scope) : Bool := !scope.isCoroutine && (scope.names.all fun y => match y.2 with | .cell => false | _ => true) && (match scope.names.lookup (".0" : Str) with | some .local => true | _ => false)
theorem genK_by {scope : Scope} (h : genC' scope = true) : GenK scope := by
  unfold genC' at h
  simp only [Bool.and_eq_true, List.all_eq_true, Bool.not_eq_true'] at h
  obtain ⟨⟨h1, h2⟩, h3⟩ := h
  refine ⟨h1, fun y hy z => ?_, ?_⟩
  · have := h2 y hy
    rw [z] at this
    cases this
  · split at h3
    · assumption
    · cases h3
end
end BC
set_option Elab.async false
set_option linter.all false
set_option maxRecDepth 100000
set_option maxHeartbeats 2000000
namespace BC
open PySem PySem.Spec PyProof.Rows L2 GxR
section
variable {X : Cx} {E : En} {a b c e tg : Expr} {es : List Expr} {fa fb fc fe fk fv : DX} {fr fl : DA} {pos : Pos} {σ : L2.St} {S : SS} {B H : Hp}
/-! ### targets of any depth -/
def setPs : List (D → SS → Option SS) → List D → SS → Option SS
  | [], [], S => some S
  | st :: r, d :: ds, S => (st d S).bind fun S1 => setPs r ds S1
  | _, _, _ => none
def setT (sts : List (D → SS → Option SS)) (d : D) (S : SS) : Option SS := match d with
  | .tuple ds => setPs sts ds S
  | _ => none
def TgVs (vs : List Nat) (E : En) (g : TGs) (sts : List (D → SS → Option SS)) : Prop :=
  ∀ (xs : List V) (ds : List D) (σ : L2.St) (B H : Hp) (S S' : SS) (Q : L2.St → Hp → Prop), Rep E B H σ S → DpAll E.K B xs ds → setPs sts ds S = some S' → (∀ σ', Rep E B H σ' S' → σ'.length = σ.length → (∀ j, j ∉ vs → σ'[j]? = σ[j]?) → Q σ' H) → g xs σ H Q
theorem tvs_nil {vs : List Nat} : TgVs vs E gNil [] := fun xs ds σ B H S S' Q R dx e k => by
  cases dx with
  | nil => cases e; exact ⟨rfl, k σ R rfl fun _ _ => rfl⟩
  | cons _ _ => cases e
theorem tvs_cons {vs : List Nat} {g : TG} {gs : TGs} {st : D → SS → Option SS} {sts : List (D → SS → Option SS)} (h : TgV vs E g st) (hs : TgVs vs E gs sts) : TgVs vs E (gCons g gs) (st :: sts) := fun xs ds σ B H S S' Q R dx e k => by
  cases dx with
  | nil => cases e
  | @cons x xs d ds hd hr =>
    simp only [setPs, Option.bind_eq_some_iff] at e
    obtain ⟨S1, e1, e2⟩ := e
    exact ⟨x, xs, rfl, h x d σ B H S S1 _ R hd e1 fun σ1 R1 l1 f1 => hs xs ds σ1 B H S1 S' _ R1 hr e2 fun σ2 R2 l2 f2 => k σ2 R2 (l2.trans l1) fun j hj => (f2 j hj).trans (f1 j hj)⟩
theorem setPs_len : ∀ {sts : List (D → SS → Option SS)} {ds : List D} {S S' : SS}, setPs sts ds S = some S' → ds.length = sts.length
  | [], [], _, _, _ => rfl
  | _ :: _, _ :: _, _, _, h => by
    simp only [setPs, Option.bind_eq_some_iff] at h
    obtain ⟨S1, _, e2⟩ := h
    exact congrArg Nat.succ (setPs_len e2)
  | [], _ :: _, _, _, h => by cases h
  | _ :: _, [], _, _, h => by cases h
theorem tv_tup {K : PySem.W.Frag} {vs : List Nat} {gs : TGs} {sts : List (D → SS → Option SS)} (hK : K = E.K) (h : TgVs vs E gs sts) : TgV vs E (gTup K sts.length gs) (setT sts) := fun x d σ B H S S' Q R dx e k => by
  cases dx with
  | @tup a0 ws ds hm hr => exact ⟨a0, ws, rfl, by rw [hK]; exact same_seqT R.sub hm, by rw [dpAll_len hr]; exact setPs_len e, h ws ds σ B H S S' Q R hr e k⟩
  | _ => cases e
theorem tgd_of {vs : List Nat} {g : TG} {st : D → SS → Option SS} (h : TgV vs E g st) : TgD E g st := fun x d σ B H S S' Q R dx e k => h x d σ B H S S' Q R dx e fun σ' R' _ _ => k σ' R'
/-! ### xs[k] += e of a name's own list of ints -/
theorem get_list : PGet X (rIxL X.K) := by
  intro pins s σ H o i ov iv Q I ro ri h
  obtain ⟨p, xs, k, z, rfl, rfl, hq, he, q⟩ := h
  cases ro
  obtain ⟨t, rfl⟩ := ri
  obtain ⟨its, r, pl, hz⟩ := I.list hq
  obtain ⟨j, h1, h2, h3, h4, h5⟩ := atI_get he
  obtain ⟨w, ew, rw'⟩ := r.get h2
  have hl := r.length
  have hn := line63
  have fin : EP X pins σ Q w s := ⟨z, H, I, rw', q⟩
  by_cases h0 : 0 ≤ k
  · have hj : k.toNat = j := by
      rw [seqIndex_of h0 h5] at h1
      exact Option.some.inj h1
    exact wpAny_getItem_list pl.isList h0 (by omega) (by rw [hj]; simpa using ew) fin
  · have hj : (k + (its.toArray.size : Int)).toNat = j := by
      rw [seqIndex_neg (by omega) h4] at h1
      rw [List.size_toArray, ← hl]
      exact Option.some.inj h1
    exact wpAny_getItem_list_neg pl.isList (by omega) (by rw [List.size_toArray] <;> omega) (by omega) (by rw [hj]; simpa using ew) fin
def sAugI (i : Nat) (h : Int → Int → Int) (fk fe : DX) : SX := fun S => match S[i]? with
  | some (.own (.lst _)) => (fk S).bind fun p => match p.2[i]?, p.1 with
    | some (.own (.lst ds)), .int k => match (ixN ds.length k).bind fun j => ds[j]? with
      | some (.int x) => (fe p.2).bind fun q => match q.2[i]?, q.1 with
        | some (.own (.lst ds')), .int y => (ixN ds'.length k).map fun j => .nx (q.2.set i (.own (.lst (ds'.set j (.int (h x y))))))
        | _, _ => none
      | _ => none
    | _, _ => none
  | _ => none
theorem s_augI {i : Nat} {o kx : Expr} {op : Operator} {h : Int → Int → Int} {tpos : Pos} (ho : PE X o (tVar i)) (hk : PE X kx (up E fk)) (he : PE X e (up E fe)) (hop : PIp X op (ipI h)) (hK : X.K = E.K)
    (ha : ∀ ov iv new, augStore kx ov iv new = (do holding [new, ov, iv] (setItem ov iv new); release [new, ov, iv] []; pure .next) := by intros; rfl) :
    PS X (.AugAssign (.Subscript o kx tpos) op e pos) (upS E (sAugI i h fk fe)) := PS.imp (ps_augS ho hk get_list he hop set_list ha) fun σ H D ⟨B, S, r, R, e0, kk⟩ => by
  unfold sAugI at e0
  split at e0
  · rename_i ds0 h0
    obtain ⟨a0, o0, g1, g2, g3, ⟨vs0, g4, _⟩, _⟩ := R.own i _ h0
    refine ⟨_, g1, ?_⟩
    simp only [Option.bind_eq_some_iff] at e0
    obtain ⟨⟨d1, S1⟩, e1, e2⟩ := e0
    split at e2
    · rename_i ds k0 h1 h2
      simp only at h1 h2
      subst h2
      split at e2
      · rename_i x0 hx
        simp only [Option.bind_eq_some_iff] at e2
        obtain ⟨⟨d3, S3⟩, e3, e4⟩ := e2
        split at e4
        · rename_i ds' y0 h3 h4
          simp only at h3 h4
          subst h4
          simp only [Option.map_eq_some_iff] at e4
          obtain ⟨j, e5, e6⟩ := e4
          cases e6
          refine ⟨B, S, _, S1, R, e1, fun y B1 H1 s1 R1 dy => ?_⟩
          cases dy
          obtain ⟨a1, o1, es1, _, hH, ⟨vs, rfl, r⟩, _⟩ := R1.own i _ h1
          rw [g1] at es1
          cases es1
          obtain ⟨v, q1, q2⟩ := atI_of r hx
          refine ⟨_, _, _, v, rfl, rfl, SqL.of hH, q1, ?_⟩
          refine ⟨B1, S1, _, S3, R1, e3, fun w B2 H2 s2 R2 dw => ?_⟩
          cases dw
          have q3 := dp_mono s2 q2
          cases q3
          refine ⟨_, _, rfl, rfl, ?_⟩
          obtain ⟨a2, o2, es2, _, hH2, ⟨vs2, rfl, r2⟩, _⟩ := R2.own i _ h3
          rw [g1] at es2
          cases es2
          refine ⟨_, vs2, _, j, rfl, rfl, hH2, by rw [dpAll_len r2]; exact e5, ?_⟩
          exact kk σ B2 _ (s1.trans s2) (R2.write h3 g1 ⟨_, rfl, dpAll_set (.int _) j r2⟩)
        · cases e4
      · cases e2
    · cases e2
  · cases e0
/-! ### [x, ..] * n, a new list -/
def yTimes (fl : DA) (fb : DX) : DA := fun S => (fl S).bind fun p => (fb p.2).bind fun q => match q.1 with
  | .int k => if -1000 ≤ k ∧ k ≤ 1000 ∧ p.1.length ≤ 100 then some ((List.replicate k.toNat p.1).flatten, q.2) else none
  | _ => none
theorem l_times (ha : PE X a (upL E fl)) (hb : PE X b (up E fb)) : PE X (.BinOp a .Mult b pos) (upL E (yTimes fl fb)) :=
  PE.imp (pe_op op_rep ha hb) fun σ H Q ⟨B, S, d, S', R, e, kk⟩ => by
    unfold yTimes at e
    simp only [Option.bind_eq_some_iff] at e
    obtain ⟨⟨ds, S1⟩, e1, ⟨d2, S2⟩, e2, e3⟩ := e
    cases d2 <;> (try (simp at e3; done))
    rename_i k
    simp only at e3
    split at e3
    · rename_i hk
      cases e3
      refine ⟨B, S, ds, S1, R, e1, fun p vs B1 H1 s1 R1 hp hb0 h0 ho dv => ?_⟩
      have s0 : Same B1 (upd B1 p (.lst vs)) := same_upd hb0
      refine ⟨_, S1, _, _, R1.fix hp hb0 h0 ntLst ho, e2, fun y B2 H2 s2 R2 dy => ?_⟩
      cases dy
      have hp2 : H2 p = some (.lst vs) := R2.sub _ _ (s2 _ _ upd_same)
      have lv := dpAll_len dv
      have fit : vs.length * k.toNat ≤ 100000 := by
        have h1 : vs.length ≤ 100 := by rw [lv]; exact hk.2.2
        have h2 : k.toNat ≤ 1000 := by omega
        exact Nat.mul_le_mul h1 h2
      refine ⟨p, k, vs, rfl, rfl, hp2, by omega, by omega, line_le fit, fun q hq => ?_⟩
      have dd : DpAll E.K B2 (List.replicate k.toNat vs).flatten (List.replicate k.toNat ds).flatten := dpAll_times (dpAll_mono (s0.trans s2) dv) k.toNat
      exact kk q _ B2 _ ((s1.trans s0).trans s2) (R2.fresh hq ntLst) upd_same (R2.sub.free hq) (h0_of R2 hq) (own_ne R2 hq) dd
    · cases e3
end
end BC
set_option Elab.async false
set_option linter.all false
set_option maxRecDepth 100000
set_option maxHeartbeats 2000000
namespace BC
open PySem PySem.Spec PyProof.Rows L2 GxR
section
variable {E : En} {σ : L2.St} {S : SS} {B H : Hp}
/-- a thing that nobody told of is told of, in another clothing -/
theorem Rep.swap (R : Rep E B H σ S) {p : Addr} {o o' : HO} (hH : H p = some o) (hnt : NoTbl o) (hB : B p = none) (h0 : E.H0 p = none) (hs : ∀ (j : Nat) c, S[j]? = some (.own c) → σ[j]? ≠ some (some (V.ref p))) (ho : NoTbl o') :
    Same B (upd B p o') ∧ Rep E (upd B p o') (upd H p o') σ S := by
  have sB : Same B (upd B p o') := same_upd hB
  have ne0 : ∀ q, E.H0 q ≠ none → q ≠ p := fun q h z => h (by rw [z]; exact h0)
  refine ⟨sB, R.base.trans sB, fun b x z => ?_, fun q h nt => ?_, fun q x h h1 h2 => ?_, fun q h => ?_, fun P hP => ?_, R.par, R.len, fun j e h => ?_, fun j c' h => ?_, R.sep⟩
  · by_cases hba : b = p
    · rw [hba, upd_same] at z; rw [hba, upd_same]; exact z
    · rw [upd_ne hba] at z; rw [upd_ne hba]; exact R.sub _ _ z
  · rw [upd_ne (ne0 q h)]; exact R.new q h fun xs z => nt xs (by rw [upd_ne (ne0 q h)]; exact z)
  · rw [upd_ne (ne0 q (by rw [h]; simp))]; exact R.frame q x h h1 h2
  · rw [upd_ne (ne0 q h)]; exact R.keep q h
  · obtain ⟨⟨ps, e1, t⟩, n⟩ := R.tabs P hP
    have hne : P ≠ p := fun z => by rw [z, hH] at e1; exact hnt ps (Option.some.inj e1)
    exact ⟨⟨ps, by rw [upd_ne hne]; exact e1, t⟩, by rw [upd_ne hne]; exact n⟩
  · obtain ⟨v, e1, r⟩ := R.val j e h
    exact ⟨v, e1, dp_mono sB r⟩
  · obtain ⟨x, u, e1, n1, h1, h2, h3⟩ := R.own j c' h
    have hne : x ≠ p := fun z => hs j c' h (by rw [e1, z])
    exact ⟨x, u, e1, by rw [upd_ne hne]; exact n1, by rw [upd_ne hne]; exact h1, cellR_mono sB h2, h3⟩
end
/-! ### {k: v} as a value, k a tuple of ints -/
def xDisp1 (fk fv : DX) : DX := fun S => (fk S).bind fun p => (fv p.2).bind fun q => (keyT p.1).map fun _ => (.dict [(p.1, q.1)], q.2)
section
variable {X : Cx} {E : En} {a b c e kx : Expr} {fa fb fe fk fv : DX} {pos : Pos}
theorem d_disp1 (hu : X.A.units + 65 < cLine) (hk : ∀ E' : En, E'.K = E.K → E'.T = E.T → E'.pa = E.pa → PE X kx (up E' fk)) (hv : ∀ E' : En, E'.K = E.K → E'.T = E.T → E'.pa = E.pa → PE X e (up E' fv)) :
    PE X (.Dict [some kx] [e] pos) (up E (xDisp1 fk fv)) :=
  ⟨fun pins s σ H Q I ⟨B, S, d, S', R, e0, kk⟩ => by
    unfold xDisp1 at e0
    simp only [Option.bind_eq_some_iff, Option.map_eq_some_iff] at e0
    obtain ⟨⟨d1, S1⟩, e1, ⟨d2, S2⟩, e2, k0, ek, e3⟩ := e0
    cases e3
    have hk' : ∀ q : {q : Addr // H q = none}, PE X kx (up (pend E q.1 (.dT [])) fk) := fun q => hk _ rfl rfl rfl
    have hv' : ∀ q : {q : Addr // H q = none}, PE X e (up (pend E q.1 (.dT [])) fv) := fun q => hv _ rfl rfl rfl
    have mk : PE X kx (fun σ' H' Q => ∃ p, H p = none ∧ up (pend E p (.dT [])) fk σ' H' Q) :=
      ⟨fun pins s σ' H' Q I ⟨p, hn, q⟩ => (hk' ⟨p, hn⟩).run pins s σ' H' Q I q⟩
    have mv : PE X e (fun σ' H' Q => ∃ p, H p = none ∧ up (pend E p (.dT [])) fv σ' H' Q) :=
      ⟨fun pins s σ' H' Q I ⟨p, hn, q⟩ => (hv' ⟨p, hn⟩).run pins s σ' H' Q I q⟩
    refine thn ((pe_dispT1 (by omega) mk mv).run pins s σ H (fun v H1 => ∃ p y B2, v = .ref p ∧ H1 p = some (.dT [(k0.map Sum.inl, y)]) ∧ Same B B2 ∧ Rep E B2 H1 σ S2 ∧ Dp E.K B2 y d2 ∧ B2 p = none ∧ E.H0 p = none ∧ ∀ (j : Nat) c, S2[j]? = some (.own c) → σ[j]? ≠ some (some (V.ref p))) I ?_) fun u s1 ⟨v, H1, I1, rv, p, y, B2, ev, hp, sB, R2, dy, hb0, h0, sep⟩ => ?_
    · intro p hpn
      refine ⟨p, hpn, B, S, d1, S1, pend_in R hpn ntDit, e1, fun x1 B1 H1 s1 R1 dx => ⟨p, hpn, B1, S1, d2, S2, R1, e2, fun y B2 H2 s2 R2 dy => ?_⟩⟩
      obtain ⟨b, rfl, hb⟩ := key_at (dp_mono s2 dx) ek
      obtain ⟨h', hb0, R3, sep⟩ := pend_out R hpn ntDit R2
      refine ⟨h', k0.map Sum.inl, b, y, rfl, R3.sub _ _ hb, ?_⟩
      have h00 := h0_of R hpn
      refine ⟨p, y, B2, rfl, upd_same, s1.trans s2, ?_, dy, hb0, h00, sep⟩
      -- the dict has changed behind B2
      have ne0 : ∀ q, E.H0 q ≠ none → q ≠ p := fun q h z => h (by rw [z]; exact h00)
      refine ⟨R3.base, fun b x z => ?_, fun q h nt => ?_, fun q x h h1 h2 => ?_, fun q h => ?_, fun P hP => ?_, R3.par, R3.len, R3.val, fun j c' h => ?_, R3.sep⟩
      · have hne : b ≠ p := fun z2 => by rw [z2, hb0] at z; cases z
        rw [upd_ne hne]; exact R3.sub _ _ z
      · exact R3.new q h fun xs z => nt xs (by rw [upd_ne (ne0 q h)]; exact z)
      · rw [upd_ne (ne0 q (by rw [h]; simp))]; exact R3.frame q x h h1 h2
      · rw [upd_ne (ne0 q h)]; exact R3.keep q h
      · obtain ⟨⟨ps, e1, t⟩, n⟩ := R3.tabs P hP
        have hne : P ≠ p := fun z => by rw [z, h'] at e1; cases e1
        exact ⟨⟨ps, by rw [upd_ne hne]; exact e1, t⟩, n⟩
      · obtain ⟨x, u, q1, n1, h1, h2, h3⟩ := R3.own j c' h
        have hne : x ≠ p := fun z => sep j c' h (by rw [q1, z])
        exact ⟨x, u, q1, n1, by rw [upd_ne hne]; exact h1, h2, h3⟩
    · subst ev
      obtain ⟨od, I2⟩ := I1.lock hp trivial
      obtain ⟨_, _, _, es, ep, h1, _, h2⟩ := I2.frzT upd_same
      have R1 := R2.fixTups
      have nb : tupsOf B2 H1 p = none := by
        rw [tupsOf_nt (fun xs z => by rw [hp] at z; cases z)]; exact hb0
      have hD : Dp E.K (upd (tupsOf B2 H1) p (.frz od (.dT [(k0.map Sum.inl, y)]))) (.ref p) (.dict [(d1, d2)]) := .dit upd_same ⟨es, ep, h1, fun j kk vv hj => by
        obtain ⟨en, q, g1, g2, g3⟩ := h2 j kk vv hj
        have hne : q ≠ p := fun z => by rw [z, upd_same] at g3; cases g3
        rw [upd_ne hne] at g3
        exact ⟨en, q, g1, g2, by rw [upd_ne hne]; exact tupsOf_tup R2 g3⟩⟩ (.cons ek rfl (dp_mono (tupsOf_same.trans (same_upd nb)) dy) .nil)
      obtain ⟨s2, R3⟩ := R1.swap hp ntDit nb h0 sep ntFrz (o' := .frz od (.dT [(k0.map Sum.inl, y)]))
      exact ⟨_, _, I2, rv, kk _ _ _ (sB.trans (tupsOf_same.trans s2)) R3 hD⟩⟩
/-! ### l.count(x), l.index(x) -/
def rCountS (K : PySem.W.Frag) : V → List V → Hp → VK → Prop := fun x xs H Q => ∃ (a : Addr) (y : V) (d : PyData) (ds : List PyData), x = V.ref a ∧ xs = [y] ∧ Dp K H (V.ref a) (.list ds) ∧ Dp K H y d ∧
  SeqAt.shaped (.list ds) = true ∧ SeqAt.shaped d = true ∧ Q (.int ((ds.countP fun z => PyData.eqv z d : Nat) : Int)) H
theorem mt_countS (hu : X.A.units + 65 < cLine) : MtR X "list.count" (rCountS X.K) := by
  intro pins s σ H x xs v us Q I rx rxs h
  obtain ⟨a, y, d, ds, rfl, rfl, hl, hy, sl, sd, q⟩ := h
  cases rx
  cases rxs with
  | cons ry rt =>
    rename_i uy ut
    cases rt
    obtain ⟨bs, r1⟩ := Dp.reads I hy ry
    have hxs : PyData.canLayAll0 ds = true := SeqAt.canLay_of_shaped sl
    have hroom : X.A.units + 1 + min (PyData.depthAll ds) d.depth < cLine := room_in_shaped sd hu
    cases hl with
    | lst hs ha =>
      obtain ⟨its, rv, ⟨⟨cls, dd, data, sls⟩, n, ho, hc, hdn, hdt⟩, hlen⟩ := I.list hs
      simp only at hc hdt
      subst hc hdt
      obtain ⟨as, h4⟩ := DpAll.reads I ha rv
      have hmap : its.map (SeqAt.readOf s.heap) = ds := SeqAt.readsAll_map ds its as hxs h4
      refine call_meets PySem.F.slot_list_count ⟨_, ho, rfl⟩ PySem.F.entry_list_count (PySem.F.args_list_count_2 _ _)
        (PySem.SeqAt.list_countAt a its.toArray n dd sls uy (fun u => PyData.eqv (SeqAt.readOf s.heap u) d)) ⟨ho, SeqAt.items_eqAt (vs := its.toArray) (show ReadsAll s.heap its.toArray.toList ds as from h4) r1 hxs (SeqAt.canLay_of_shaped sd) hroom, ?_⟩
      refine ⟨.int _, H, I.tok _, ⟨s.toks, ?_⟩, q⟩
      rw [← hmap, List.countP_map]
      rfl
def rIndexS (K : PySem.W.Frag) : V → List V → Hp → VK → Prop := fun x xs H Q => ∃ (a : Addr) (y : V) (d : PyData) (ds : List PyData) (j : Nat) (z : PyData), x = V.ref a ∧ xs = [y] ∧ Dp K H (V.ref a) (.list ds) ∧ Dp K H y d ∧
  SeqAt.shaped (.list ds) = true ∧ SeqAt.shaped d = true ∧ ds[j]? = some z ∧ PyData.eqv z d = true ∧ (∀ (m : Nat) (z' : PyData), m < j → ds[m]? = some z' → PyData.eqv z' d = false) ∧ Q (.int (j : Nat)) H
theorem mt_indexS (hu : X.A.units + 65 < cLine) : MtR X "list.index" (rIndexS X.K) := by
  intro pins s σ H x xs v us Q I rx rxs h
  obtain ⟨a, y, d, ds, j, z, rfl, rfl, hl, hy, sl, sd, hz, hzj, hno, q⟩ := h
  cases rx
  cases rxs with
  | cons ry rt =>
    rename_i uy ut
    cases rt
    obtain ⟨bs, r1⟩ := Dp.reads I hy ry
    have hxs : PyData.canLayAll0 ds = true := SeqAt.canLay_of_shaped sl
    have hroom : X.A.units + 1 + min (PyData.depthAll ds) d.depth < cLine := room_in_shaped sd hu
    cases hl with
    | lst hs ha =>
      obtain ⟨its, rv, ⟨⟨cls, dd, data, sls⟩, n, ho, hc, hdn, hdt⟩, hlen⟩ := I.list hs
      simp only at hc hdt
      subst hc hdt
      obtain ⟨as, h4⟩ := DpAll.reads I ha rv
      have hn : its.length = ds.length := SeqAt.ReadsAll.length ds its as h4
      have hmap : its.map (SeqAt.readOf s.heap) = ds := SeqAt.readsAll_map ds its as hxs h4
      have hvl := rv.length
      have hsl := sizeLine_eq
      obtain ⟨hjd, _⟩ := List.getElem?_eq_some_iff.mp hz
      have hjl : j < its.length := by omega
      have hj : j < its.toArray.size := by simpa using hjl
      have at_ : ∀ (m : Nat) (hm : m < its.toArray.size) (z' : PyData), ds[m]? = some z' → SeqAt.readOf s.heap its.toArray[m] = z' := by
        intro m hm z' hz'
        have hml : m < its.length := by simpa using hm
        rw [← hmap, List.getElem?_map, List.getElem?_eq_getElem hml] at hz'
        have e1 : SeqAt.readOf s.heap its[m] = z' := Option.some.inj (show some (SeqAt.readOf s.heap its[m]) = some z' from hz')
        simpa using e1
      refine call_meets PySem.F.slot_list_index ⟨_, ho, rfl⟩ PySem.F.entry_list_index (PySem.F.args_list_index_2 _ _)
        (SeqAt.list_indexAt a its.toArray n dd sls uy (fun u => PyData.eqv (SeqAt.readOf s.heap u) d) j hj (by omega) ?_ ?_) ⟨ho, SeqAt.items_eqAt (vs := its.toArray) (show ReadsAll s.heap its.toArray.toList ds as from h4) r1 hxs (SeqAt.canLay_of_shaped sd) hroom, ?_⟩
      · show PyData.eqv (SeqAt.readOf s.heap its.toArray[j]) d = true
        rw [at_ j hj z hz]
        exact hzj
      · intro m hm hmj
        have hmd : m < ds.length := by omega
        have hz' : ds[m]? = some ds[m] := List.getElem?_eq_getElem hmd
        show PyData.eqv (SeqAt.readOf s.heap its.toArray[m]) d = false
        rw [at_ m hm _ hz']
        exact hno m _ hmj hz'
      · exact ⟨.int (j : Nat), H, I.tok _, ⟨_, rfl⟩, q⟩
def xCnt (fa fb : DX) : DX := fun S => (fa S).bind fun p => (fb p.2).bind fun q => match p.1 with
  | .list ds => if SeqAt.shaped (.list ds) = true ∧ SeqAt.shaped q.1 = true then some (.int ((ds.countP fun z => PyData.eqv z q.1 : Nat) : Int), q.2) else none
  | _ => none
theorem d_cnt {apos cpos : Pos} (hK : X.K = E.K) (room : X.A.units + 65 < cLine) (ha : PE X a (up E fa)) (hb : PE X b (up E fb)) (hbase : attributeBase a "count" X.env (eval a X.env) = eval a X.env := by rfl)
    (hfew : ((backTo cpos (starEach [b] X.env)).all (fun x => !x.1) && (backToKw cpos (keywordEach [] X.env)).all (fun x => x.1.isSome)
      && decide ([b].length + ([] : List Keyword).length + (if ([] : List Keyword).isEmpty then 0 else 1) < 30)) = true := by rfl)
    (hline : (apos.endLine == cpos.line) = true := by rfl) (hs : starEach [b] X.env = (false, eval b X.env) :: starEach [] X.env := by rfl) (hplain : (backTo cpos (starEach [] X.env)).any (·.1) = false := by rfl) : PE X (.Call (.Attribute a "count" apos) [b] [] cpos) (up E (xCnt fa fb)) :=
  PE.imp (pe_bm PySem.F.plainAttrs_list PySem.F.slot_list_count PySem.F.type_list_count (mt_countS room) ha (pa_cons hb pa_nil hs) hbase hfew hline hs hplain) fun σ H Q ⟨B, S, d, S', R, e, k⟩ => by
    unfold xCnt at e
    simp only [Option.bind_eq_some_iff] at e
    obtain ⟨⟨d1, S1⟩, e1, ⟨d2, S2⟩, e2, e3⟩ := e
    cases d1 <;> (try (simp at e3; done))
    rename_i ds
    simp only at e3
    split at e3
    · rename_i hh
      cases e3
      refine ⟨B, S, _, S1, R, e1, fun x B1 H1 s1 R1 dx => ?_⟩
      cases dx with
      | @lst p vs _ hs hr =>
        refine ⟨.inl ⟨rfl, vs, by rw [hK]; exact R1.sub.seq hs⟩, B1, S1, d2, _, R1, e2, fun y B2 H2 s2 R2 dy => ?_⟩
        refine ⟨p, y, d2, ds, rfl, rfl, by rw [hK]; exact dp_mono (s2.trans R2.sub) (.lst hs hr), by rw [hK]; exact dp_mono R2.sub dy, hh.1, hh.2, k _ B2 H2 (s1.trans s2) R2 (.int _)⟩
    · cases e3
def xIdx (fa fb : DX) : DX := fun S => (fa S).bind fun p => (fb p.2).bind fun q => match p.1 with
  | .list ds => if SeqAt.shaped (.list ds) = true ∧ SeqAt.shaped q.1 = true then (ds.findIdx? fun z => PyData.eqv z q.1).map fun j => (.int (j : Nat), q.2) else none
  | _ => none
theorem d_idx {apos cpos : Pos} (hK : X.K = E.K) (room : X.A.units + 65 < cLine) (ha : PE X a (up E fa)) (hb : PE X b (up E fb)) (hbase : attributeBase a "index" X.env (eval a X.env) = eval a X.env := by rfl)
    (hfew : ((backTo cpos (starEach [b] X.env)).all (fun x => !x.1) && (backToKw cpos (keywordEach [] X.env)).all (fun x => x.1.isSome)
      && decide ([b].length + ([] : List Keyword).length + (if ([] : List Keyword).isEmpty then 0 else 1) < 30)) = true := by rfl)
    (hline : (apos.endLine == cpos.line) = true := by rfl) (hs : starEach [b] X.env = (false, eval b X.env) :: starEach [] X.env := by rfl) (hplain : (backTo cpos (starEach [] X.env)).any (·.1) = false := by rfl) : PE X (.Call (.Attribute a "index" apos) [b] [] cpos) (up E (xIdx fa fb)) :=
  PE.imp (pe_bm PySem.F.plainAttrs_list PySem.F.slot_list_index PySem.F.type_list_index (mt_indexS room) ha (pa_cons hb pa_nil hs) hbase hfew hline hs hplain) fun σ H Q ⟨B, S, d, S', R, e, k⟩ => by
    unfold xIdx at e
    simp only [Option.bind_eq_some_iff] at e
    obtain ⟨⟨d1, S1⟩, e1, ⟨d2, S2⟩, e2, e3⟩ := e
    cases d1 <;> (try (simp at e3; done))
    rename_i ds
    simp only at e3
    split at e3
    · rename_i hh
      simp only [Option.map_eq_some_iff] at e3
      obtain ⟨j, e4, e5⟩ := e3
      cases e5
      refine ⟨B, S, _, S1, R, e1, fun x B1 H1 s1 R1 dx => ?_⟩
      cases dx with
      | @lst p vs _ hs hr =>
        refine ⟨.inl ⟨rfl, vs, by rw [hK]; exact R1.sub.seq hs⟩, B1, S1, d2, _, R1, e2, fun y B2 H2 s2 R2 dy => ?_⟩
        obtain ⟨hj, h1, h2⟩ := List.findIdx?_eq_some_iff_getElem.mp e4
        refine ⟨p, y, d2, ds, j, ds[j], rfl, rfl, ?_, ?_, hh.1, hh.2, List.getElem?_eq_getElem hj, h1, fun m z' hm hz => ?_, k _ B2 H2 (s1.trans s2) R2 (.int _)⟩
        · rw [hK]; exact dp_mono (s2.trans R2.sub) (.lst hs hr)
        · rw [hK]; exact dp_mono R2.sub dy
        · have := h2 m hm
          obtain ⟨hm', e6⟩ := List.getElem?_eq_some_iff.mp hz
          rw [← e6]
          simpa using this
    · cases e3
end
end BC
set_option Elab.async false
set_option linter.all false
set_option maxRecDepth 100000
set_option maxHeartbeats 2000000
namespace BC
open PySem PySem.Spec PyProof.Rows L2 GxR
/-! ### enumerate, zip over lists too -/
/-- the list at a, each item in a new pair behind its number, counted from k0 -/
def IteL (K : PySem.W.Frag) (a : Addr) (k0 : Int) (n : Nat) : It :=
  ⟨fun i H => ∃ (xs : List V) (x : V), SqL K H a xs ∧ xs.length = n ∧ xs[i]? = some x, fun i H v H' => ∃ T x, v = .ref T ∧ H T = none ∧ H' = upd H T (.tup [.int (k0 + (i : Nat)), x]) ∧ ∀ xs, SqL K H a xs → xs[i]? = some x, fun i H => ∃ xs : List V, SqL K H a xs ∧ xs.length = n ∧ n ≤ i⟩
theorem turn_enumL {P : Program} {w : World} {K : PySem.W.Frag} {elts : List Expr} {kk : Nat} {tpos : Pos} (k0 : Int) (n : Nat) (a e it : Addr) (hai : a ≠ it) (hei : e ≠ it) (hea : e ≠ a) :
    Turn P w K (.Tuple elts kk tpos) (IteL K a k0 n) [e, it] e (fun i h => (∃ old, IsEnum h e it (k0 + (i : Int)) old) ∧ h.IsListIter it a i ∧ i ≤ n) where
  mem := List.mem_cons_self
  obj := fun i h ⟨⟨_, se⟩, ⟨io, si, _, sd⟩, _⟩ b hb => (List.mem_cons.mp hb).elim (fun z => by subst z; exact ⟨_, se, fun _ c => nomatch c⟩) fun z => ⟨io, (List.mem_singleton.mp z) ▸ si, fun _ c => by rw [sd] at c; exact nomatch c⟩
  keep := fun i h h' ⟨⟨old, se⟩, si, le⟩ kp => ⟨⟨old, kp e List.mem_cons_self _ se⟩, si.at fun o q => kp it (List.mem_cons_of_mem _ List.mem_cons_self) o q, le⟩
  item := by
    intro X eP ew eK calm i pins s σ H E I own st here
    subst eP ew eK
    obtain ⟨⟨old, se⟩, si, le⟩ := st
    obtain ⟨xs, x, seq, len, nth⟩ := here
    obtain ⟨us, rel, tup, _⟩ := I.list seq
    obtain ⟨u, nthu, ru⟩ := rel.get nth
    have below : ∀ b ∈ [e, it], b < s.heap.objs.size := fun b hb => (List.mem_cons.mp hb).elim (fun z => z ▸ Heap.lt_size se) fun z => by
      obtain ⟨_, q, _⟩ := si
      exact (List.mem_singleton.mp z) ▸ Heap.lt_size q
    have W := WalksT.enumFrom (prog := X.prog) (w := X.w) (A := X.A) k0 (Draws.list (A := X.A.in1) (I.ok.hd calm) it a hai us.toArray) e hei (by simp [hei, hea]) List.mem_cons_self
    refine W.item i s _ _ (by have := (List.getElem?_eq_some_iff.mp nthu).1; simpa using this) ⟨⟨old, se⟩, si, tup.isList⟩ fun T vals g tk pair up isT mid kp => ?_
    obtain ⟨t, y, nthy, rfl⟩ := pair
    obtain rfl : u = y := Option.some.inj (nthu.symm.trans (by simpa using nthy))
    have off : T ∉ [e, it] := fun z => Nat.lt_irrefl _ (Nat.lt_of_lt_of_le (below T z) up)
    refine ⟨_, rfl, W.go elts kk tpos i T { s with heap := g, toks := tk } _ _ mid fun g2 st2 kp2 => ?_⟩
    have obj : ObjOk X.prog X.w (upd H T (.tup [.int (k0 + (i : Nat)), x])) g2 T (.tup [.int (k0 + (i : Nat)), x]) :=
      ⟨(by decide : 2 ≤ sizeLine), [.int (k0 + (i : Int)) t, u], .cons ⟨t, rfl⟩ (.cons ru .nil), isT.at fun o q => kp2 T o off q⟩
    have I2 := I.turnedNew (t' := tk) (ch := [e, it]) (fun b o nb q => kp2 b o nb (kp b o nb q)) own up obj
    have lt : i < n := len ▸ (List.getElem?_eq_some_iff.mp nth).1
    exact ⟨.ref T, _, I2, rfl, ⟨T, x, rfl, I.hok.fresh up, rfl, fun ys q => I.list_inj q seq ▸ nth⟩, ⟨st2.1, st2.2.1, lt⟩, fun b hb => by rw [upd_ne (Nat.ne_of_lt (Nat.lt_of_lt_of_le (below b hb) up))]; exact (own b hb).1⟩
  done := by
    intro X eP ew eK calm i pins s σ H E I own st over
    subst eP ew eK
    obtain ⟨⟨old, se⟩, si, le⟩ := st
    obtain ⟨xs, seq, len, ge⟩ := over
    obtain ⟨us, rel, tup, _⟩ := I.list seq
    have size : us.toArray.size = i := by have := rel.length; simp; omega
    have W := WalksT.enumFrom (prog := X.prog) (w := X.w) (A := X.A) k0 (Draws.list (A := X.A.in1) (I.ok.hd calm) it a hai us.toArray) e hei (by simp [hei, hea]) List.mem_cons_self
    exact W.done s _ _ (by rw [size]; exact ⟨⟨old, se⟩, si, tup.isList⟩) fun g tk kp => ⟨rfl, I.turnedL (t' := tk) (ch := [e, it]) kp own⟩
  self := fun A i s Q E st q => wpAny_pyIter_enum st.1.choose_spec q
section
variable {X : Cx} {E : En} {e e2 : Expr} {fe : DX} {pos : Pos}
theorem itel_D {K : PySem.W.Frag} {B : Hp} {a : Addr} {vs : List V} {ds : List D} (k0 : Int) (h : SqL K B a vs) (r : DpAll K B vs ds) : ItD K B (IteL K a k0 ds.length) (enumD k0 ds) := by
  refine ⟨fun i H q hi => ?_, fun i H x H' d q ed y => ?_, fun i H q hi => ⟨vs, q.seq h, dpAll_len r, by rw [enumD_len] at hi; exact hi⟩⟩
  · rw [enumD_len] at hi
    obtain ⟨v, g1, g2⟩ := dpAll_get r (List.getElem?_eq_getElem hi)
    exact ⟨vs, v, q.seq h, dpAll_len r, g1⟩
  · obtain ⟨x1, e1, e2⟩ := enumD_get ed
    obtain ⟨T, v, rfl, hT, hH, y2⟩ := y
    obtain ⟨v2, g1, g2⟩ := dpAll_get r e1
    have := y2 vs (q.seq h)
    rw [g1] at this
    cases this
    exact .inr ⟨T, _, _, rfl, hT, hH, e2, .cons (.int _) (.cons g2 .nil)⟩
def iEn1L (fr : DA) : DA := fun S => (fr S).bind fun p => match p.1 with
  | [.list ds] => some (enumD 0 ds, p.2)
  | _ => none
theorem i_en1L {p tpos : Pos} {elts : List Expr} {kk : Nat} {fr : DA} (hK : X.K = E.K) (hg : Gl X "enumerate") (hm : X.mg "enumerate" = none) (ha : PA X [e] (upA E fr)) (hs : starEach [e] X.env = [(false, eval e X.env)] := by rfl) :
    PI X (.Tuple elts kk tpos) (.Call (.Name "enumerate" p) [e] [] pos) (upI E (iEn1L fr)) := by
  refine ⟨fun pins s σ H R I ⟨B, S, d, S', R0, e0, k⟩ => ?_⟩
  unfold iEn1L at e0
  simp only [Option.bind_eq_some_iff] at e0
  obtain ⟨⟨ds0, S1⟩, e1, e2⟩ := e0
  split at e2
  case h_2 => cases e2
  rename_i ds hds
  simp only at hds
  subst hds
  cases e2
  refine Call_ (ld_blt I hg hm boot_enumerate (PyProof.Rows.callWith_type1 (thn (ha.run pos pins s σ H _ I ⟨B, S, _, S1, R0, e1, fun vs B1 H1 s1 R1 dv => (⟨B1, s1, R1, dv⟩ : ∃ B1, Same B B1 ∧ Rep E B1 H1 σ S1 ∧ DpAll E.K B1 vs [.list ds])⟩) fun us st ⟨vs, H1, I1, r1, B1, s1, R1, dv⟩ => ?_) hs rfl))
  obtain ⟨v, rfl, dx⟩ := dpAll1 dv
  cases dx with
  | @lst a va _ ha2 ra =>
    cases r1 with
    | cons ru rr =>
      cases rr
      cases ru
      have hq : SqL X.K H1 a va := by rw [hK]; exact R1.sub.seq ha2
      obtain ⟨its, rv, p', hz⟩ := I1.list hq
      have hal := let ⟨_, z, _⟩ := p'.isList.typeIs; Heap.lt_size z
      refine enum_begins1 (begins_list a its.toArray) p'.isList fun h' he hit hsz hk => wpAny_pyIter_enum he ?_
      have I2 : Inv X pins σ H1 { st with heap := h' } := I1.kept (t' := st.toks) hk
      refine ⟨st.heap.objs.size + 1, [st.heap.objs.size + 1, st.heap.objs.size], _, _, H1, rfl, I2, turn_enumL 0 ds.length a (st.heap.objs.size + 1) st.heap.objs.size (Nat.ne_of_lt hal) (Nat.succ_ne_self _) (Nat.ne_of_gt (Nat.lt_succ_of_lt hal)), ⟨⟨.none, he⟩, ⟨_, hit, rfl, rfl⟩, Nat.zero_le _⟩, fun b hb => ?_, k _ B1 H1 s1 R1 (by rw [hK]; exact itel_D 0 ha2 ra)⟩
      have e' : b = st.heap.objs.size + 1 ∨ b = st.heap.objs.size := by simpa using hb
      have hle : st.heap.objs.size ≤ b := by
        rcases e' with z | z
        · rw [z]; exact Nat.le_add_right _ _
        · rw [z]; exact Nat.le_refl _
      exact I1.fpOk hle (I1.hok.fresh hle)
def iEn2L (fr : DA) : DA := fun S => (fr S).bind fun p => match p.1 with
  | [.list ds, .int k0] => if -(2 ^ 62) ≤ k0 ∧ k0 < 2 ^ 62 then some (enumD k0 ds, p.2) else none
  | _ => none
theorem i_en2L {p tpos : Pos} {elts : List Expr} {kk : Nat} {fr : DA} (hK : X.K = E.K) (hg : Gl X "enumerate") (hm : X.mg "enumerate" = none) (ha : PA X [e, e2] (upA E fr))
    (hs : starEach [e, e2] X.env = (false, eval e X.env) :: starEach [e2] X.env := by rfl) (hpl : (backTo pos (starEach [e2] X.env)).any (·.1) = false := by rfl) :
    PI X (.Tuple elts kk tpos) (.Call (.Name "enumerate" p) [e, e2] [] pos) (upI E (iEn2L fr)) := by
  refine ⟨fun pins s σ H R I ⟨B, S, d, S', R0, e0, k⟩ => ?_⟩
  unfold iEn2L at e0
  simp only [Option.bind_eq_some_iff] at e0
  obtain ⟨⟨ds0, S1⟩, e1, ev⟩ := e0
  split at ev
  case h_2 => cases ev
  rename_i ds k0 hds
  simp only at hds
  subst hds
  split at ev
  case isFalse => cases ev
  rename_i hk0
  cases ev
  refine Call_ (ld_blt I hg hm boot_enumerate (PyProof.Rows.callWith_type1 (thn (ha.run pos pins s σ H _ I ⟨B, S, _, S1, R0, e1, fun vs B1 H1 s1 R1 dv => (⟨B1, s1, R1, dv⟩ : ∃ B1, Same B B1 ∧ Rep E B1 H1 σ S1 ∧ DpAll E.K B1 vs [.list ds, .int k0])⟩) fun us st ⟨vs, H1, I1, r1, B1, s1, R1, dv⟩ => ?_) hs hpl))
  obtain ⟨v, w, rfl, dx, dy⟩ := dpAll2 dv
  cases dy
  cases dx with
  | @lst a va _ ha2 ra =>
    cases r1 with
    | cons ru rr =>
      cases rr with
      | cons ru2 rr2 =>
        cases rr2
        cases ru
        obtain ⟨tk0, rfl⟩ := ru2
        obtain ⟨its, rv, tup, _⟩ := I1.list (xs := va) (a := a) (by rw [hK]; exact R1.sub.seq ha2)
        have hal := let ⟨_, z, _⟩ := tup.isList.typeIs; Heap.lt_size z
        refine enum_begins (begins_list a its.toArray) tup.isList (Int.le_trans (by decide) hk0.1) (Int.lt_trans hk0.2 (by decide)) fun h' ie hit _ hk => wpAny_pyIter_enum ie ?_
        refine ⟨st.heap.objs.size + 1, [st.heap.objs.size + 1, st.heap.objs.size], _, _, H1, rfl, I1.kept (t' := st.toks) hk, turn_enumL k0 ds.length a (st.heap.objs.size + 1) st.heap.objs.size (Nat.ne_of_lt hal) (Nat.succ_ne_self _) (Nat.ne_of_gt (Nat.lt_succ_of_lt hal)), ⟨⟨.none, by simpa using ie⟩, ⟨_, hit, rfl, rfl⟩, Nat.zero_le _⟩, fun b hb => ?_, k _ B1 H1 s1 R1 (by rw [hK]; exact itel_D k0 ha2 ra)⟩
        have up : st.heap.objs.size ≤ b := (List.mem_cons.mp hb).elim (fun z => z ▸ Nat.le_add_right _ _) fun z => (List.mem_singleton.mp z) ▸ Nat.le_refl _
        exact I1.fpOk up (I1.hok.fresh up)
theorem itzl_D {K : PySem.W.Frag} {B : Hp} {a b : Addr} {vs ws : List V} {ds es : List D} (h : SqL K B a vs) (h2 : SqL K B b ws) (r : DpAll K B vs ds) (r2 : DpAll K B ws es) : ItD K B (Itz K a b) (zipD ds es) := by
  refine ⟨fun i H q hi => ?_, fun i H x H' d q ed y => ?_, fun i H q hi => ⟨vs, ws, q.seq h, q.seq h2, ?_⟩⟩
  · rw [zipD_len] at hi
    obtain ⟨v, g1, _⟩ := dpAll_get r (List.getElem?_eq_getElem (show i < ds.length by omega))
    obtain ⟨w, g2, _⟩ := dpAll_get r2 (List.getElem?_eq_getElem (show i < es.length by omega))
    exact ⟨vs, ws, v, w, q.seq h, q.seq h2, g1, g2⟩
  · obtain ⟨x1, y1, e1, e2, e3⟩ := zipD_get ed
    obtain ⟨T, v, w, rfl, hT, hH, yv, yw⟩ := y
    obtain ⟨v2, g1, d1⟩ := dpAll_get r e1
    obtain ⟨w2, g2, d2⟩ := dpAll_get r2 e2
    have z1 := yv vs (q.seq h)
    have z2 := yw ws (q.seq h2)
    rw [g1] at z1
    rw [g2] at z2
    cases z1
    cases z2
    exact .inr ⟨T, _, _, rfl, hT, hH, e3, .cons d1 (.cons d2 .nil)⟩
  · rw [zipD_len] at hi
    rw [dpAll_len r, dpAll_len r2]
    omega
def iZipL (fr : DA) : DA := fun S => (fr S).bind fun p => match p.1 with
  | [.list ds, .list es] => some (zipD ds es, p.2)
  | _ => none
theorem i_zipL {p tpos : Pos} {elts : List Expr} {kk : Nat} {fr : DA} (hK : X.K = E.K) (hg : Gl X "zip") (hm : X.mg "zip" = none) (ha : PA X [e, e2] (upA E fr))
    (hs : starEach [e, e2] X.env = (false, eval e X.env) :: starEach [e2] X.env := by rfl) (hpl : (backTo pos (starEach [e2] X.env)).any (·.1) = false := by rfl) :
    PI X (.Tuple elts kk tpos) (.Call (.Name "zip" p) [e, e2] [] pos) (upI E (iZipL fr)) := PI.imp (RZ.pi_zipA hg hm ha hs hpl) fun σ H R ⟨B, S, d, S', R0, e0, k⟩ => by
  unfold iZipL at e0
  simp only [Option.bind_eq_some_iff] at e0
  obtain ⟨⟨ds0, S1⟩, e1, ev⟩ := e0
  split at ev
  case h_2 => cases ev
  rename_i ds es hds
  simp only at hds
  subst hds
  cases ev
  refine ⟨B, S, _, S1, R0, e1, fun vs B1 H1 s1 R1 dv => ?_⟩
  obtain ⟨v, w, rfl, dx, dy⟩ := dpAll2 dv
  cases dx with
  | @lst a va _ ha2 ra =>
    cases dy with
    | @lst b vb _ hb2 rb =>
      exact ⟨a, b, va, vb, rfl, .inl ⟨by rw [hK]; exact R1.sub.seq ha2, by rw [hK]; exact R1.sub.seq hb2, k _ B1 H1 s1 R1 (by rw [hK]; exact itzl_D ha2 hb2 ra rb)⟩⟩
/-! either -/
def iEn1A (fr : DA) : DA := fun S => (fr S).bind fun p => match p.1 with
  | [.tuple ds] => some (enumD 0 ds, p.2)
  | [.list ds] => some (enumD 0 ds, p.2)
  | _ => none
def iEn2A (fr : DA) : DA := fun S => (fr S).bind fun p => match p.1 with
  | [.tuple ds, .int k0] => if -(2 ^ 62) ≤ k0 ∧ k0 < 2 ^ 62 then some (enumD k0 ds, p.2) else none
  | [.list ds, .int k0] => if -(2 ^ 62) ≤ k0 ∧ k0 < 2 ^ 62 then some (enumD k0 ds, p.2) else none
  | _ => none
def iZipA' (fr : DA) : DA := fun S => (fr S).bind fun p => match p.1 with
  | [.tuple ds, .tuple es] => some (zipD ds es, p.2)
  | [.list ds, .list es] => some (zipD ds es, p.2)
  | _ => none
theorem upI_or {tg : Expr} {iter : Expr} {f1 f2 f : DA} (h1 : PI X tg iter (upI E f1)) (h2 : PI X tg iter (upI E f2)) (h : ∀ S r, f S = some r → f1 S = some r ∨ f2 S = some r) : PI X tg iter (upI E f) :=
  PI.imp (PI.or h1 h2) fun σ H R ⟨B, S, ds, S', Rp, e, k⟩ => (h S _ e).elim (fun q => .inl ⟨B, S, ds, S', Rp, q, k⟩) fun q => .inr ⟨B, S, ds, S', Rp, q, k⟩
theorem i_en1A {p tpos : Pos} {elts : List Expr} {kk : Nat} {fr : DA} (hK : X.K = E.K) (hg : Gl X "enumerate") (hm : X.mg "enumerate" = none) (ha : PA X [e] (upA E fr)) (hs : starEach [e] X.env = [(false, eval e X.env)] := by rfl) :
    PI X (.Tuple elts kk tpos) (.Call (.Name "enumerate" p) [e] [] pos) (upI E (iEn1A fr)) :=
  upI_or (i_en1 hK hg hm ha hs) (i_en1L hK hg hm ha hs) fun S r h => by
    unfold iEn1A at h
    rw [Option.bind_eq_some_iff] at h
    obtain ⟨q, h1, h2⟩ := h
    unfold iEn1 iEn1L
    simp only [h1, Option.bind_some]
    split at h2
    · rename_i z; left; simp only [z]; exact h2
    · rename_i z; right; simp only [z]; exact h2
    · cases h2
theorem i_en2A {p tpos : Pos} {elts : List Expr} {kk : Nat} {fr : DA} (hK : X.K = E.K) (hg : Gl X "enumerate") (hm : X.mg "enumerate" = none) (ha : PA X [e, e2] (upA E fr))
    (hs : starEach [e, e2] X.env = (false, eval e X.env) :: starEach [e2] X.env := by rfl) (hpl : (backTo pos (starEach [e2] X.env)).any (·.1) = false := by rfl) :
    PI X (.Tuple elts kk tpos) (.Call (.Name "enumerate" p) [e, e2] [] pos) (upI E (iEn2A fr)) :=
  upI_or (i_en2 hK hg hm ha hs hpl) (i_en2L hK hg hm ha hs hpl) fun S r h => by
    unfold iEn2A at h
    rw [Option.bind_eq_some_iff] at h
    obtain ⟨q, h1, h2⟩ := h
    unfold iEn2 iEn2L
    simp only [h1, Option.bind_some]
    split at h2
    · rename_i z; left; simp only [z]; exact h2
    · rename_i z; right; simp only [z]; exact h2
    · cases h2
theorem i_zipA' {p tpos : Pos} {elts : List Expr} {kk : Nat} {fr : DA} (hK : X.K = E.K) (hg : Gl X "zip") (hm : X.mg "zip" = none) (ha : PA X [e, e2] (upA E fr))
    (hs : starEach [e, e2] X.env = (false, eval e X.env) :: starEach [e2] X.env := by rfl) (hpl : (backTo pos (starEach [e2] X.env)).any (·.1) = false := by rfl) :
    PI X (.Tuple elts kk tpos) (.Call (.Name "zip" p) [e, e2] [] pos) (upI E (iZipA' fr)) :=
  upI_or (BC.i_zip hK hg hm ha hs hpl) (i_zipL hK hg hm ha hs hpl) fun S r h => by
    unfold iZipA' at h
    rw [Option.bind_eq_some_iff] at h
    obtain ⟨q, h1, h2⟩ := h
    unfold BC.iZip iZipL
    simp only [h1, Option.bind_some]
    split at h2
    · rename_i z; left; simp only [z]; exact h2
    · rename_i z; right; simp only [z]; exact h2
    · cases h2
end
end BC
set_option Elab.async false
set_option linter.all false
set_option maxRecDepth 100000
set_option maxHeartbeats 4000000
namespace BC
open PySem PySem.Spec PyProof.Rows L2 GxR
/-! ### a tuple so many times, any number -/
theorem tuple_mul0 (l : Addr) (items : Array Value) (n : Nat) (dd : Option Addr) (sl : Array (Option Value)) (x : Int) (u : Tok) (c0 : (decide (x < -(2 ^ 63)) || decide (x ≥ 2 ^ 63)) = false) (c1 : (items.isEmpty || x == 1) = false) (c2 : (decide (x ≤ 0) || items.isEmpty) = true) :
    Meets (Builtin.«tuple.__mul__» ⟨[.ref l, .int x u], []⟩) (fun _ R s => s.heap.get? l = some { cls := .type "tuple", dict := dd, data := .seq items n, slots := sl } ∧
      R (.ok (.ret (Value.ref s.heap.objs.size))) { s with heap := s.heap.push { cls := Value.type "tuple", data := Data.seq #[] }, toks := s.toks }) :=
  .of_wp fun prog w A R s h => by
    obtain ⟨hp, g, d, tk, os⟩ := s
    obtain ⟨hl, h⟩ := h
    have f1 := AutoSeq1.idx_int
    wp_walk using wpAny_loadPart' hl
    repeat (first
      | (refine wpAny_ite_false (decide_eq_false (by rw [c0]; exact Bool.false_ne_true)) ?_; wp_walk using wpAny_loadPart' hl)
      | (refine wpAny_ite_false (decide_eq_false (by rw [c1]; exact Bool.false_ne_true)) ?_; wp_walk using wpAny_loadPart' hl)
      | (refine wpAny_ite_true (decide_eq_true c2) ?_; wp_walk using wpAny_loadPart' hl))
    exact ⟨_, rfl, h⟩
def rRep0 (K : PySem.W.Frag) : R2 := fun x y H Q => ∃ l k xs, x = .ref l ∧ y = .int k ∧ SqT K H l xs ∧ ((xs = [] ∧ -(2 ^ 62) < k ∧ k < 2 ^ 62 ∧ Q (.ref l) H) ∨ (xs ≠ [] ∧ -(2 ^ 62) < k ∧ k ≤ 0 ∧ ∀ p, H p = none → Q (.ref p) (upd H p (.tup []))))
theorem op_rep0 {X : Cx} : OpR X (binaryOp .Mult) (rRep0 X.K) := by
  intro pins s σ H x y v u Q I rx ry h
  obtain ⟨l, k, xs, rfl, rfl, hT, h⟩ := h
  cases rx
  obtain ⟨t, rfl⟩ := ry
  obtain ⟨its, r, ⟨⟨cls, dd, data, sl⟩, ho, hc, n, hd⟩, hs⟩ := I.tuple hT
  simp only at hc hd
  subst hc hd
  have hle : its.length = xs.length := r.length.symm
  rcases h with ⟨hx, k1, k2, q⟩ | ⟨hx, k1, k2, q⟩
  · have hn : its = [] := by
      rw [hx] at hle
      exact List.eq_nil_of_length_eq_zero hle
    subst hn
    have c0 : (decide (k < -(2 ^ 63)) || decide (k ≥ 2 ^ 63)) = false := by
      rw [decide_eq_false (by omega), decide_eq_false (by omega)] <;> rfl
    have c1 : (([] : List Value).toArray.isEmpty || k == 1) = true := rfl
    exact wpAny_binaryOp_repeat_ref (T := "tuple") (U := "int") (by decide) ⟨_, ho, rfl⟩ (fun s' => typeIs_int s' k t) noFill_tuple_mul F.fills_int_mul F.slot_int_rmul repeat_tuple F.slot_int_index.lookup
      (call_meets F.slot_int_rmul (typeIs_int s k t) F.entry_int_rmul (F.args_int_rmul_2 _ _) (int_rmul_tuple k t l _ n dd sl)
        ⟨ho, rfl, ⟨_, ho, rfl⟩, call_meets F.slot_tuple_mul ⟨_, ho, rfl⟩ F.entry_tuple_mul (F.args_tuple_mul_2 _ _) (tuple_mul1 l _ n dd sl k t c0 c1) ⟨ho, ⟨.ref l, H, I, rfl, q⟩⟩⟩)
  · have hn : its ≠ [] := fun e => hx (by
      rw [e] at hle
      exact List.eq_nil_of_length_eq_zero hle.symm)
    have hi : its.toArray.isEmpty = false := by
      cases its with
      | nil => exact absurd rfl hn
      | cons a b => rfl
    have c0 : (decide (k < -(2 ^ 63)) || decide (k ≥ 2 ^ 63)) = false := by
      rw [decide_eq_false (by omega), decide_eq_false (by omega)] <;> rfl
    have c1 : (its.toArray.isEmpty || k == 1) = false := by
      rw [hi, Bool.false_or]
      exact beq_eq_false_iff_ne.mpr (by omega)
    have c2 : (decide (k ≤ 0) || its.toArray.isEmpty) = true := by
      rw [decide_eq_true k2]; rfl
    refine wpAny_binaryOp_repeat_ref (T := "tuple") (U := "int") (by decide) ⟨_, ho, rfl⟩ (fun s' => typeIs_int s' k t) noFill_tuple_mul F.fills_int_mul F.slot_int_rmul repeat_tuple F.slot_int_index.lookup
      (call_meets F.slot_int_rmul (typeIs_int s k t) F.entry_int_rmul (F.args_int_rmul_2 _ _) (int_rmul_tuple k t l its.toArray n dd sl)
        ⟨ho, rfl, ⟨_, ho, rfl⟩, call_meets F.slot_tuple_mul ⟨_, ho, rfl⟩ F.entry_tuple_mul (F.args_tuple_mul_2 _ _) (tuple_mul0 l its.toArray n dd sl k t c0 c1 c2) ⟨ho, ?_⟩⟩)
    refine ⟨.ref s.heap.objs.size, _, I.laid (t' := s.toks) (o := .tup []) (fun b ob q => Heap.get?_push_of_some _ q) (Nat.le_refl _) ?_, rfl, q _ (I.hok.fresh (Nat.le_refl _))⟩
    exact ⟨Nat.zero_le _, [], .nil, IsTup.new _ _⟩
def gMulA : D → D → Option D
  | .tuple xs, .int j => if xs = [] then (if -(2 ^ 62) < j ∧ j < 2 ^ 62 then some (.tuple []) else none) else if j ≤ 0 then (if -(2 ^ 62) < j then some (.tuple []) else none) else gMul1 (.tuple xs) (.int j)
  | d, e => gMul1 d e
section
variable {X : Cx} {E : En}
theorem o_mulA (hK : X.K = E.K) : OpD X E (binaryOp .Mult) gMulA := by
  intro σ S B H x y d e z Q R dx dy hz k
  unfold gMulA at hz
  split at hz
  · rename_i xs j
    split at hz
    · rename_i hx
      subst hx
      split at hz
      · rename_i hj
        cases hz
        cases dx with
        | @tup a1 vs _ h1 r1 =>
          cases dy
          cases r1
          exact ⟨_, op_rep0, a1, j, [], rfl, rfl, by rw [hK]; exact same_seqT R.sub h1, .inl ⟨rfl, hj.1, hj.2, k _ B H (Same.refl B) R (.tup h1 .nil)⟩⟩
      · cases hz
    · rename_i hx
      split at hz
      · rename_i hj
        split at hz
        · rename_i hj2
          cases hz
          cases dx with
          | @tup a1 vs _ h1 r1 =>
            cases dy
            refine ⟨_, op_rep0, a1, j, vs, rfl, rfl, by rw [hK]; exact same_seqT R.sub h1, .inr ⟨fun z => hx (by subst z; cases r1; rfl), hj2, hj, fun p hp => ?_⟩⟩
            obtain ⟨s1, R1, d1⟩ := new_tup R hp (ds := []) .nil
            exact k _ _ _ s1 R1 d1
        · cases hz
      · exact o_mul1 hK _ _ _ _ _ _ _ _ _ _ R dx dy hz k
  · exact o_mul1 hK _ _ _ _ _ _ _ _ _ _ R dx dy hz k
/-- a sum of ints, tuples or lists -/
def gAddA (d e : D) : Option D := match d with
  | .list _ => gAddL d e
  | _ => gAdd d e
theorem o_addA (hK : X.K = E.K) : OpD X E (binaryOp .Add) gAddA := by
  intro σ S B H x y d e z Q R dx dy hz k
  unfold gAddA at hz
  split at hz
  · exact o_addL hK _ _ _ _ _ _ _ _ _ _ R dx dy hz k
  · exact o_add hK _ _ _ _ _ _ _ _ _ _ R dx dy hz k
end
end BC
set_option Elab.async false
set_option linter.all false
set_option maxRecDepth 100000
set_option maxHeartbeats 4000000
namespace BC
open PySem PySem.Spec PyProof.Rows L2 GxR
open PySem.W (minD maxD)
/-! ### min, max of a tuple -/
def rBestT (m : D → List D → D) (K : PySem.W.Frag) : List V → Hp → VK → Prop := fun vs H Q => ∃ (a : Addr) (xs : List V) (d : D) (ds : List D), vs = [V.ref a] ∧ SqT K H a xs ∧ DpAll K H xs (d :: ds) ∧ alikeD (d :: ds) = true ∧ ∀ (i : Nat) x, xs[i]? = some x → (d :: ds)[i]? = some (m d ds) → Q x H
section
variable {X : Cx} {E : En}
theorem cr_minT (hc : X.calm = true) (hu : X.A.units + 64 < cLine) : CallR X (.builtin "min") (rBestT minD X.K) := by
  intro pins s σ H vs us Q I r h
  obtain ⟨a, xs, d, ds, rfl, hs, hd, ha, q⟩ := h
  obtain ⟨its, rv, hl, _⟩ := I.tuple hs
  rw [Vals.ref1 r]
  obtain ⟨as, rd⟩ := DpAll.reads I hd rv
  exact PySem.W.min_tuple_data (I.ok.hd hc) hl (by simpa using rd) (alikeAll_of ha) (by have := depth_of ha; omega) fun i v h' tk bs hv hr hk => best_end I rv hd q (by simpa using hv) hr hk
theorem cr_maxT (hc : X.calm = true) (hu : X.A.units + 64 < cLine) : CallR X (.builtin "max") (rBestT maxD X.K) := by
  intro pins s σ H vs us Q I r h
  obtain ⟨a, xs, d, ds, rfl, hs, hd, ha, q⟩ := h
  obtain ⟨its, rv, hl, _⟩ := I.tuple hs
  rw [Vals.ref1 r]
  obtain ⟨as, rd⟩ := DpAll.reads I hd rv
  exact PySem.W.max_tuple_data (I.ok.hd hc) hl (by simpa using rd) (alikeAll_of ha) (by have := depth_of ha; omega) fun i v h' tk bs hv hr hk => best_end I rv hd q (by simpa using hv) hr hk
def gBestA (m : D → List D → D) : List D → Option D
  | [.list (d :: ds)] => if alikeD (d :: ds) = true then some (m d ds) else none
  | [.tuple (d :: ds)] => if alikeD (d :: ds) = true then some (m d ds) else none
  | _ => none
theorem c_bestA {f : String} {m : D → List D → D} (hK : X.K = E.K) (hf : CallR X (.builtin f) (rBest m X.K)) (hf2 : CallR X (.builtin f) (rBestT m X.K)) : CallD X E (.builtin f) (gBestA m) := by
  intro σ S B H xs ds z Q R dv hz k
  unfold gBestA at hz
  split at hz
  · split at hz
    · rename_i ha
      cases hz
      obtain ⟨v, rfl, dx⟩ := dpAll1 dv
      cases dx with
      | lst h r =>
        refine ⟨_, hf, _, _, _, _, rfl, by rw [hK]; exact R.sub.seq h, by rw [hK]; exact dpAll_mono R.sub r, ha, fun i x hx he => ?_⟩
        obtain ⟨e, h1, h2⟩ := getD_of r hx
        rw [he] at h1
        cases h1
        exact k x B H (Same.refl B) R h2
    · cases hz
  · split at hz
    · rename_i ha
      cases hz
      obtain ⟨v, rfl, dx⟩ := dpAll1 dv
      cases dx with
      | tup h r =>
        refine ⟨_, hf2, _, _, _, _, rfl, by rw [hK]; exact same_seqT R.sub h, by rw [hK]; exact dpAll_mono R.sub r, ha, fun i x hx he => ?_⟩
        obtain ⟨e, h1, h2⟩ := getD_of r hx
        rw [he] at h1
        cases h1
        exact k x B H (Same.refl B) R h2
    · cases hz
  · cases hz
end
end BC
set_option Elab.async false
set_option linter.all false
set_option maxRecDepth 100000
set_option maxHeartbeats 2000000
namespace BC
open PySem PySem.Spec PyProof.Rows L2 GxR
/-! ### dict(a list of pairs) as a value, its keys ints -/
def gDictP : D → Option D
  | .list ds => (pairsOf ds).bind fun kvs => if (mergeI [] kvs).isEmpty then none else some (.dict (dkD (mergeI [] kvs)))
  | _ => none
def xDictP (fa : DX) : DX := fun S => (fa S).bind fun p => (gDictP p.1).map fun z => (z, p.2)
section
variable {X : Cx} {E : En} {a : Expr} {fa : DX} {pos : Pos}
theorem d_dictP {p pos2 : Pos} (hK : X.K = E.K) (hcalm : X.calm = true) (hg : Gl X "dict") (hm : X.mg "dict" = none) (ha : PE X a (up E fa))
    (ns1 : starEach [a] X.env = (false, eval a X.env) :: starEach [] X.env := by rfl) (np1 : (backTo pos2 (starEach ([] : List Expr) X.env)).any (·.1) = false := by rfl) :
    PE X (.Call (.Name "dict" p) [a] [] pos2) (up E (xDictP fa)) :=
  ⟨fun pins s σ H Q I ⟨B, S, d, S', R, e0, kk⟩ => by
    unfold xDictP gDictP at e0
    simp only [Option.bind_eq_some_iff, Option.map_eq_some_iff] at e0
    obtain ⟨⟨d1, S1⟩, e1, d2, e2, e3⟩ := e0
    cases e3
    cases d1 <;> (try (simp at e2; done))
    rename_i ds
    simp only [Option.bind_eq_some_iff] at e2
    obtain ⟨kvs, e3, e4⟩ := e2
    split at e4
    · cases e4
    · rename_i hne
      cases e4
      refine thn ((pe_callTy (call_dictP hcalm) hg hm (by decide +kernel) (pa_cons ha pa_nil ns1) (by decide) (by decide) ns1 np1).run pins s σ H (fun v H1 => ∃ p ws B2, v = .ref p ∧ H1 p = some (.dK ws) ∧ Same B B2 ∧ Rep E B2 H1 σ S1 ∧ Paired (DikR E.K B2) (mergeI [] kvs) ws ∧ B2 p = none ∧ E.H0 p = none ∧ ∀ (j : Nat) c, S1[j]? = some (.own c) → σ[j]? ≠ some (some (V.ref p))) I ?_) fun u s1 ⟨v, H1, I1, rv, p, ws, B2, ev, hp, sB, R2, r, hb0, h0, sep⟩ => ?_
      · refine ⟨B, S, _, _, R, e1, fun v B1 H1 s1 R1 dv => ?_⟩
        cases dv with
        | @lst a0 vs _ h r =>
          obtain ⟨ps, ws, rfl, p1, p2⟩ := dik_pairs r e3
          refine ⟨a0, ps, ws, rfl, by rw [hK]; exact R1.sub.seq h, Paired.mapP p1 (fun p kv z => by rw [hK]; exact same_seqT R1.sub z), fun q hq => ?_⟩
          exact ⟨q, _, B1, rfl, upd_same, s1, R1.fresh hq ntDik, dik_merge p2 .nil, R1.sub.free hq, h0_of R1 hq, own_ne R1 hq⟩
      · subst ev
        obtain ⟨od, I2⟩ := I1.lock hp trivial
        have s2 : Same B2 (upd B2 p (.frz od (.dK ws))) := same_upd hb0
        have hD : Dp E.K (upd B2 p (.frz od (.dK ws))) (.ref p) (.dict (dkD (mergeI [] kvs))) := .dik (fun z => hne (by unfold dkD at z; rw [List.map_eq_nil_iff.mp z]; rfl)) upd_same (dpK_mono s2 (dkD_dp r))
        obtain ⟨s3, R3⟩ := R2.swap hp ntDik hb0 h0 sep ntFrz (o' := .frz od (.dK ws))
        exact ⟨_, _, I2, rv, kk _ _ _ (sB.trans s3) R3 hD⟩⟩
/-! ### len of a name's own list, or of what the name holds -/
def xLenN (i : Nat) : DX := fun S => match xLenO i S with
  | some r => some r
  | none => xCall gLen (yCons (xV i) yNil) S
theorem d_lenN {i : Nat} {p : Pos} (hK : X.K = E.K) (hg : Gl X "len") (hm : X.mg "len" = none) (ha : PE X a (tVar i)) (he : starEach [a] X.env = (false, eval a X.env) :: starEach [] X.env := by rfl) (hpl : (backTo pos (starEach [] X.env)).any (·.1) = false := by rfl) :
    PE X (.Call (.Name "len" p) [a] [] pos) (up E (xLenN i)) :=
  PE.imp (PE.or (d_lenO (E := E) hg hm ha he hpl) (d_callB (c_len hK) hg hm (by decide +kernel) (d_cons (d_var ha) d_nil he) (by decide) (by decide) he hpl)) fun σ H Q ⟨B, S, d, S', R, e, k⟩ => by
    unfold xLenN at e
    split at e
    · rename_i r hr
      exact .inl ⟨B, S, d, S', R, hr.trans e, k⟩
    · exact .inr ⟨B, S, d, S', R, e, k⟩
/-! ### list(d) of a locked dict whose keys are tuples -/
def gListA : List D → Option D
  | [.dict kvs] => if kvs.all (fun kv => (keyT kv.1).isSome) then some (.list (kvs.map (·.1))) else none
  | ds => gListOf ds
theorem keys_ints {K : PySem.W.Frag} {M : Hp} : ∀ ns : List Int, DpAll K M ((ns.map (Sum.inl : Int → Key)).map kV) (ns.map PyData.int)
  | [] => .nil
  | n :: ns => .cons (.int n) (keys_ints ns)
theorem keys_dp {K : PySem.W.Frag} {M : Hp} {H : Hp} (tt : ∀ (b : Addr) (xs : List V), H b = some (.tup xs) → M b = some (.tup xs)) : ∀ {ws : List (List Key × V)} {kvs : List (D × D)} {bs : List Addr}, DpT K M ws kvs → IsKeys H ws bs → DpAll K M (bs.map V.ref) (kvs.map (·.1))
  | _, _, _, .nil, .nil => .nil
  | _, _, _, .cons (ns := ns) hk hw hv hr, .cons h t => by
    subst hw
    rw [List.map_cons, List.map_cons]
    refine .cons ?_ (keys_dp tt hr t)
    have e := keyT_eq hk
    dsimp only at e ⊢
    rw [e]
    exact .tup (tt _ _ h) (keys_ints ns)
theorem c_listA (hK : X.K = E.K) (hcalm : X.calm = true) : CallD X E (.type "list") gListA := by
  intro σ S B H xs ds z Q R dv hz k
  unfold gListA at hz
  split at hz
  · split at hz
    · cases hz
      obtain ⟨v, rfl, dx⟩ := dpAll1 dv
      cases dx with
      | @dit p od ws _ hs hk hr =>
        refine ⟨_, call_list_dT hcalm, p, ws, rfl, .inr ⟨od, R.sub _ _ hs⟩, fun q bs hq ik => ?_⟩
        have R1 := R.fixTups
        have dk := keys_dp (K := E.K) (M := tupsOf B H) (fun b xs h => tupsOf_tup R h) (dpT_mono tupsOf_same hr) ik
        obtain ⟨s1, R2, d1⟩ := new_lst R1 hq dk
        exact k _ _ _ (tupsOf_same.trans s1) R2 d1
      | @dik p od ws _ hne hs hr =>
        exfalso
        rename_i hall
        cases hr with
        | nil => exact hne rfl
        | cons _ _ => simp [keyT] at hall
    · cases hz
  · exact c_listOf hK σ S B H xs ds z Q R dv hz k
/-! ### sorted of a list of one item or none, whatever it is -/
def rSort1 (K : PySem.W.Frag) : List V → Hp → VK → Prop := fun vs H Q => ∃ (a : Addr) (xs : List V), vs = [V.ref a] ∧ SqL K H a xs ∧ xs.length < 2 ∧ ∀ p, H p = none → Q (.ref p) (upd H p (.lst xs))
theorem cr_sort1 : CallR X (.builtin "sorted") (rSort1 X.K) := by
  intro pins s σ H vs us Q I r h
  obtain ⟨a, xs, rfl, hs, hx, q⟩ := h
  obtain ⟨its, rv, hl, hz⟩ := I.list hs
  rw [Vals.ref1 r]
  have lv := rv.length
  refine Srt.sorted_any hl.isList (by omega) (fun h => by omega) fun out hp => ?_
  have e : out = its := by
    match its, lv with
    | [], _ => exact List.perm_nil.mp hp
    | [v], _ => exact List.perm_singleton.mp hp
    | _ :: _ :: _, lv => simp at lv; omega
  subst e
  obtain ⟨ep, he'⟩ := PyProof.Rows.sortedAll_at s.heap out out.toArray
  exact ⟨.ref _, upd H (s.heap.objs.size + 1) (.lst xs), I.laid (t' := s.toks) (fun _ _ => PyProof.Rows.sortedAll_old) (Nat.le_succ _) ⟨by omega, out, ep, rv, he'⟩, rfl, q _ (I.hok.fresh (Nat.le_succ _))⟩
def gSortA : List D → Option D
  | [.list []] => some (.list [])
  | [.list [d]] => some (.list [d])
  | ds => gSortD ds
theorem c_sortA (hK : X.K = E.K) (hc : X.calm = true) (hu : X.A.units + 64 < cLine) : CallD X E (.builtin "sorted") gSortA := by
  intro σ S B H xs ds z Q R dv hz k
  have short : ∀ ds : List D, ds.length < 2 → ∀ (dv : DpAll E.K B xs [.list ds]) (k : ∀ v B' H', Same B B' → Rep E B' H' σ S → Dp E.K B' v (.list ds) → Q v H'), ∃ r, CallR X (.builtin "sorted") r ∧ r xs H Q := fun ds hl dv k => by
    obtain ⟨v, rfl, dx⟩ := dpAll1 dv
    cases dx with
    | lst h r =>
      refine ⟨_, cr_sort1, _, _, rfl, by rw [hK]; exact R.sub.seq h, by rw [dpAll_len r]; exact hl, fun p hp => ?_⟩
      obtain ⟨s1, R1, d1⟩ := new_lst R hp r
      exact k _ _ _ s1 R1 d1
  unfold gSortA at hz
  split at hz
  · cases hz
    exact short [] (by simp) dv k
  · cases hz
    exact short [_] (by simp) dv k
  · exact c_sortD hK hc hu σ S B H xs ds z Q R dv hz k
end
end BC
set_option Elab.async false
set_option linter.all false
set_option maxRecDepth 100000
set_option maxHeartbeats 4000000
namespace BC
open PySem PySem.Spec PyProof.Rows L2 GxR
/-! ### the text by places -/
def topS (i : Nat) : Stmt := PySem.Challenge.pw_bellcopies_k72_across_turned_rings.main.body.getD i (.Pass ⟨0, 0, 0, 0⟩)
abbrev st_is_number : Stmt := topS 7
theorem sc_is_number : FnScope ["value"] ["value"] (defScope st_is_number) := ⟨rfl, rfl, rfl, by decide +kernel, rfl, by decide +kernel, by decide +kernel⟩
abbrev st_is_whole : Stmt := topS 8
theorem sc_is_whole : FnScope ["value", "least", "most"] ["value", "least", "most"] (defScope st_is_whole) := ⟨rfl, rfl, rfl, by decide +kernel, rfl, by decide +kernel, by decide +kernel⟩
abbrev st_check_size : Stmt := topS 11
theorem sc_check_size : FnScope ["size"] ["size"] (defScope st_check_size) := ⟨rfl, rfl, rfl, by decide +kernel, rfl, by decide +kernel, by decide +kernel⟩
abbrev st_is_row : Stmt := topS 9
theorem sc_is_row : FnScope ["value", "fewest", "longest", "least", "most"] ["value", "fewest", "longest", "least", "most"] (defScope st_is_row) := ⟨rfl, rfl, rfl, by decide +kernel, rfl, by decide +kernel, by decide +kernel⟩
abbrev st_check_ring_bells : Stmt := topS 19
theorem sc_check_ring_bells : FnScope ["size", "bells"] ["size", "bells"] (defScope st_check_ring_bells) := ⟨rfl, rfl, rfl, by decide +kernel, rfl, by decide +kernel, by decide +kernel⟩
abbrev st_at_first : Stmt := topS 13
theorem sc_at_first : FnScope ["size"] ["size"] (defScope st_at_first) := ⟨rfl, rfl, rfl, by decide +kernel, rfl, by decide +kernel, by decide +kernel⟩
abbrev st_entry_before : Stmt := topS 16
theorem sc_entry_before : FnScope ["row", "place"] ["row", "place"] (defScope st_entry_before) := ⟨rfl, rfl, rfl, by decide +kernel, rfl, by decide +kernel, by decide +kernel⟩
abbrev st_behind_in_ring : Stmt := topS 23
theorem sc_behind_in_ring : FnScope ["row", "bell"] ["row", "bell"] (defScope st_behind_in_ring) := ⟨rfl, rfl, rfl, by decide +kernel, rfl, by decide +kernel, by decide +kernel⟩
abbrev st_lifted : Stmt := topS 24
theorem sc_lifted : FnScope ["size", "bells", "row", "bell"] ["size", "bells"] (defScope st_lifted) := ⟨rfl, rfl, rfl, by decide +kernel, rfl, by decide +kernel, by decide +kernel⟩
abbrev st_lift : Stmt := topS 27
theorem sc_lift : FnScope ["size", "bells"] ["size", "bells"] (defScope st_lift) := ⟨rfl, rfl, rfl, by decide +kernel, rfl, by decide +kernel, by decide +kernel⟩
abbrev st_entry_behind : Stmt := topS 15
theorem sc_entry_behind : FnScope ["row", "place"] ["row", "place"] (defScope st_entry_behind) := ⟨rfl, rfl, rfl, by decide +kernel, rfl, by decide +kernel, by decide +kernel⟩
abbrev st_bells_needed : Stmt := topS 17
theorem sc_bells_needed : FnScope ["row", "needed", "place", "number"] ["row"] (defScope st_bells_needed) := ⟨rfl, rfl, rfl, by decide +kernel, rfl, by decide +kernel, by decide +kernel⟩
abbrev st_never_falls : Stmt := topS 10
theorem sc_never_falls : FnScope ["row"] ["row"] (defScope st_never_falls) := ⟨rfl, rfl, rfl, by decide +kernel, rfl, by decide +kernel, by decide +kernel⟩
abbrev st_is_lift : Stmt := topS 21
theorem sc_is_lift : FnScope ["value"] ["value"] (defScope st_is_lift) := ⟨rfl, rfl, rfl, by decide +kernel, rfl, by decide +kernel, by decide +kernel⟩
abbrev st_check_lift : Stmt := topS 22
theorem sc_check_lift : FnScope ["lift"] ["lift"] (defScope st_check_lift) := ⟨rfl, rfl, rfl, by decide +kernel, rfl, by decide +kernel, by decide +kernel⟩
abbrev st_comes : Stmt := topS 26
theorem sc_comes : FnScope ["row", "place", "entry"] ["row"] (defScope st_comes) := ⟨rfl, rfl, rfl, by decide +kernel, rfl, by decide +kernel, by decide +kernel⟩
abbrev st_lift_count : Stmt := topS 28
theorem sc_lift_count : FnScope ["lift"] ["lift"] (defScope st_lift_count) := ⟨rfl, rfl, rfl, by decide +kernel, rfl, by decide +kernel, by decide +kernel⟩
abbrev st_check_pair : Stmt := topS 12
theorem sc_check_pair : FnScope ["one", "other"] ["one", "other"] (defScope st_check_pair) := ⟨rfl, rfl, rfl, by decide +kernel, rfl, by decide +kernel, by decide +kernel⟩
abbrev st_lift_after : Stmt := topS 29
theorem sc_lift_after : FnScope ["one", "other", "size", "row", "place", "turns", "at"] ["one", "other"] (defScope st_lift_after) := ⟨rfl, rfl, rfl, by decide +kernel, rfl, by decide +kernel, by decide +kernel⟩
abbrev st_check_two_ring_bells : Stmt := topS 20
theorem sc_check_two_ring_bells : FnScope ["size", "one", "other"] ["size", "one", "other"] (defScope st_check_two_ring_bells) := ⟨rfl, rfl, rfl, by decide +kernel, rfl, by decide +kernel, by decide +kernel⟩
abbrev st_same_in_ring : Stmt := topS 30
theorem sc_same_in_ring : FnScope ["size", "one", "other"] ["size", "one", "other"] (defScope st_same_in_ring) := ⟨rfl, rfl, rfl, by decide +kernel, rfl, by decide +kernel, by decide +kernel⟩
abbrev st_people_of : Stmt := topS 25
theorem sc_people_of : FnScope ["row", "size", "place"] ["row"] (defScope st_people_of) := ⟨rfl, rfl, rfl, by decide +kernel, rfl, by decide +kernel, by decide +kernel⟩
abbrev st_same_signs : Stmt := topS 31
theorem sc_same_signs : FnScope ["size", "one", "other"] ["size", "one", "other"] (defScope st_same_signs) := ⟨rfl, rfl, rfl, by decide +kernel, rfl, by decide +kernel, by decide +kernel⟩
abbrev st_turns_back : Stmt := topS 32
theorem sc_turns_back : FnScope ["size", "bells", "place", "entry"] ["size", "bells"] (defScope st_turns_back) := ⟨rfl, rfl, rfl, by decide +kernel, rfl, by decide +kernel, by decide +kernel⟩
abbrev st_ring_winner : Stmt := topS 33
theorem sc_ring_winner : FnScope ["size", "bells", "people"] ["size", "bells"] (defScope st_ring_winner) := ⟨rfl, rfl, rfl, by decide +kernel, rfl, by decide +kernel, by decide +kernel⟩
abbrev st_law_taken : Stmt := topS 35
theorem sc_law_taken : FnScope ["row", "many", "found", "cell"] ["row", "many"] (defScope st_law_taken) := ⟨rfl, rfl, rfl, by decide +kernel, rfl, by decide +kernel, by decide +kernel⟩
abbrev st_law_ring : Stmt := topS 45
theorem sc_law_ring : FnScope ["row", "size", "most", "found", "last", "way", "turn"] ["row", "size", "most"] (defScope st_law_ring) := ⟨rfl, rfl, rfl, by decide +kernel, rfl, by decide +kernel, by decide +kernel⟩
abbrev st_law : Stmt := topS 46
theorem sc_law : FnScope ["script", "row", "size", "bells", "found", "turn", "once", "many", "back", "winner", "k", "place"] ["script"] (defScope st_law) := ⟨rfl, rfl, rfl, by decide +kernel, rfl, by decide +kernel, by decide +kernel⟩
structure Glob (K : PySem.W.Frag) (mg : Str → Option Value) (base : Heap) where
  T : List Addr
  a_is_number : Addr
  d_is_number : FuncData
  c_is_number : Value
  F_is_number : FunC K "is_number" "is_number" st_is_number a_is_number d_is_number c_is_number
  m_is_number : mg "is_number" = some (.ref a_is_number)
  b_is_number : L2.Binds K d_is_number ["value"] []
  a_is_whole : Addr
  d_is_whole : FuncData
  c_is_whole : Value
  F_is_whole : FunC K "is_whole" "is_whole" st_is_whole a_is_whole d_is_whole c_is_whole
  m_is_whole : mg "is_whole" = some (.ref a_is_whole)
  b_is_whole : L2.Binds K d_is_whole ["value", "least", "most"] []
  a_check_size : Addr
  d_check_size : FuncData
  c_check_size : Value
  F_check_size : FunC K "check_size" "check_size" st_check_size a_check_size d_check_size c_check_size
  m_check_size : mg "check_size" = some (.ref a_check_size)
  b_check_size : L2.Binds K d_check_size ["size"] []
  a_is_row : Addr
  d_is_row : FuncData
  c_is_row : Value
  F_is_row : FunC K "is_row" "is_row" st_is_row a_is_row d_is_row c_is_row
  m_is_row : mg "is_row" = some (.ref a_is_row)
  b_is_row : L2.Binds K d_is_row ["value", "fewest", "longest", "least", "most"] []
  k_is_row : Addr
  P_is_row : Addr
  e_is_row : c_is_row = .ref k_is_row
  TB_is_row : TabB base mg k_is_row P_is_row
  i_is_row : P_is_row ∈ T
  a_check_ring_bells : Addr
  d_check_ring_bells : FuncData
  c_check_ring_bells : Value
  F_check_ring_bells : FunC K "check_ring_bells" "check_ring_bells" st_check_ring_bells a_check_ring_bells d_check_ring_bells c_check_ring_bells
  m_check_ring_bells : mg "check_ring_bells" = some (.ref a_check_ring_bells)
  b_check_ring_bells : L2.Binds K d_check_ring_bells ["size", "bells"] []
  a_at_first : Addr
  d_at_first : FuncData
  c_at_first : Value
  F_at_first : FunC K "at_first" "at_first" st_at_first a_at_first d_at_first c_at_first
  m_at_first : mg "at_first" = some (.ref a_at_first)
  b_at_first : L2.Binds K d_at_first ["size"] []
  a_entry_before : Addr
  d_entry_before : FuncData
  c_entry_before : Value
  F_entry_before : FunC K "entry_before" "entry_before" st_entry_before a_entry_before d_entry_before c_entry_before
  m_entry_before : mg "entry_before" = some (.ref a_entry_before)
  b_entry_before : L2.Binds K d_entry_before ["row", "place"] []
  a_behind_in_ring : Addr
  d_behind_in_ring : FuncData
  c_behind_in_ring : Value
  F_behind_in_ring : FunC K "behind_in_ring" "behind_in_ring" st_behind_in_ring a_behind_in_ring d_behind_in_ring c_behind_in_ring
  m_behind_in_ring : mg "behind_in_ring" = some (.ref a_behind_in_ring)
  b_behind_in_ring : L2.Binds K d_behind_in_ring ["row", "bell"] []
  a_lifted : Addr
  d_lifted : FuncData
  c_lifted : Value
  F_lifted : FunC K "lifted" "lifted" st_lifted a_lifted d_lifted c_lifted
  m_lifted : mg "lifted" = some (.ref a_lifted)
  b_lifted : L2.Binds K d_lifted ["size", "bells"] []
  a_lift : Addr
  d_lift : FuncData
  c_lift : Value
  F_lift : FunC K "lift" "lift" st_lift a_lift d_lift c_lift
  m_lift : mg "lift" = some (.ref a_lift)
  b_lift : L2.Binds K d_lift ["size", "bells"] []
  a_entry_behind : Addr
  d_entry_behind : FuncData
  c_entry_behind : Value
  F_entry_behind : FunC K "entry_behind" "entry_behind" st_entry_behind a_entry_behind d_entry_behind c_entry_behind
  m_entry_behind : mg "entry_behind" = some (.ref a_entry_behind)
  b_entry_behind : L2.Binds K d_entry_behind ["row", "place"] []
  a_bells_needed : Addr
  d_bells_needed : FuncData
  c_bells_needed : Value
  F_bells_needed : FunC K "bells_needed" "bells_needed" st_bells_needed a_bells_needed d_bells_needed c_bells_needed
  m_bells_needed : mg "bells_needed" = some (.ref a_bells_needed)
  b_bells_needed : L2.Binds K d_bells_needed ["row"] []
  a_never_falls : Addr
  d_never_falls : FuncData
  c_never_falls : Value
  F_never_falls : FunC K "never_falls" "never_falls" st_never_falls a_never_falls d_never_falls c_never_falls
  m_never_falls : mg "never_falls" = some (.ref a_never_falls)
  b_never_falls : L2.Binds K d_never_falls ["row"] []
  k_never_falls : Addr
  P_never_falls : Addr
  e_never_falls : c_never_falls = .ref k_never_falls
  TB_never_falls : TabB base mg k_never_falls P_never_falls
  i_never_falls : P_never_falls ∈ T
  a_is_lift : Addr
  d_is_lift : FuncData
  c_is_lift : Value
  F_is_lift : FunC K "is_lift" "is_lift" st_is_lift a_is_lift d_is_lift c_is_lift
  m_is_lift : mg "is_lift" = some (.ref a_is_lift)
  b_is_lift : L2.Binds K d_is_lift ["value"] []
  k_is_lift : Addr
  P_is_lift : Addr
  e_is_lift : c_is_lift = .ref k_is_lift
  TB_is_lift : TabB base mg k_is_lift P_is_lift
  i_is_lift : P_is_lift ∈ T
  a_check_lift : Addr
  d_check_lift : FuncData
  c_check_lift : Value
  F_check_lift : FunC K "check_lift" "check_lift" st_check_lift a_check_lift d_check_lift c_check_lift
  m_check_lift : mg "check_lift" = some (.ref a_check_lift)
  b_check_lift : L2.Binds K d_check_lift ["lift"] []
  a_comes : Addr
  d_comes : FuncData
  c_comes : Value
  F_comes : FunC K "comes" "comes" st_comes a_comes d_comes c_comes
  m_comes : mg "comes" = some (.ref a_comes)
  b_comes : L2.Binds K d_comes ["row"] []
  k_comes : Addr
  P_comes : Addr
  e_comes : c_comes = .ref k_comes
  TB_comes : TabB base mg k_comes P_comes
  i_comes : P_comes ∈ T
  a_lift_count : Addr
  d_lift_count : FuncData
  c_lift_count : Value
  F_lift_count : FunC K "lift_count" "lift_count" st_lift_count a_lift_count d_lift_count c_lift_count
  m_lift_count : mg "lift_count" = some (.ref a_lift_count)
  b_lift_count : L2.Binds K d_lift_count ["lift"] []
  a_check_pair : Addr
  d_check_pair : FuncData
  c_check_pair : Value
  F_check_pair : FunC K "check_pair" "check_pair" st_check_pair a_check_pair d_check_pair c_check_pair
  m_check_pair : mg "check_pair" = some (.ref a_check_pair)
  b_check_pair : L2.Binds K d_check_pair ["one", "other"] []
  a_lift_after : Addr
  d_lift_after : FuncData
  c_lift_after : Value
  F_lift_after : FunC K "lift_after" "lift_after" st_lift_after a_lift_after d_lift_after c_lift_after
  m_lift_after : mg "lift_after" = some (.ref a_lift_after)
  b_lift_after : L2.Binds K d_lift_after ["one", "other"] []
  a_check_two_ring_bells : Addr
  d_check_two_ring_bells : FuncData
  c_check_two_ring_bells : Value
  F_check_two_ring_bells : FunC K "check_two_ring_bells" "check_two_ring_bells" st_check_two_ring_bells a_check_two_ring_bells d_check_two_ring_bells c_check_two_ring_bells
  m_check_two_ring_bells : mg "check_two_ring_bells" = some (.ref a_check_two_ring_bells)
  b_check_two_ring_bells : L2.Binds K d_check_two_ring_bells ["size", "one", "other"] []
  a_same_in_ring : Addr
  d_same_in_ring : FuncData
  c_same_in_ring : Value
  F_same_in_ring : FunC K "same_in_ring" "same_in_ring" st_same_in_ring a_same_in_ring d_same_in_ring c_same_in_ring
  m_same_in_ring : mg "same_in_ring" = some (.ref a_same_in_ring)
  b_same_in_ring : L2.Binds K d_same_in_ring ["size", "one", "other"] []
  a_people_of : Addr
  d_people_of : FuncData
  c_people_of : Value
  F_people_of : FunC K "people_of" "people_of" st_people_of a_people_of d_people_of c_people_of
  m_people_of : mg "people_of" = some (.ref a_people_of)
  b_people_of : L2.Binds K d_people_of ["row"] []
  a_same_signs : Addr
  d_same_signs : FuncData
  c_same_signs : Value
  F_same_signs : FunC K "same_signs" "same_signs" st_same_signs a_same_signs d_same_signs c_same_signs
  m_same_signs : mg "same_signs" = some (.ref a_same_signs)
  b_same_signs : L2.Binds K d_same_signs ["size", "one", "other"] []
  a_turns_back : Addr
  d_turns_back : FuncData
  c_turns_back : Value
  F_turns_back : FunC K "turns_back" "turns_back" st_turns_back a_turns_back d_turns_back c_turns_back
  m_turns_back : mg "turns_back" = some (.ref a_turns_back)
  b_turns_back : L2.Binds K d_turns_back ["size", "bells"] []
  a_ring_winner : Addr
  d_ring_winner : FuncData
  c_ring_winner : Value
  F_ring_winner : FunC K "ring_winner" "ring_winner" st_ring_winner a_ring_winner d_ring_winner c_ring_winner
  m_ring_winner : mg "ring_winner" = some (.ref a_ring_winner)
  b_ring_winner : L2.Binds K d_ring_winner ["size", "bells"] []
  a_law_taken : Addr
  d_law_taken : FuncData
  c_law_taken : Value
  F_law_taken : FunC K "_law_taken" "_law_taken" st_law_taken a_law_taken d_law_taken c_law_taken
  m_law_taken : mg "_law_taken" = some (.ref a_law_taken)
  b_law_taken : L2.Binds K d_law_taken ["row", "many"] []
  a_law_ring : Addr
  d_law_ring : FuncData
  c_law_ring : Value
  F_law_ring : FunC K "_law_ring" "_law_ring" st_law_ring a_law_ring d_law_ring c_law_ring
  m_law_ring : mg "_law_ring" = some (.ref a_law_ring)
  b_law_ring : L2.Binds K d_law_ring ["row", "size", "most"] []
  a_law : Addr
  d_law : FuncData
  c_law : Value
  F_law : FunC K "law" "law" st_law a_law d_law c_law
  m_law : mg "law" = some (.ref a_law)
  b_law : L2.Binds K d_law ["script"] []
  z_all : mg "all" = none
  z_any : mg "any" = none
  z_bool : mg "bool" = none
  z_divmod : mg "divmod" = none
  z_enumerate : mg "enumerate" = none
  z_int : mg "int" = none
  z_isinstance : mg "isinstance" = none
  z_len : mg "len" = none
  z_list : mg "list" = none
  z_max : mg "max" = none
  z_min : mg "min" = none
  z_range : mg "range" = none
  z_set : mg "set" = none
  z_str : mg "str" = none
  z_tuple : mg "tuple" = none
  z_zip : mg "zip" = none
def PNum (vs : List V) (v : V) : Prop := ∃ i : Int, vs = [V.int i] ∧ v = .bl true
theorem q_is_number {K : PySem.W.Frag} {mg : Str → Option Value} {base : Heap} (g : Glob K mg base) {X : Cx} (hK : X.K = K) (hmg : X.mg = mg) : QFn X 1 g.a_is_number 1 PNum := by
  subst hK hmg
  exact qfn_ret (k := 0) g.F_is_number.fun sc_is_number (by decide +kernel) rfl g.b_is_number (fun env vs v he hl ⟨i, hv, e⟩ => by
    subst hv e
    have gl : ∀ y : Str, (defScope st_is_number).names.lookup y = some .globalImplicit → QGl env y := fun y h => by
      show env.scope.names.lookup y = _
      rw [he]; exact h
    show QE X env _ 0 (retE st_is_number) (.bl (true && true))
    exact qe_and (qe_isi (r := true) (gl _ (by decide +kernel)) g.z_isinstance (gl _ (by decide +kernel)) g.z_int (Tn := "int") (by decide +kernel) (by decide +kernel) (qe_name rfl))
      (qe_one (qe_not (x := false) (qe_isi (r := false) (gl _ (by decide +kernel)) g.z_isinstance (gl _ (by decide +kernel)) g.z_bool (Tn := "bool") (by decide +kernel) (by decide +kernel) (qe_name rfl)))))
def PWhole (vs : List V) (v : V) : Prop := ∃ i l m : Int, vs = [V.int i, V.int l, V.int m] ∧ v = .bl (decide (l ≤ i) && decide (i ≤ m))
theorem q_is_whole {K : PySem.W.Frag} {mg : Str → Option Value} {base : Heap} (g : Glob K mg base) {X : Cx} (hK : X.K = K) (hmg : X.mg = mg) : QFn X 2 g.a_is_whole 3 PWhole := by
  subst hK hmg
  exact qfn_ret (k := 1) g.F_is_whole.fun sc_is_whole (by decide +kernel) rfl g.b_is_whole (fun env vs v he hl ⟨i, l, m, hv, e⟩ => by
    subst hv e
    have gl : ∀ y : Str, (defScope st_is_whole).names.lookup y = some .globalImplicit → QGl env y := fun y h => by
      show env.scope.names.lookup y = _
      rw [he]; exact h
    show QE X env _ 1 (retE st_is_whole) (.bl (true && (decide (l ≤ i) && decide (i ≤ m))))
    exact qe_and (x := true) (qe_call1 (q_is_number g rfl rfl) (gl _ (by decide +kernel)) g.m_is_number g.F_is_number.kp (qe_name rfl) ⟨i, rfl, rfl⟩)
      (qe_one (qe_chain ci_le ci_le (qe_name rfl) (qe_name rfl) (qe_name rfl))))
section
variable {P : Program} {w : World} {K : PySem.W.Frag} {mg : Str → Option Value} {base : Heap}
def sx_is_number : SX :=
  (sRet (xAnd (xIsi "int" (xV 0)) (xNot (xIsi "bool" (xV 0)))))
def fn_is_number : FD := fnF 0 sx_is_number
theorem ok_is_number (g : Glob K mg base) : FnK P w K mg base g.T 1 g.a_is_number g.d_is_number ["value"] [] fn_is_number :=
  fn_data (ow := []) g.F_is_number sc_is_number rfl (fun A outer s H E' hr E b =>
    (s_one (s_ret (d_and (d_isi (Tn := "int") b.K (by rfl) g.z_isinstance (by rfl) g.z_int (by decide +kernel) (d_var (pv 0))) (d_one (d_not (d_isi (Tn := "bool") b.K (by rfl) g.z_isinstance (by rfl) g.z_bool (by decide +kernel) (d_var (pv 0)))))))))
def sx_is_whole : SX :=
  (sRet (xAnd (xFn fn_is_number (yCons (xV 0) yNil)) (xCh gLe gLe (xV 1) (xV 0) (xV 2))))
def fn_is_whole : FD := fnF 0 sx_is_whole
theorem ok_is_whole (g : Glob K mg base) : FnK P w K mg base g.T 2 g.a_is_whole g.d_is_whole ["value", "least", "most"] [] fn_is_whole :=
  fn_data (ow := []) g.F_is_whole sc_is_whole rfl (fun A outer s H E' hr E b =>
    (s_one (s_ret (d_and (d_call (ok_is_number g) b.K b.T (hr.mono (by decide)) (by rfl) g.m_is_number g.F_is_number.kp g.b_is_number rfl (yCons_len yNil_len) (d_cons (d_var (pv 0)) d_nil)) (d_one (d_chain o_le o_le (d_var (pv 1)) (d_var (pv 0)) (d_var (pv 2))))))))
def sx_check_size : SX :=
  (sIf (yNot (xT (xFn fn_is_whole (yCons (xV 0) (yCons (xC (PyData.int 2)) (yCons (xC (PyData.int 8)) yNil)))))) sNever sNx)
def fn_check_size : FD := fnF 0 sx_check_size
theorem ok_check_size (g : Glob K mg base) : FnK P w K mg base g.T 3 g.a_check_size g.d_check_size ["size"] [] fn_check_size :=
  fn_data (ow := []) g.F_check_size sc_check_size rfl (fun A outer s H E' hr E b =>
    (s_one (s_if (t_not (t_val (d_call (ok_is_whole g) b.K b.T (hr.mono (by decide)) (by rfl) g.m_is_whole g.F_is_whole.kp g.b_is_whole rfl (yCons_len (yCons_len (yCons_len yNil_len))) (d_cons (d_var (pv 0)) (d_cons d_int (d_cons d_int d_nil)))))) (s_one s_never) s_nil)))
def sx_is_row : SX :=
  (sSeq (sIf (yOr (yNot (xT (xIsi "tuple" (xV 0)))) (yNot (xT (xCh gLe gLe (xV 1) (xCall gLen (yCons (xV 0) yNil)) (xV 2))))) (sRet (xC (PyData.bool false))) sNx)
    (sRet (xAll [3, 4] (fun zs n => decide (zs.getD 0 0 ≤ n) && decide (n ≤ zs.getD 1 0)) (xV 0))))
def fn_is_row : FD := fnF 0 sx_is_row
theorem ok_is_row (g : Glob K mg base) : FnK P w K mg base g.T 6 g.a_is_row g.d_is_row ["value", "fewest", "longest", "least", "most"] [] fn_is_row :=
  fn_data (ow := []) g.F_is_row sc_is_row rfl (fun A outer s H E' hr E b =>
    (s_cons (s_if (PW.pt (w_or (t_not (t_val (d_isi (Tn := "tuple") b.K (by rfl) g.z_isinstance (by rfl) g.z_tuple (by decide +kernel) (d_var (pv 0))))) (w_or1 (t_not (t_chain o_le o_le (d_var (pv 1)) (d_callB (c_len b.K) (by rfl) g.z_len (by decide +kernel) (d_cons (d_var (pv 0)) d_nil)) (d_var (pv 2))))))) (s_one (s_ret d_bl)) s_nil)
    (s_one (s_ret (d_all (k := 2) (fvs := [("least", 3), ("most", 4)]) (pb := (fun zs n => decide (zs.getD 0 0 ≤ n) && decide (n ≤ zs.getD 1 0))) b.K (by rw [b.T]; exact g.i_is_row) (hr.mono (by decide)) (by rfl) g.z_all g.TB_is_row g.e_is_row (gs_mk (fsc := defScope st_is_row) rfl (by decide +kernel)) (d_var (pv 0)) (fv_mk (N := ["value", "fewest", "longest", "least", "most"]) (fsc := defScope st_is_row) (by decide +kernel)) (fun cenv zs n hc hz => by
        obtain ⟨l, m, rfl⟩ := two_of hz
        refine qe_call3 (q_is_whole g rfl rfl) (by show cenv.scope.names.lookup _ = _; rw [hc]; rfl) g.m_is_whole g.F_is_whole.kp (qe_name rfl) (qe_name rfl) (qe_name rfl) ⟨n, l, m, rfl, rfl⟩))))))
def sx_check_ring_bells : SX :=
  (sIf (yNot (xT (xFn fn_is_row (yCons (xV 1) (yCons (xC (PyData.int 0)) (yCons (xC (PyData.int 60)) (yCons (xC (PyData.int 1)) (yCons (xV 0) yNil)))))))) sNever sNx)
def fn_check_ring_bells : FD := fnF 0 sx_check_ring_bells
theorem ok_check_ring_bells (g : Glob K mg base) : FnK P w K mg base g.T 7 g.a_check_ring_bells g.d_check_ring_bells ["size", "bells"] [] fn_check_ring_bells :=
  fn_data (ow := []) g.F_check_ring_bells sc_check_ring_bells rfl (fun A outer s H E' hr E b =>
    (s_one (s_if (t_not (t_val (d_call (ok_is_row g) b.K b.T (hr.mono (by decide)) (by rfl) g.m_is_row g.F_is_row.kp g.b_is_row rfl (yCons_len (yCons_len (yCons_len (yCons_len (yCons_len yNil_len))))) (d_cons (d_var (pv 1)) (d_cons d_int (d_cons d_int (d_cons d_int (d_cons (d_var (pv 0)) d_nil)))))))) (s_one s_never) s_nil)))
def sx_at_first : SX :=
  (sRet (xTupR (xC (PyData.int 1)) (x2 gAdd (xV 0) (xC (PyData.int 1)))))
def fn_at_first : FD := fnF 0 sx_at_first
theorem ok_at_first (g : Glob K mg base) : FnK P w K mg base g.T 1 g.a_at_first g.d_at_first ["size"] [] fn_at_first :=
  fn_data (ow := []) g.F_at_first sc_at_first rfl (fun A outer s H E' hr E b =>
    (s_one (s_ret (d_tupR rfl (by rfl) g.z_tuple (by rfl) g.z_range d_int (d_op (o_add b.K) (d_var (pv 0)) d_int)))))
def sx_entry_before : SX :=
  (sSeq (sIf (xT (x2 gEq (xV 1) (xC (PyData.int 1)))) (sRet (x2 gSub (x2 gIx (xV 0) (x1 gNeg (xC (PyData.int 1)))) (xCall gLen (yCons (xV 0) yNil)))) sNx)
    (sRet (x2 gIx (xV 0) (x2 gSub (xV 1) (xC (PyData.int 2))))))
def fn_entry_before : FD := fnF 0 sx_entry_before
theorem ok_entry_before (g : Glob K mg base) : FnK P w K mg base g.T 1 g.a_entry_before g.d_entry_before ["row", "place"] [] fn_entry_before :=
  fn_data (ow := []) g.F_entry_before sc_entry_before rfl (fun A outer s H E' hr E b =>
    (s_cons (s_if (t_cmp (o_eq b.K hr.units) (d_var (pv 1)) d_int (nomark _)) (s_one (s_ret (d_op o_sub (d_ix b.K (d_var (pv 0)) (d_neg d_int)) (d_callB (c_len b.K) (by rfl) g.z_len (by decide +kernel) (d_cons (d_var (pv 0)) d_nil))))) s_nil)
    (s_one (s_ret (d_ix b.K (d_var (pv 0)) (d_op o_sub (d_var (pv 1)) d_int))))))
def sx_behind_in_ring : SX :=
  (sRet (x2 gAdd (x2 gAdd (xSl (xV 0) oNo (oSm (x2 gSub (xV 1) (xC (PyData.int 1))))) (xTup (yCons (xFn fn_entry_before (yCons (xV 0) (yCons (xV 1) yNil))) yNil))) (xSl (xV 0) (oSm (xV 1)) oNo)))
def fn_behind_in_ring : FD := fnF 0 sx_behind_in_ring
theorem ok_behind_in_ring (g : Glob K mg base) : FnK P w K mg base g.T 2 g.a_behind_in_ring g.d_behind_in_ring ["row", "bell"] [] fn_behind_in_ring :=
  fn_data (ow := []) g.F_behind_in_ring sc_behind_in_ring rfl (fun A outer s H E' hr E b =>
    (s_one (s_ret (d_op (o_add b.K) (d_op (o_add b.K) (d_sl b.K (d_var (pv 0)) p_no (p_sm (d_op o_sub (d_var (pv 1)) d_int))) (d_tup (d_cons (d_call (ok_entry_before g) b.K b.T (hr.mono (by decide)) (by rfl) g.m_entry_before g.F_entry_before.kp g.b_entry_before rfl (yCons_len (yCons_len yNil_len)) (d_cons (d_var (pv 0)) (d_cons (d_var (pv 1)) d_nil))) d_nil))) (d_sl b.K (d_var (pv 0)) (p_sm (d_var (pv 1))) p_no)))))
def sx_lifted : SX :=
  (sSeq (sSet 2 (xFn fn_at_first (yCons (xV 0) yNil)))
    (sSeq (sFor (iSeq (xV 1)) (setV 3) (sSet 2 (xFn fn_behind_in_ring (yCons (xV 2) (yCons (xV 3) yNil)))))
    (sRet (xV 2))))
def fn_lifted : FD := fnF 2 sx_lifted
theorem ok_lifted (g : Glob K mg base) : FnK P w K mg base g.T 3 g.a_lifted g.d_lifted ["size", "bells"] [] fn_lifted :=
  fn_data (ow := []) g.F_lifted sc_lifted rfl (fun A outer s H E' hr E b =>
    (s_cons (s_set (b.np (by decide : 2 ∉ ([] : List Nat))) sc_lifted.nd rfl (by first | exact Or.inl rfl | exact Or.inr rfl) (d_call (ok_at_first g) b.K b.T (hr.mono (by decide)) (by rfl) g.m_at_first g.F_at_first.kp g.b_at_first rfl (yCons_len yNil_len) (d_cons (d_var (pv 0)) d_nil)))
    (s_cons (s_for (g := gName 3) (st := (setV 3)) PassesOwn.never rfl (i_tup b.K (d_var (pv 1))) (pg_name (i := 3) sc_lifted.nd rfl (by first | exact Or.inl rfl | exact Or.inr rfl)) (tg_name (b.np (by decide : 3 ∉ ([] : List Nat)))) (s_one (s_set (b.np (by decide : 2 ∉ ([] : List Nat))) sc_lifted.nd rfl (by first | exact Or.inl rfl | exact Or.inr rfl) (d_call (ok_behind_in_ring g) b.K b.T (hr.mono (by decide)) (by rfl) g.m_behind_in_ring g.F_behind_in_ring.kp g.b_behind_in_ring rfl (yCons_len (yCons_len yNil_len)) (d_cons (d_var (pv 2)) (d_cons (d_var (pv 3)) d_nil))))))
    (s_one (s_ret (d_var (pv 2)))))))
def sx_lift : SX :=
  (sSeq (sExpr (xFn fn_check_size (yCons (xV 0) yNil)))
    (sSeq (sExpr (xFn fn_check_ring_bells (yCons (xV 0) (yCons (xV 1) yNil))))
    (sRet (xFn fn_lifted (yCons (xV 0) (yCons (xV 1) yNil))))))
def fn_lift : FD := fnF 0 sx_lift
theorem ok_lift (g : Glob K mg base) : FnK P w K mg base g.T 8 g.a_lift g.d_lift ["size", "bells"] [] fn_lift :=
  fn_data (ow := []) g.F_lift sc_lift rfl (fun A outer s H E' hr E b =>
    (s_cons (s_expr (d_call (ok_check_size g) b.K b.T (hr.mono (by decide)) (by rfl) g.m_check_size g.F_check_size.kp g.b_check_size rfl (yCons_len yNil_len) (d_cons (d_var (pv 0)) d_nil)))
    (s_cons (s_expr (d_call (ok_check_ring_bells g) b.K b.T (hr.mono (by decide)) (by rfl) g.m_check_ring_bells g.F_check_ring_bells.kp g.b_check_ring_bells rfl (yCons_len (yCons_len yNil_len)) (d_cons (d_var (pv 0)) (d_cons (d_var (pv 1)) d_nil))))
    (s_one (s_ret (d_call (ok_lifted g) b.K b.T (hr.mono (by decide)) (by rfl) g.m_lifted g.F_lifted.kp g.b_lifted rfl (yCons_len (yCons_len yNil_len)) (d_cons (d_var (pv 0)) (d_cons (d_var (pv 1)) d_nil))))))))
def sx_entry_behind : SX :=
  (sSeq (sIf (xT (x2 gEq (xV 1) (xCall gLen (yCons (xV 0) yNil)))) (sRet (x2 gAdd (x2 gIx (xV 0) (xC (PyData.int 0))) (xCall gLen (yCons (xV 0) yNil)))) sNx)
    (sRet (x2 gIx (xV 0) (xV 1))))
def fn_entry_behind : FD := fnF 0 sx_entry_behind
theorem ok_entry_behind (g : Glob K mg base) : FnK P w K mg base g.T 1 g.a_entry_behind g.d_entry_behind ["row", "place"] [] fn_entry_behind :=
  fn_data (ow := []) g.F_entry_behind sc_entry_behind rfl (fun A outer s H E' hr E b =>
    (s_cons (s_if (t_cmp (o_eq b.K hr.units) (d_var (pv 1)) (d_callB (c_len b.K) (by rfl) g.z_len (by decide +kernel) (d_cons (d_var (pv 0)) d_nil)) (nomark _)) (s_one (s_ret (d_op (o_add b.K) (d_ix b.K (d_var (pv 0)) d_int) (d_callB (c_len b.K) (by rfl) g.z_len (by decide +kernel) (d_cons (d_var (pv 0)) d_nil))))) s_nil)
    (s_one (s_ret (d_ix b.K (d_var (pv 0)) (d_var (pv 1)))))))
def sx_bells_needed : SX :=
  (sSeq (sSet 1 (xC (PyData.int 0)))
    (sSeq (sFor (iEn2 (yCons (xV 0) (yCons (xC (PyData.int 1)) yNil))) (setV2 2 3) (sIf (xT (x2 gNe (xFn fn_entry_behind (yCons (xV 0) (yCons (xV 2) yNil))) (xV 3))) (sAug 1 (fun i j => i + j) (x2 gSub (xV 2) (xV 3))) sNx))
    (sRet (xV 1))))
def fn_bells_needed : FD := fnF 3 sx_bells_needed
theorem ok_bells_needed (g : Glob K mg base) : FnK P w K mg base g.T 2 g.a_bells_needed g.d_bells_needed ["row"] [] fn_bells_needed :=
  fn_data (ow := []) g.F_bells_needed sc_bells_needed rfl (fun A outer s H E' hr E b =>
    (s_cons (s_set (b.np (by decide : 1 ∉ ([] : List Nat))) sc_bells_needed.nd rfl (by first | exact Or.inl rfl | exact Or.inr rfl) d_int)
    (s_cons (s_for (g := gTup K 2 (gCons (gName 2) (gCons (gName 3) gNil))) (st := (setV2 2 3)) PassesOwn.never rfl (i_en2 b.K (by rfl) g.z_enumerate (d_cons (d_var (pv 0)) (d_cons d_int d_nil))) (pg_tup rfl (pgs_cons (pg_name (i := 2) sc_bells_needed.nd rfl (by first | exact Or.inl rfl | exact Or.inr rfl)) (pgs_cons (pg_name (i := 3) sc_bells_needed.nd rfl (by first | exact Or.inl rfl | exact Or.inr rfl)) pgs_nil))) (tg_two b.K (b.np (by decide : 2 ∉ ([] : List Nat))) (b.np (by decide : 3 ∉ ([] : List Nat)))) (s_one (s_if (t_cmp (o_ne b.K hr.units) (d_call (ok_entry_behind g) b.K b.T (hr.mono (by decide)) (by rfl) g.m_entry_behind g.F_entry_behind.kp g.b_entry_behind rfl (yCons_len (yCons_len yNil_len)) (d_cons (d_var (pv 0)) (d_cons (d_var (pv 2)) d_nil))) (d_var (pv 3)) (nomark _)) (s_one (s_aug (b.np (by decide : 1 ∉ ([] : List Nat))) sc_bells_needed.nd rfl (by first | exact Or.inl rfl | exact Or.inr rfl) (d_op o_sub (d_var (pv 2)) (d_var (pv 3))) ip_add)) s_nil)))
    (s_one (s_ret (d_var (pv 1)))))))
def sx_never_falls : SX :=
  (sRet (xAllZ (fun i j => decide (i ≤ j)) (yCons (xV 0) (yCons (xSl (xV 0) (oSm (xC (PyData.int 1))) oNo) yNil))))
def fn_never_falls : FD := fnF 0 sx_never_falls
theorem ok_never_falls (g : Glob K mg base) : FnK P w K mg base g.T 4 g.a_never_falls g.d_never_falls ["row"] [] fn_never_falls :=
  fn_data (ow := []) g.F_never_falls sc_never_falls rfl (fun A outer s H E' hr E b =>
    (s_one (s_ret (d_allZ (k := 0) (pb := (fun i j => decide (i ≤ j))) b.K (by rw [b.T]; exact g.i_never_falls) (hr.mono (by decide)) (by rfl) g.z_all (by rfl) g.z_zip g.TB_never_falls g.e_never_falls (gs_mk (n := 0) (fsc := defScope st_never_falls) rfl (by decide +kernel)) (by decide +kernel) (by decide) (d_cons (d_var (pv 0)) (d_cons (d_sl b.K (d_var (pv 0)) (p_sm d_int) p_no) d_nil)) (fun cenv i j hc => qe_cmp ci_le (qe_name rfl) (qe_name rfl))))))
def sx_is_lift : SX :=
  (sSeq (sIf (yOr (yNot (xT (xFn fn_is_row (yCons (xV 0) (yCons (xC (PyData.int 2)) (yCons (xC (PyData.int 8)) (yCons (x1 gNeg (xC (PyData.int 200))) (yCons (xC (PyData.int 8)) yNil)))))))) (yNot (xT (xFn fn_never_falls (yCons (xV 0) yNil))))) (sRet (xC (PyData.bool false))) sNx)
    (sSeq (sIf (xT (x2 gGt (x2 gIx (xV 0) (x1 gNeg (xC (PyData.int 1)))) (x2 gAdd (x2 gIx (xV 0) (xC (PyData.int 0))) (xCall gLen (yCons (xV 0) yNil))))) (sRet (xC (PyData.bool false))) sNx)
    (sRet (xAllE (fun i j => decide (j ≤ i)) (yCons (xV 0) (yCons (xC (PyData.int 1)) yNil))))))
def fn_is_lift : FD := fnF 0 sx_is_lift
theorem ok_is_lift (g : Glob K mg base) : FnK P w K mg base g.T 10 g.a_is_lift g.d_is_lift ["value"] [] fn_is_lift :=
  fn_data (ow := []) g.F_is_lift sc_is_lift rfl (fun A outer s H E' hr E b =>
    (s_cons (s_if (PW.pt (w_or (t_not (t_val (d_call (ok_is_row g) b.K b.T (hr.mono (by decide)) (by rfl) g.m_is_row g.F_is_row.kp g.b_is_row rfl (yCons_len (yCons_len (yCons_len (yCons_len (yCons_len yNil_len))))) (d_cons (d_var (pv 0)) (d_cons d_int (d_cons d_int (d_cons (d_neg d_int) (d_cons d_int d_nil)))))))) (w_or1 (t_not (t_val (d_call (ok_never_falls g) b.K b.T (hr.mono (by decide)) (by rfl) g.m_never_falls g.F_never_falls.kp g.b_never_falls rfl (yCons_len yNil_len) (d_cons (d_var (pv 0)) d_nil))))))) (s_one (s_ret d_bl)) s_nil)
    (s_cons (s_if (t_cmp o_gt (d_ix b.K (d_var (pv 0)) (d_neg d_int)) (d_op (o_add b.K) (d_ix b.K (d_var (pv 0)) d_int) (d_callB (c_len b.K) (by rfl) g.z_len (by decide +kernel) (d_cons (d_var (pv 0)) d_nil))) (nomark _)) (s_one (s_ret d_bl)) s_nil)
    (s_one (s_ret (d_allE (k := 1) (pb := (fun i j => decide (j ≤ i))) b.K (by rw [b.T]; exact g.i_is_lift) (hr.mono (by decide)) (by rfl) g.z_all (by rfl) g.z_enumerate g.TB_is_lift g.e_is_lift (gs_mk (n := 0) (fsc := defScope st_is_lift) rfl (by decide +kernel)) (by decide +kernel) (by decide) (d_cons (d_var (pv 0)) (d_cons d_int d_nil)) (fun cenv i j hc => qe_cmp ci_le (qe_name rfl) (qe_name rfl))))))))
def sx_check_lift : SX :=
  (sIf (yNot (xT (xFn fn_is_lift (yCons (xV 0) yNil)))) sNever sNx)
def fn_check_lift : FD := fnF 0 sx_check_lift
theorem ok_check_lift (g : Glob K mg base) : FnK P w K mg base g.T 11 g.a_check_lift g.d_check_lift ["lift"] [] fn_check_lift :=
  fn_data (ow := []) g.F_check_lift sc_check_lift rfl (fun A outer s H E' hr E b =>
    (s_one (s_if (t_not (t_val (d_call (ok_is_lift g) b.K b.T (hr.mono (by decide)) (by rfl) g.m_is_lift g.F_is_lift.kp g.b_is_lift rfl (yCons_len yNil_len) (d_cons (d_var (pv 0)) d_nil)))) (s_one s_never) s_nil)))
def sx_comes : SX :=
  (sSeq (sIf (xT (x2 gEq (xV 0) (xFn fn_at_first (yCons (xCall gLen (yCons (xV 0) yNil)) yNil)))) (sRet (xC (PyData.bool true))) sNx)
    (sRet (xAnyG true (iEn2A (yCons (xV 0) (yCons (xC (PyData.int 1)) yNil))) (setT [(setV 1), (setV 2)]) (x2 gEq (xFn fn_entry_before (yCons (xV 0) (yCons (xV 1) yNil))) (xV 2)) [1, 2])))
def fn_comes : FD := fnF 2 sx_comes
theorem ok_comes (g : Glob K mg base) : FnK P w K mg base g.T 5 g.a_comes g.d_comes ["row"] [] fn_comes :=
  fn_data (ow := []) g.F_comes sc_comes rfl (fun A outer s H E' hr E b =>
    (s_cons (s_if (t_cmp (o_eq b.K hr.units) (d_var (pv 0)) (d_call (ok_at_first g) b.K b.T (hr.mono (by decide)) (by rfl) g.m_at_first g.F_at_first.kp g.b_at_first rfl (yCons_len yNil_len) (d_cons (d_callB (c_len b.K) (by rfl) g.z_len (by decide +kernel) (d_cons (d_var (pv 0)) d_nil)) d_nil)) (nomark _)) (s_one (s_ret d_bl)) s_nil)
    (s_one (s_ret (d_anyG (k := 3) (own := [("place", 1), ("entry", 2)]) (g := (gTup K 2 (gCons (gName 1) (gCons (gName 2) gNil)))) (st := (setT [(setV 1), (setV 2)])) (te := (x2 gEq (xFn fn_entry_before (yCons (xV 0) (yCons (xV 1) yNil))) (xV 2))) (by rw [b.T]; exact g.i_comes) (hr.mono (by decide)) sc_comes.nd rfl (by rfl) g.z_any g.TB_comes g.e_comes (genK_by (by decide +kernel)) (blkOk_by (N := ["row", "place", "entry"]) (sc := defScope st_comes) (by decide +kernel)) (i_en2A b.K (by rfl) g.z_enumerate (d_cons (d_var (pv 0)) (d_cons d_int d_nil))) (fun _ _ _ _ _ _ _ hrA => (pg_tup rfl (pgs_cons (pg_name (i := 1) sc_comes.nd rfl (by first | exact Or.inl rfl | exact Or.inr rfl)) (pgs_cons (pg_name (i := 2) sc_comes.nd rfl (by first | exact Or.inl rfl | exact Or.inr rfl)) pgs_nil)))) (tv_tup b.K (tvs_cons (tv_name (by decide) (b.np (by decide))) (tvs_cons (tv_name (by decide) (b.np (by decide))) tvs_nil))) (b.nps (by decide)) (fun _ _ _ _ _ _ _ hrA => (d_cmp (o_eq b.K hrA.units) (d_call (ok_entry_before g) b.K b.T (hrA.mono (by decide)) (by rfl) g.m_entry_before g.F_entry_before.kp g.b_entry_before rfl (yCons_len (yCons_len yNil_len)) (d_cons (d_var (pv 0)) (d_cons (d_var (pv 1)) d_nil))) (d_var (pv 2)) (nomark _))))))))
def sx_lift_count : SX :=
  (sSeq (sExpr (xFn fn_check_lift (yCons (xV 0) yNil)))
    (sRet (xIf (xT (xFn fn_comes (yCons (xV 0) yNil))) (xFn fn_bells_needed (yCons (xV 0) yNil)) (xC PyData.none))))
def fn_lift_count : FD := fnF 0 sx_lift_count
theorem ok_lift_count (g : Glob K mg base) : FnK P w K mg base g.T 12 g.a_lift_count g.d_lift_count ["lift"] [] fn_lift_count :=
  fn_data (ow := []) g.F_lift_count sc_lift_count rfl (fun A outer s H E' hr E b =>
    (s_cons (s_expr (d_call (ok_check_lift g) b.K b.T (hr.mono (by decide)) (by rfl) g.m_check_lift g.F_check_lift.kp g.b_check_lift rfl (yCons_len yNil_len) (d_cons (d_var (pv 0)) d_nil)))
    (s_one (s_ret (d_if (t_val (d_call (ok_comes g) b.K b.T (hr.mono (by decide)) (by rfl) g.m_comes g.F_comes.kp g.b_comes rfl (yCons_len yNil_len) (d_cons (d_var (pv 0)) d_nil))) (d_call (ok_bells_needed g) b.K b.T (hr.mono (by decide)) (by rfl) g.m_bells_needed g.F_bells_needed.kp g.b_bells_needed rfl (yCons_len yNil_len) (d_cons (d_var (pv 0)) d_nil)) d_non)))))
def sx_check_pair : SX :=
  (sIf (xT (x2 gNe (xCall gLen (yCons (xV 0) yNil)) (xCall gLen (yCons (xV 1) yNil)))) sNever sNx)
def fn_check_pair : FD := fnF 0 sx_check_pair
theorem ok_check_pair (g : Glob K mg base) : FnK P w K mg base g.T 1 g.a_check_pair g.d_check_pair ["one", "other"] [] fn_check_pair :=
  fn_data (ow := []) g.F_check_pair sc_check_pair rfl (fun A outer s H E' hr E b =>
    (s_one (s_if (t_cmp (o_ne b.K hr.units) (d_callB (c_len b.K) (by rfl) g.z_len (by decide +kernel) (d_cons (d_var (pv 0)) d_nil)) (d_callB (c_len b.K) (by rfl) g.z_len (by decide +kernel) (d_cons (d_var (pv 1)) d_nil)) (nomark _)) (s_one s_never) s_nil)))
def sx_lift_after : SX :=
  (sSeq (sExpr (xFn fn_check_lift (yCons (xV 0) yNil)))
    (sSeq (sExpr (xFn fn_check_lift (yCons (xV 1) yNil)))
    (sSeq (sExpr (xFn fn_check_pair (yCons (xV 0) (yCons (xV 1) yNil))))
    (sSeq (sSet 2 (xCall gLen (yCons (xV 0) yNil)))
    (sSeq (sSetL 3 (yLst yNil))
    (sSeq (sFor (iSeq (xV 1)) (setV 4) (sSeq (sAsg (setV2 5 6) (xCall gDivmod (yCons (x2 gSub (xV 4) (xC (PyData.int 1))) (yCons (xV 2) yNil))))
    (sApp 3 (x2 gAdd (x2 gIx (xV 0) (xV 6)) (x2 gMul (xV 5) (xV 2))))))
    (sSeq (sIf (xT (x2 gLt (xCall gMinL (yCons (xF 3) yNil)) (x1 gNeg (xC (PyData.int 200))))) sNever sNx)
    (sRet (xCall gTupOf (yCons (xF 3) yNil))))))))))
def fn_lift_after : FD := fnF 5 sx_lift_after
theorem ok_lift_after (g : Glob K mg base) : FnK P w K mg base g.T 12 g.a_lift_after g.d_lift_after ["one", "other"] [] fn_lift_after :=
  fn_data (ow := []) g.F_lift_after sc_lift_after rfl (fun A outer s H E' hr E b =>
    (s_cons (s_expr (d_call (ok_check_lift g) b.K b.T (hr.mono (by decide)) (by rfl) g.m_check_lift g.F_check_lift.kp g.b_check_lift rfl (yCons_len yNil_len) (d_cons (d_var (pv 0)) d_nil)))
    (s_cons (s_expr (d_call (ok_check_lift g) b.K b.T (hr.mono (by decide)) (by rfl) g.m_check_lift g.F_check_lift.kp g.b_check_lift rfl (yCons_len yNil_len) (d_cons (d_var (pv 1)) d_nil)))
    (s_cons (s_expr (d_call (ok_check_pair g) b.K b.T (hr.mono (by decide)) (by rfl) g.m_check_pair g.F_check_pair.kp g.b_check_pair rfl (yCons_len (yCons_len yNil_len)) (d_cons (d_var (pv 0)) (d_cons (d_var (pv 1)) d_nil))))
    (s_cons (s_set (b.np (by decide : 2 ∉ ([] : List Nat))) sc_lift_after.nd rfl (by first | exact Or.inl rfl | exact Or.inr rfl) (d_callB (c_len b.K) (by rfl) g.z_len (by decide +kernel) (d_cons (d_var (pv 0)) d_nil)))
    (s_cons (s_setL (b.np (by decide : 3 ∉ ([] : List Nat))) sc_lift_after.nd rfl (by first | exact Or.inl rfl | exact Or.inr rfl) (l_lst d_nil))
    (s_cons (s_for (g := gName 4) (st := (setV 4)) PassesOwn.never rfl (i_tup b.K (d_var (pv 1))) (pg_name (i := 4) sc_lift_after.nd rfl (by first | exact Or.inl rfl | exact Or.inr rfl)) (tg_name (b.np (by decide : 4 ∉ ([] : List Nat)))) (s_cons (s_asg (g := gTup K 2 (gCons (gName 5) (gCons (gName 6) gNil))) (st := setV2 5 6) (d_callB c_divmod (by rfl) g.z_divmod (by decide +kernel) (d_cons (d_op o_sub (d_var (pv 4)) d_int) (d_cons (d_var (pv 2)) d_nil))) (pg_tup rfl (pgs_cons (pg_name (i := 5) sc_lift_after.nd rfl (by first | exact Or.inl rfl | exact Or.inr rfl)) (pgs_cons (pg_name (i := 6) sc_lift_after.nd rfl (by first | exact Or.inl rfl | exact Or.inr rfl)) pgs_nil))) (tg_two b.K (b.np (by decide : 5 ∉ ([] : List Nat))) (b.np (by decide : 6 ∉ ([] : List Nat)))))
    (s_one (s_app (pv 3) (d_op (o_add b.K) (d_ix b.K (d_var (pv 0)) (d_var (pv 6))) (d_op (o_mul b.K) (d_var (pv 5)) (d_var (pv 2)))) (pe_bm PySem.F.plainAttrs_list PySem.F.slot_list_append PySem.F.type_list_append mt_append (pv 3) (pa_cons (d_op (o_add b.K) (d_ix b.K (d_var (pv 0)) (d_var (pv 6))) (d_op (o_mul b.K) (d_var (pv 5)) (d_var (pv 2)))) pa_nil))))))
    (s_cons (s_if (t_cmp o_lt (d_callB (c_minL b.K rfl) (by rfl) g.z_min (by decide +kernel) (d_cons (d_frz (pv 3) (b.np (by decide : 3 ∉ ([] : List Nat)))) d_nil)) (d_neg d_int) (nomark _)) (s_one s_never) s_nil)
    (s_one (s_ret (d_callT (c_tupOf b.K) (by rfl) g.z_tuple (by decide +kernel) (d_cons (d_frz (pv 3) (b.np (by decide : 3 ∉ ([] : List Nat)))) d_nil))))))))))))
def sx_check_two_ring_bells : SX :=
  (sSeq (sExpr (xFn fn_check_size (yCons (xV 0) yNil)))
    (sSeq (sExpr (xFn fn_check_ring_bells (yCons (xV 0) (yCons (xV 1) yNil))))
    (sExpr (xFn fn_check_ring_bells (yCons (xV 0) (yCons (xV 2) yNil))))))
def fn_check_two_ring_bells : FD := fnF 0 sx_check_two_ring_bells
theorem ok_check_two_ring_bells (g : Glob K mg base) : FnK P w K mg base g.T 8 g.a_check_two_ring_bells g.d_check_two_ring_bells ["size", "one", "other"] [] fn_check_two_ring_bells :=
  fn_data (ow := []) g.F_check_two_ring_bells sc_check_two_ring_bells rfl (fun A outer s H E' hr E b =>
    (s_cons (s_expr (d_call (ok_check_size g) b.K b.T (hr.mono (by decide)) (by rfl) g.m_check_size g.F_check_size.kp g.b_check_size rfl (yCons_len yNil_len) (d_cons (d_var (pv 0)) d_nil)))
    (s_cons (s_expr (d_call (ok_check_ring_bells g) b.K b.T (hr.mono (by decide)) (by rfl) g.m_check_ring_bells g.F_check_ring_bells.kp g.b_check_ring_bells rfl (yCons_len (yCons_len yNil_len)) (d_cons (d_var (pv 0)) (d_cons (d_var (pv 1)) d_nil))))
    (s_one (s_expr (d_call (ok_check_ring_bells g) b.K b.T (hr.mono (by decide)) (by rfl) g.m_check_ring_bells g.F_check_ring_bells.kp g.b_check_ring_bells rfl (yCons_len (yCons_len yNil_len)) (d_cons (d_var (pv 0)) (d_cons (d_var (pv 2)) d_nil))))))))
def sx_same_in_ring : SX :=
  (sSeq (sExpr (xFn fn_check_two_ring_bells (yCons (xV 0) (yCons (xV 1) (yCons (xV 2) yNil)))))
    (sRet (x2 gEq (xFn fn_lifted (yCons (xV 0) (yCons (xV 1) yNil))) (xFn fn_lifted (yCons (xV 0) (yCons (xV 2) yNil))))))
def fn_same_in_ring : FD := fnF 0 sx_same_in_ring
theorem ok_same_in_ring (g : Glob K mg base) : FnK P w K mg base g.T 9 g.a_same_in_ring g.d_same_in_ring ["size", "one", "other"] [] fn_same_in_ring :=
  fn_data (ow := []) g.F_same_in_ring sc_same_in_ring rfl (fun A outer s H E' hr E b =>
    (s_cons (s_expr (d_call (ok_check_two_ring_bells g) b.K b.T (hr.mono (by decide)) (by rfl) g.m_check_two_ring_bells g.F_check_two_ring_bells.kp g.b_check_two_ring_bells rfl (yCons_len (yCons_len (yCons_len yNil_len))) (d_cons (d_var (pv 0)) (d_cons (d_var (pv 1)) (d_cons (d_var (pv 2)) d_nil)))))
    (s_one (s_ret (d_cmp (o_eq b.K hr.units) (d_call (ok_lifted g) b.K b.T (hr.mono (by decide)) (by rfl) g.m_lifted g.F_lifted.kp g.b_lifted rfl (yCons_len (yCons_len yNil_len)) (d_cons (d_var (pv 0)) (d_cons (d_var (pv 1)) d_nil))) (d_call (ok_lifted g) b.K b.T (hr.mono (by decide)) (by rfl) g.m_lifted g.F_lifted.kp g.b_lifted rfl (yCons_len (yCons_len yNil_len)) (d_cons (d_var (pv 0)) (d_cons (d_var (pv 2)) d_nil))) (nomark _))))))
def sx_people_of : SX :=
  (sSeq (sSet 1 (xCall gLen (yCons (xV 0) yNil)))
    (sRet (xCall gTupOf (yCons (xL (yLc (iSeq (xV 0)) (setV 2) yesT (x2 gAdd (x2 gMod (x2 gSub (xV 2) (xC (PyData.int 1))) (xV 1)) (xC (PyData.int 1))) [2])) yNil))))
def fn_people_of : FD := fnF 2 sx_people_of
theorem ok_people_of (g : Glob K mg base) : FnK P w K mg base g.T 1 g.a_people_of g.d_people_of ["row"] [] fn_people_of :=
  fn_data (ow := []) g.F_people_of sc_people_of rfl (fun A outer s H E' hr E b =>
    (s_cons (s_set (b.np (by decide : 1 ∉ ([] : List Nat))) sc_people_of.nd rfl (by first | exact Or.inl rfl | exact Or.inr rfl) (d_callB (c_len b.K) (by rfl) g.z_len (by decide +kernel) (d_cons (d_var (pv 0)) d_nil)))
    (s_one (s_ret (d_callT (c_tupOf b.K) (by rfl) g.z_tuple (by decide +kernel) (d_cons (d_L (l_lc (own := [("place", 2)]) (g := gName 2) (st := (setV 2)) (tt := yesT) (te := (x2 gAdd (x2 gMod (x2 gSub (xV 2) (xC (PyData.int 1))) (xV 1)) (xC (PyData.int 1)))) rfl sc_people_of.nd (i_tup b.K (d_var (pv 0))) (blkOk_by (N := ["row", "size", "place"]) (sc := defScope st_people_of) (by decide +kernel)) (fun _ _ _ _ _ => pg_name (i := 2) sc_people_of.nd rfl (by first | exact Or.inl rfl | exact Or.inr rfl)) (fun _ _ => tv_name (by decide) (b.held.np (by decide))) (b.nps (by decide)) (fun _ _ _ _ _ => pts_no) (fun _ _ _ _ _ _ _ => (d_op (o_add b.held.K) (d_op o_mod (d_op o_sub (d_var (pv 2)) d_int) (d_var (pv 1))) d_int)))) d_nil))))))
def sx_same_signs : SX :=
  (sSeq (sExpr (xFn fn_check_two_ring_bells (yCons (xV 0) (yCons (xV 1) (yCons (xV 2) yNil)))))
    (sRet (x2 gEq (xFn fn_people_of (yCons (xFn fn_lifted (yCons (xV 0) (yCons (xV 1) yNil))) yNil)) (xFn fn_people_of (yCons (xFn fn_lifted (yCons (xV 0) (yCons (xV 2) yNil))) yNil)))))
def fn_same_signs : FD := fnF 0 sx_same_signs
theorem ok_same_signs (g : Glob K mg base) : FnK P w K mg base g.T 9 g.a_same_signs g.d_same_signs ["size", "one", "other"] [] fn_same_signs :=
  fn_data (ow := []) g.F_same_signs sc_same_signs rfl (fun A outer s H E' hr E b =>
    (s_cons (s_expr (d_call (ok_check_two_ring_bells g) b.K b.T (hr.mono (by decide)) (by rfl) g.m_check_two_ring_bells g.F_check_two_ring_bells.kp g.b_check_two_ring_bells rfl (yCons_len (yCons_len (yCons_len yNil_len))) (d_cons (d_var (pv 0)) (d_cons (d_var (pv 1)) (d_cons (d_var (pv 2)) d_nil)))))
    (s_one (s_ret (d_cmp (o_eq b.K hr.units) (d_call (ok_people_of g) b.K b.T (hr.mono (by decide)) (by rfl) g.m_people_of g.F_people_of.kp g.b_people_of rfl (yCons_len yNil_len) (d_cons (d_call (ok_lifted g) b.K b.T (hr.mono (by decide)) (by rfl) g.m_lifted g.F_lifted.kp g.b_lifted rfl (yCons_len (yCons_len yNil_len)) (d_cons (d_var (pv 0)) (d_cons (d_var (pv 1)) d_nil))) d_nil)) (d_call (ok_people_of g) b.K b.T (hr.mono (by decide)) (by rfl) g.m_people_of g.F_people_of.kp g.b_people_of rfl (yCons_len yNil_len) (d_cons (d_call (ok_lifted g) b.K b.T (hr.mono (by decide)) (by rfl) g.m_lifted g.F_lifted.kp g.b_lifted rfl (yCons_len (yCons_len yNil_len)) (d_cons (d_var (pv 0)) (d_cons (d_var (pv 2)) d_nil))) d_nil)) (nomark _))))))
def sx_turns_back : SX :=
  (sSeq (sExpr (xFn fn_check_size (yCons (xV 0) yNil)))
    (sSeq (sExpr (xFn fn_check_ring_bells (yCons (xV 0) (yCons (xV 1) yNil))))
    (sRet (xCall gTupOf (yCons (xL (yLc (iEn2 (yCons (xFn fn_lifted (yCons (xV 0) (yCons (xV 1) yNil))) (yCons (xC (PyData.int 1)) yNil))) (setV2 2 3) yesT (x2 gDiv (x2 gSub (xV 2) (xV 3)) (xV 0)) [2, 3])) yNil)))))
def fn_turns_back : FD := fnF 2 sx_turns_back
theorem ok_turns_back (g : Glob K mg base) : FnK P w K mg base g.T 8 g.a_turns_back g.d_turns_back ["size", "bells"] [] fn_turns_back :=
  fn_data (ow := []) g.F_turns_back sc_turns_back rfl (fun A outer s H E' hr E b =>
    (s_cons (s_expr (d_call (ok_check_size g) b.K b.T (hr.mono (by decide)) (by rfl) g.m_check_size g.F_check_size.kp g.b_check_size rfl (yCons_len yNil_len) (d_cons (d_var (pv 0)) d_nil)))
    (s_cons (s_expr (d_call (ok_check_ring_bells g) b.K b.T (hr.mono (by decide)) (by rfl) g.m_check_ring_bells g.F_check_ring_bells.kp g.b_check_ring_bells rfl (yCons_len (yCons_len yNil_len)) (d_cons (d_var (pv 0)) (d_cons (d_var (pv 1)) d_nil))))
    (s_one (s_ret (d_callT (c_tupOf b.K) (by rfl) g.z_tuple (by decide +kernel) (d_cons (d_L (l_lc (own := [("place", 2), ("entry", 3)]) (g := gTup K 2 (gCons (gName 2) (gCons (gName 3) gNil))) (st := (setV2 2 3)) (tt := yesT) (te := (x2 gDiv (x2 gSub (xV 2) (xV 3)) (xV 0))) rfl sc_turns_back.nd (i_en2 b.K (by rfl) g.z_enumerate (d_cons (d_call (ok_lifted g) b.K b.T (hr.mono (by decide)) (by rfl) g.m_lifted g.F_lifted.kp g.b_lifted rfl (yCons_len (yCons_len yNil_len)) (d_cons (d_var (pv 0)) (d_cons (d_var (pv 1)) d_nil))) (d_cons d_int d_nil))) (blkOk_by (N := ["size", "bells", "place", "entry"]) (sc := defScope st_turns_back) (by decide +kernel)) (fun _ _ _ _ _ => pg_tup rfl (pgs_cons (pg_name (i := 2) sc_turns_back.nd rfl (by first | exact Or.inl rfl | exact Or.inr rfl)) (pgs_cons (pg_name (i := 3) sc_turns_back.nd rfl (by first | exact Or.inl rfl | exact Or.inr rfl)) pgs_nil))) (fun _ _ => tv_two b.held.K (by decide) (by decide) (b.held.np (by decide)) (b.held.np (by decide))) (b.nps (by decide)) (fun _ _ _ _ _ => pts_no) (fun _ _ _ _ _ _ _ => (d_op o_div (d_op o_sub (d_var (pv 2)) (d_var (pv 3))) (d_var (pv 0)))))) d_nil)))))))
def sx_ring_winner : SX :=
  (sSeq (sExpr (xFn fn_check_size (yCons (xV 0) yNil)))
    (sSeq (sExpr (xFn fn_check_ring_bells (yCons (xV 0) (yCons (xV 1) yNil))))
    (sSeq (sSet 2 (xFn fn_people_of (yCons (xFn fn_lifted (yCons (xV 0) (yCons (xV 1) yNil))) yNil)))
    (sRet (xIf (xT (x2 gEq (xV 2) (x2 gMul (xSl (xV 2) oNo (oSm (xC (PyData.int 1)))) (xV 0)))) (x2 gIx (xV 2) (xC (PyData.int 0))) (xC PyData.none))))))
def fn_ring_winner : FD := fnF 1 sx_ring_winner
theorem ok_ring_winner (g : Glob K mg base) : FnK P w K mg base g.T 8 g.a_ring_winner g.d_ring_winner ["size", "bells"] [] fn_ring_winner :=
  fn_data (ow := []) g.F_ring_winner sc_ring_winner rfl (fun A outer s H E' hr E b =>
    (s_cons (s_expr (d_call (ok_check_size g) b.K b.T (hr.mono (by decide)) (by rfl) g.m_check_size g.F_check_size.kp g.b_check_size rfl (yCons_len yNil_len) (d_cons (d_var (pv 0)) d_nil)))
    (s_cons (s_expr (d_call (ok_check_ring_bells g) b.K b.T (hr.mono (by decide)) (by rfl) g.m_check_ring_bells g.F_check_ring_bells.kp g.b_check_ring_bells rfl (yCons_len (yCons_len yNil_len)) (d_cons (d_var (pv 0)) (d_cons (d_var (pv 1)) d_nil))))
    (s_cons (s_set (b.np (by decide : 2 ∉ ([] : List Nat))) sc_ring_winner.nd rfl (by first | exact Or.inl rfl | exact Or.inr rfl) (d_call (ok_people_of g) b.K b.T (hr.mono (by decide)) (by rfl) g.m_people_of g.F_people_of.kp g.b_people_of rfl (yCons_len yNil_len) (d_cons (d_call (ok_lifted g) b.K b.T (hr.mono (by decide)) (by rfl) g.m_lifted g.F_lifted.kp g.b_lifted rfl (yCons_len (yCons_len yNil_len)) (d_cons (d_var (pv 0)) (d_cons (d_var (pv 1)) d_nil))) d_nil)))
    (s_one (s_ret (d_if (t_cmp (o_eq b.K hr.units) (d_var (pv 2)) (d_op (o_mul b.K) (d_sl b.K (d_var (pv 2)) p_no (p_sm d_int)) (d_var (pv 0))) (nomark _)) (d_ix b.K (d_var (pv 2)) d_int) d_non)))))))
def sx_law_taken : SX :=
  (sSeq (sIf (xT (x2 gGt (xIxO 0 (xC (PyData.int 3))) (xC (PyData.int 0)))) (sSeq (sSet 2 (x2 gMod (xCall gInt (yCons (xIxO 0 (xC (PyData.int 3))) yNil)) (xV 1)))
    (sSeq (sSetI 0 (xC (PyData.int 3)) (x2 gDiv (xIxO 0 (xC (PyData.int 3))) (xV 1)))
    (sRet (xV 2)))) sNx)
    (sSeq (sSetI 0 (xC (PyData.int 1)) (x2 gAdd (xIxO 0 (xC (PyData.int 1))) (xC (PyData.int 1))))
    (sSeq (sIf (xT (x2 gGt (xIxO 0 (xC (PyData.int 1))) (xCall gLen (yCons (xIxO 0 (xC (PyData.int 0))) yNil)))) (sSeq (sSetI 0 (xC (PyData.int 2)) (x2 gMod (xCall gInt (yCons (x2 gAdd (x2 gMul (xIxO 0 (xC (PyData.int 2))) (xC (PyData.int 48271))) (xC (PyData.int 11))) yNil)) (xC (PyData.int 2147483647))))
    (sRet (x2 gMod (xCall gInt (yCons (x2 gDiv (xIxO 0 (xC (PyData.int 2))) (xC (PyData.int 7))) yNil)) (xV 1)))) sNx)
    (sSeq (sSet 3 (x2 gIx (xIxO 0 (xC (PyData.int 0))) (x2 gSub (xIxO 0 (xC (PyData.int 1))) (xC (PyData.int 1)))))
    (sSeq (sSetI 0 (xC (PyData.int 2)) (x2 gMod (xCall gInt (yCons (x2 gAdd (x2 gAdd (x2 gMul (xIxO 0 (xC (PyData.int 2))) (xC (PyData.int 48271))) (xV 3)) (xC (PyData.int 11))) yNil)) (xC (PyData.int 2147483647))))
    (sSeq (sIf (xT (x2 gGe (xV 3) (x2 gPow (xC (PyData.int 10)) (xC (PyData.int 18))))) (sSetI 0 (xC (PyData.int 3)) (x2 gDiv (xV 3) (xV 1))) sNx)
    (sRet (x2 gMod (xCall gInt (yCons (xV 3) yNil)) (xV 1)))))))))
def fn_law_taken : FD := fnF 2 sx_law_taken
theorem ok_law_taken (g : Glob K mg base) : FnK P w K mg base g.T 1 g.a_law_taken g.d_law_taken ["row", "many"] [0] fn_law_taken :=
  fn_data (ow := [0]) g.F_law_taken sc_law_taken rfl (fun A outer s H E' hr E b =>
    (s_cons (s_if (t_cmp o_gt (d_ixO b.K (pv 0) d_int) d_int (nomark _)) (s_cons (s_set (b.np (by decide : 2 ∉ [0])) sc_law_taken.nd rfl (by first | exact Or.inl rfl | exact Or.inr rfl) (d_op o_mod (d_callT c_int (by rfl) g.z_int (by decide +kernel) (d_cons (d_ixO b.K (pv 0) d_int) d_nil)) (d_var (pv 1))))
    (s_cons (s_setI (pv 0) d_int (d_op o_div (d_ixO b.K (pv 0) d_int) (d_var (pv 1))) (pg_sub (pv 0) d_int set_list))
    (s_one (s_ret (d_var (pv 2)))))) s_nil)
    (s_cons (s_setI (pv 0) d_int (d_op (o_add b.K) (d_ixO b.K (pv 0) d_int) d_int) (pg_sub (pv 0) d_int set_list))
    (s_cons (s_if (t_cmp o_gt (d_ixO b.K (pv 0) d_int) (d_callB (c_len b.K) (by rfl) g.z_len (by decide +kernel) (d_cons (d_ixO b.K (pv 0) d_int) d_nil)) (nomark _)) (s_cons (s_setI (pv 0) d_int (d_op o_mod (d_callT c_int (by rfl) g.z_int (by decide +kernel) (d_cons (d_op (o_add b.K) (d_op (o_mul b.K) (d_ixO b.K (pv 0) d_int) d_int) d_int) d_nil)) d_int) (pg_sub (pv 0) d_int set_list))
    (s_one (s_ret (d_op o_mod (d_callT c_int (by rfl) g.z_int (by decide +kernel) (d_cons (d_op o_div (d_ixO b.K (pv 0) d_int) d_int) d_nil)) (d_var (pv 1)))))) s_nil)
    (s_cons (s_set (b.np (by decide : 3 ∉ [0])) sc_law_taken.nd rfl (by first | exact Or.inl rfl | exact Or.inr rfl) (d_ix b.K (d_ixO b.K (pv 0) d_int) (d_op o_sub (d_ixO b.K (pv 0) d_int) d_int)))
    (s_cons (s_setI (pv 0) d_int (d_op o_mod (d_callT c_int (by rfl) g.z_int (by decide +kernel) (d_cons (d_op (o_add b.K) (d_op (o_add b.K) (d_op (o_mul b.K) (d_ixO b.K (pv 0) d_int) d_int) (d_var (pv 3))) d_int) d_nil)) d_int) (pg_sub (pv 0) d_int set_list))
    (s_cons (s_if (t_cmp o_ge (d_var (pv 3)) (d_op o_pow d_int d_int) (nomark _)) (s_one (s_setI (pv 0) d_int (d_op o_div (d_var (pv 3)) (d_var (pv 1))) (pg_sub (pv 0) d_int set_list))) s_nil)
    (s_one (s_ret (d_op o_mod (d_callT c_int (by rfl) g.z_int (by decide +kernel) (d_cons (d_var (pv 3)) d_nil)) (d_var (pv 1))))))))))))
def sx_law_ring : SX :=
  (sSeq (sParL 3 4 (yLst yNil) (x2 gAdd (xC (PyData.int 1)) (xFnO fn_law_taken 0 (yCons (xV 1) yNil))))
    (sSeq (sSet 5 (xFnO fn_law_taken 0 (yCons (xC (PyData.int 3)) yNil)))
    (sSeq (sFor (iR1 (yCons (xFnO fn_law_taken 0 (yCons (xV 2) yNil)) yNil)) (setV 6) (sSeq (sSet 4 (xIf (yAnd (xT (x2 gGt (xV 5) (xC (PyData.int 0)))) (xT (x2 gGt (xFnO fn_law_taken 0 (yCons (xC (PyData.int 4)) yNil)) (xC (PyData.int 0))))) (x2 gAdd (x2 gMod (xV 4) (xV 1)) (xC (PyData.int 1))) (x2 gAdd (xC (PyData.int 1)) (xFnO fn_law_taken 0 (yCons (xV 1) yNil)))))
    (sApp 3 (xV 4))))
    (sRet (xCall gTupOf (yCons (xF 3) yNil))))))
def fn_law_ring : FD := fnF 4 sx_law_ring
theorem ok_law_ring (g : Glob K mg base) : FnK P w K mg base g.T 2 g.a_law_ring g.d_law_ring ["row", "size", "most"] [0] fn_law_ring :=
  fn_data (ow := [0]) g.F_law_ring sc_law_ring rfl (fun A outer s H E' hr E b =>
    (s_cons (s_parL (b.np (by decide : 3 ∉ [0])) (b.np (by decide : 4 ∉ [0])) rfl sc_law_ring.nd rfl rfl (by decide) (by rfl) (by rfl) (fun E' e1 e2 e3 => (d_op (o_add (b.en e1 e2 e3).K) d_int (d_callO (ok_law_taken g) (b.en e1 e2 e3).K (b.en e1 e2 e3).T (hr.mono (by decide)) (by rfl) g.m_law_taken g.F_law_taken.kp g.b_law_taken (by decide) rfl (yCons_len yNil_len) (pv 0) (d_cons (d_var (pv 1)) d_nil)))) (by rfl))
    (s_cons (s_set (b.np (by decide : 5 ∉ [0])) sc_law_ring.nd rfl (by first | exact Or.inl rfl | exact Or.inr rfl) (d_callO (ok_law_taken g) b.K b.T (hr.mono (by decide)) (by rfl) g.m_law_taken g.F_law_taken.kp g.b_law_taken (by decide) rfl (yCons_len yNil_len) (pv 0) (d_cons d_int d_nil)))
    (s_cons (s_for (g := gName 6) (st := (setV 6)) PassesOwn.never rfl (i_r1 (by rfl) g.z_range (d_cons (d_callO (ok_law_taken g) b.K b.T (hr.mono (by decide)) (by rfl) g.m_law_taken g.F_law_taken.kp g.b_law_taken (by decide) rfl (yCons_len yNil_len) (pv 0) (d_cons (d_var (pv 2)) d_nil)) d_nil)) (pg_name (i := 6) sc_law_ring.nd rfl (by first | exact Or.inl rfl | exact Or.inr rfl)) (tg_name (b.np (by decide : 6 ∉ [0]))) (s_cons (s_set (b.np (by decide : 4 ∉ [0])) sc_law_ring.nd rfl (by first | exact Or.inl rfl | exact Or.inr rfl) (d_if (PW.pt (w_and (t_cmp o_gt (d_var (pv 5)) d_int (nomark _)) (w_and1 (t_cmp o_gt (d_callO (ok_law_taken g) b.K b.T (hr.mono (by decide)) (by rfl) g.m_law_taken g.F_law_taken.kp g.b_law_taken (by decide) rfl (yCons_len yNil_len) (pv 0) (d_cons d_int d_nil)) d_int (nomark _))))) (d_op (o_add b.K) (d_op o_mod (d_var (pv 4)) (d_var (pv 1))) d_int) (d_op (o_add b.K) d_int (d_callO (ok_law_taken g) b.K b.T (hr.mono (by decide)) (by rfl) g.m_law_taken g.F_law_taken.kp g.b_law_taken (by decide) rfl (yCons_len yNil_len) (pv 0) (d_cons (d_var (pv 1)) d_nil)))))
    (s_one (s_app (pv 3) (d_var (pv 4)) (pe_bm PySem.F.plainAttrs_list PySem.F.slot_list_append PySem.F.type_list_append mt_append (pv 3) (pa_cons (d_var (pv 4)) pa_nil))))))
    (s_one (s_ret (d_callT (c_tupOf b.K) (by rfl) g.z_tuple (by decide +kernel) (d_cons (d_frz (pv 3) (b.np (by decide : 3 ∉ [0]))) d_nil))))))))
def sx_law_s0 : SX :=
  (sSetL 1 (yLst (yCons (xV 0) (yCons (xC (PyData.int 0)) (yCons (xC (PyData.int 8072)) (yCons (xC (PyData.int 0)) yNil))))))
def sx_law_s1 : SX :=
  (sSet 2 (x2 gAddA (xC (PyData.int 2)) (xFnO fn_law_taken 1 (yCons (xC (PyData.int 6)) yNil))))
def sx_law_s2 : SX :=
  (sSet 3 (xFnO fn_law_ring 1 (yCons (xV 2) (yCons (xC (PyData.int 20)) yNil))))
def sx_law_s3 : SX :=
  (sPar 4 5 (yCons (xFn fn_lift (yCons (xV 2) (yCons (xV 3) yNil))) (yCons (xCall gTupOf (yCons (xL (yLc (iR1 (yCons (xV 2) yNil)) (setV 10) yesT (x2 gAddA (xV 10) (xC (PyData.int 1))) [10])) yNil)) yNil)))
def sx_law_s4 : SX :=
  (sSet 6 (xFn fn_lift (yCons (xV 2) (yCons (xV 5) yNil))))
def sx_law_s5 : SX :=
  (sIf (yOr (xT (x2 gNe (xV 6) (x2 gMulA (xTup (yCons (xC (PyData.int 0)) yNil)) (xV 2)))) (yOr (xT (x2 gNe (xFn fn_lift_count (yCons (xV 6) yNil)) (xV 2))) (xT (x2 gNe (xFn fn_ring_winner (yCons (xV 2) (yCons (xV 5) yNil))) (xV 2))))) (sRet (xC (PyData.bool false))) sNx)
def sx_law_s6 : SX :=
  (sSet 7 (x2 gAddA (xC (PyData.int 1)) (xFnO fn_law_taken 1 (yCons (xC (PyData.int 6)) yNil))))
def sx_law_s7 : SX :=
  (sIf (yOr (xT (x2 gNe (xFn fn_lift (yCons (xV 2) (yCons (x2 gMulA (xV 5) (xV 7)) yNil))) (x2 gMulA (xTup (yCons (x2 gSub (xC (PyData.int 0)) (x2 gMulA (xV 2) (x2 gSub (xV 7) (xC (PyData.int 1))))) yNil)) (xV 2)))) (xT (x2 gNe (xFn fn_turns_back (yCons (xV 2) (yCons (x2 gMulA (xV 5) (xV 7)) yNil))) (xCall gTupOf (yCons (xL (yLc (iR1 (yCons (xV 2) yNil)) (setV 10) yesT (x2 gDiv (x2 gAddA (x2 gAddA (xV 10) (xC (PyData.int 1))) (x2 gMulA (xV 2) (x2 gSub (xV 7) (xC (PyData.int 1))))) (xV 2)) [10])) yNil))))) (sRet (xC (PyData.bool false))) sNx)
def sx_law_s8 : SX :=
  (sIf (yOr (xT (x2 gIsNot (xFn fn_same_signs (yCons (xV 2) (yCons (xV 5) (yCons (x2 gMulA (xV 5) (xV 7)) yNil)))) (xC (PyData.bool true)))) (xT (x2 gIsNot (xFn fn_same_in_ring (yCons (xV 2) (yCons (xV 5) (yCons (x2 gMulA (xV 5) (xC (PyData.int 2))) yNil)))) (xC (PyData.bool false))))) (sRet (xC (PyData.bool false))) sNx)
def sx_law_s9 : SX :=
  (sIf (yOr (xT (x2 gNe (xFn fn_lift_after (yCons (xV 4) (yCons (xV 6) yNil))) (x2 gMulA (xTup (yCons (x2 gSub (x2 gIx (xV 4) (x1 gNeg (xC (PyData.int 1)))) (xV 2)) yNil)) (xV 2)))) (xT (x2 gNe (xFn fn_lift_after (yCons (xV 6) (yCons (xV 4) yNil))) (xFn fn_lift (yCons (xV 2) (yCons (x2 gAddA (xV 5) (xV 3)) yNil)))))) (sRet (xC (PyData.bool false))) sNx)
def sx_law_s10 : SX :=
  (sSet 8 (xFn fn_turns_back (yCons (xV 2) (yCons (xV 3) yNil))))
def sx_law_s11 : SX :=
  (sIf (yOr (xT (x2 gNe (xL (yLc (iR1 (yCons (xV 2) yNil)) (setV 10) (xT (x2 gLt (x2 gIx (xV 8) (xV 10)) (xC (PyData.int 0)))) (xV 10) [10])) (xLst yNil))) (xT (x2 gGt (x2 gSub (xCall (gBestA PySem.W.maxD) (yCons (xV 8) yNil)) (xCall (gBestA PySem.W.minD) (yCons (xV 8) yNil))) (xC (PyData.int 1))))) (sRet (xC (PyData.bool false))) sNx)
def sx_law_s12 : SX :=
  (sSet 9 (xFn fn_ring_winner (yCons (xV 2) (yCons (xV 3) yNil))))
def sx_law_s13 : SX :=
  (sIf (yAnd (xT (x2 gIsNot (xV 9) (xC PyData.none))) (xT (x2 gNe (xLenSetL (xL (yLc (iAny (xV 4)) (setV 11) yesT (x2 gMod (x2 gSub (xV 11) (xV 9)) (xV 2)) [11]))) (xC (PyData.int 1))))) (sRet (xC (PyData.bool false))) sNx)
def sx_law_s14 : SX :=
  (sRet (x2 gLe (xFn fn_lift_count (yCons (xFn fn_lift (yCons (xV 2) (yCons (x2 gAddA (xV 3) (xV 5)) yNil))) yNil)) (x2 gAddA (xFn fn_lift_count (yCons (xV 4) yNil)) (xV 2))))
def sx_law_T14 : SX := sx_law_s14
def sx_law_T13 : SX := sSeq sx_law_s13 sx_law_T14
def sx_law_T12 : SX := sSeq sx_law_s12 sx_law_T13
def sx_law_T11 : SX := sSeq sx_law_s11 sx_law_T12
def sx_law_T10 : SX := sSeq sx_law_s10 sx_law_T11
def sx_law_T9 : SX := sSeq sx_law_s9 sx_law_T10
def sx_law_T8 : SX := sSeq sx_law_s8 sx_law_T9
def sx_law_T7 : SX := sSeq sx_law_s7 sx_law_T8
def sx_law_T6 : SX := sSeq sx_law_s6 sx_law_T7
def sx_law_T5 : SX := sSeq sx_law_s5 sx_law_T6
def sx_law_T4 : SX := sSeq sx_law_s4 sx_law_T5
def sx_law_T3 : SX := sSeq sx_law_s3 sx_law_T4
def sx_law_T2 : SX := sSeq sx_law_s2 sx_law_T3
def sx_law_T1 : SX := sSeq sx_law_s1 sx_law_T2
def sx_law_T0 : SX := sSeq sx_law_s0 sx_law_T1
theorem okl_0 (g : Glob K mg base) {A : Around} {outer : List Env} {s : Shared} {H : Hp} {E' : XK} (hr : Room 12 (A.deeper (envOfC "law" (defScope st_law) s.heap.objs.size g.a_law g.c_law))) (E : En) (b : Bx (cxOf CX0 P w K mg base ["script", "row", "size", "bells", "found", "turn", "once", "many", "back", "winner", "k", "place"] "law" (defScope st_law) g.a_law g.c_law A outer s H E').nox E g.T []) : PS (cxOf CX0 P w K mg base ["script", "row", "size", "bells", "found", "turn", "once", "many", "back", "winner", "k", "place"] "law" (defScope st_law) g.a_law g.c_law A outer s H E').nox ((defBody st_law).getD 0 (.Pass ⟨0, 0, 0, 0⟩)) (upS E sx_law_s0) := by
  unfold sx_law_s0
  exact (s_setL (b.np (by decide : 1 ∉ ([] : List Nat))) sc_law.nd rfl (by first | exact Or.inl rfl | exact Or.inr rfl) (l_lst (d_cons (d_var (pv 0)) (d_cons d_int (d_cons d_int (d_cons d_int d_nil))))))
theorem okl_1 (g : Glob K mg base) {A : Around} {outer : List Env} {s : Shared} {H : Hp} {E' : XK} (hr : Room 12 (A.deeper (envOfC "law" (defScope st_law) s.heap.objs.size g.a_law g.c_law))) (E : En) (b : Bx (cxOf CX0 P w K mg base ["script", "row", "size", "bells", "found", "turn", "once", "many", "back", "winner", "k", "place"] "law" (defScope st_law) g.a_law g.c_law A outer s H E').nox E g.T []) : PS (cxOf CX0 P w K mg base ["script", "row", "size", "bells", "found", "turn", "once", "many", "back", "winner", "k", "place"] "law" (defScope st_law) g.a_law g.c_law A outer s H E').nox ((defBody st_law).getD 1 (.Pass ⟨0, 0, 0, 0⟩)) (upS E sx_law_s1) := by
  unfold sx_law_s1
  exact (s_set (b.np (by decide : 2 ∉ ([] : List Nat))) sc_law.nd rfl (by first | exact Or.inl rfl | exact Or.inr rfl) (d_op (o_addA b.K) d_int (d_callO (ok_law_taken g) b.K b.T (hr.mono (by decide)) (by rfl) g.m_law_taken g.F_law_taken.kp g.b_law_taken (by decide) rfl (yCons_len yNil_len) (pv 1) (d_cons d_int d_nil))))
theorem okl_2 (g : Glob K mg base) {A : Around} {outer : List Env} {s : Shared} {H : Hp} {E' : XK} (hr : Room 12 (A.deeper (envOfC "law" (defScope st_law) s.heap.objs.size g.a_law g.c_law))) (E : En) (b : Bx (cxOf CX0 P w K mg base ["script", "row", "size", "bells", "found", "turn", "once", "many", "back", "winner", "k", "place"] "law" (defScope st_law) g.a_law g.c_law A outer s H E').nox E g.T []) : PS (cxOf CX0 P w K mg base ["script", "row", "size", "bells", "found", "turn", "once", "many", "back", "winner", "k", "place"] "law" (defScope st_law) g.a_law g.c_law A outer s H E').nox ((defBody st_law).getD 2 (.Pass ⟨0, 0, 0, 0⟩)) (upS E sx_law_s2) := by
  unfold sx_law_s2
  exact (s_set (b.np (by decide : 3 ∉ ([] : List Nat))) sc_law.nd rfl (by first | exact Or.inl rfl | exact Or.inr rfl) (d_callO (ok_law_ring g) b.K b.T (hr.mono (by decide)) (by rfl) g.m_law_ring g.F_law_ring.kp g.b_law_ring (by decide) rfl (yCons_len (yCons_len yNil_len)) (pv 1) (d_cons (d_var (pv 2)) (d_cons d_int d_nil))))
theorem okl_3 (g : Glob K mg base) {A : Around} {outer : List Env} {s : Shared} {H : Hp} {E' : XK} (hr : Room 12 (A.deeper (envOfC "law" (defScope st_law) s.heap.objs.size g.a_law g.c_law))) (E : En) (b : Bx (cxOf CX0 P w K mg base ["script", "row", "size", "bells", "found", "turn", "once", "many", "back", "winner", "k", "place"] "law" (defScope st_law) g.a_law g.c_law A outer s H E').nox E g.T []) : PS (cxOf CX0 P w K mg base ["script", "row", "size", "bells", "found", "turn", "once", "many", "back", "winner", "k", "place"] "law" (defScope st_law) g.a_law g.c_law A outer s H E').nox ((defBody st_law).getD 3 (.Pass ⟨0, 0, 0, 0⟩)) (upS E sx_law_s3) := by
  unfold sx_law_s3
  exact (s_par (b.np (by decide : 4 ∉ ([] : List Nat))) (b.np (by decide : 5 ∉ ([] : List Nat))) rfl sc_law.nd rfl rfl (by decide) (by rfl) (by rfl) (d_cons (d_call (ok_lift g) b.K b.T (hr.mono (by decide)) (by rfl) g.m_lift g.F_lift.kp g.b_lift rfl (yCons_len (yCons_len yNil_len)) (d_cons (d_var (pv 2)) (d_cons (d_var (pv 3)) d_nil))) (d_cons (d_callT (c_tupOf b.K) (by rfl) g.z_tuple (by decide +kernel) (d_cons (d_L (l_lc (own := [("k", 10)]) (g := gName 10) (st := (setV 10)) (tt := yesT) (te := (x2 gAddA (xV 10) (xC (PyData.int 1)))) rfl sc_law.nd (i_r1 (by rfl) g.z_range (d_cons (d_var (pv 2)) d_nil)) (blkOk_by (N := ["script", "row", "size", "bells", "found", "turn", "once", "many", "back", "winner", "k", "place"]) (sc := defScope st_law) (by decide +kernel)) (fun _ _ _ _ _ => pg_name (i := 10) sc_law.nd rfl (by first | exact Or.inl rfl | exact Or.inr rfl)) (fun _ _ => tv_name (by decide) (b.held.np (by decide))) (b.nps (by decide)) (fun _ _ _ _ _ => pts_no) (fun _ _ _ _ _ _ _ => (d_op (o_addA b.held.K) (d_var (pv 10)) d_int)))) d_nil)) d_nil)) (by rfl))
theorem okl_4 (g : Glob K mg base) {A : Around} {outer : List Env} {s : Shared} {H : Hp} {E' : XK} (hr : Room 12 (A.deeper (envOfC "law" (defScope st_law) s.heap.objs.size g.a_law g.c_law))) (E : En) (b : Bx (cxOf CX0 P w K mg base ["script", "row", "size", "bells", "found", "turn", "once", "many", "back", "winner", "k", "place"] "law" (defScope st_law) g.a_law g.c_law A outer s H E').nox E g.T []) : PS (cxOf CX0 P w K mg base ["script", "row", "size", "bells", "found", "turn", "once", "many", "back", "winner", "k", "place"] "law" (defScope st_law) g.a_law g.c_law A outer s H E').nox ((defBody st_law).getD 4 (.Pass ⟨0, 0, 0, 0⟩)) (upS E sx_law_s4) := by
  unfold sx_law_s4
  exact (s_set (b.np (by decide : 6 ∉ ([] : List Nat))) sc_law.nd rfl (by first | exact Or.inl rfl | exact Or.inr rfl) (d_call (ok_lift g) b.K b.T (hr.mono (by decide)) (by rfl) g.m_lift g.F_lift.kp g.b_lift rfl (yCons_len (yCons_len yNil_len)) (d_cons (d_var (pv 2)) (d_cons (d_var (pv 5)) d_nil))))
theorem okl_5 (g : Glob K mg base) {A : Around} {outer : List Env} {s : Shared} {H : Hp} {E' : XK} (hr : Room 12 (A.deeper (envOfC "law" (defScope st_law) s.heap.objs.size g.a_law g.c_law))) (E : En) (b : Bx (cxOf CX0 P w K mg base ["script", "row", "size", "bells", "found", "turn", "once", "many", "back", "winner", "k", "place"] "law" (defScope st_law) g.a_law g.c_law A outer s H E').nox E g.T []) : PS (cxOf CX0 P w K mg base ["script", "row", "size", "bells", "found", "turn", "once", "many", "back", "winner", "k", "place"] "law" (defScope st_law) g.a_law g.c_law A outer s H E').nox ((defBody st_law).getD 5 (.Pass ⟨0, 0, 0, 0⟩)) (upS E sx_law_s5) := by
  unfold sx_law_s5
  exact (s_if (PW.pt (w_or (t_cmp (o_ne b.K hr.units) (d_var (pv 6)) (d_op (o_mulA b.K) (d_tup (d_cons d_int d_nil)) (d_var (pv 2))) (nomark _)) (w_or (t_cmp (o_ne b.K hr.units) (d_call (ok_lift_count g) b.K b.T (hr.mono (by decide)) (by rfl) g.m_lift_count g.F_lift_count.kp g.b_lift_count rfl (yCons_len yNil_len) (d_cons (d_var (pv 6)) d_nil)) (d_var (pv 2)) (nomark _)) (w_or1 (t_cmp (o_ne b.K hr.units) (d_call (ok_ring_winner g) b.K b.T (hr.mono (by decide)) (by rfl) g.m_ring_winner g.F_ring_winner.kp g.b_ring_winner rfl (yCons_len (yCons_len yNil_len)) (d_cons (d_var (pv 2)) (d_cons (d_var (pv 5)) d_nil))) (d_var (pv 2)) (nomark _)))))) (s_one (s_ret d_bl)) s_nil)
theorem okl_6 (g : Glob K mg base) {A : Around} {outer : List Env} {s : Shared} {H : Hp} {E' : XK} (hr : Room 12 (A.deeper (envOfC "law" (defScope st_law) s.heap.objs.size g.a_law g.c_law))) (E : En) (b : Bx (cxOf CX0 P w K mg base ["script", "row", "size", "bells", "found", "turn", "once", "many", "back", "winner", "k", "place"] "law" (defScope st_law) g.a_law g.c_law A outer s H E').nox E g.T []) : PS (cxOf CX0 P w K mg base ["script", "row", "size", "bells", "found", "turn", "once", "many", "back", "winner", "k", "place"] "law" (defScope st_law) g.a_law g.c_law A outer s H E').nox ((defBody st_law).getD 6 (.Pass ⟨0, 0, 0, 0⟩)) (upS E sx_law_s6) := by
  unfold sx_law_s6
  exact (s_set (b.np (by decide : 7 ∉ ([] : List Nat))) sc_law.nd rfl (by first | exact Or.inl rfl | exact Or.inr rfl) (d_op (o_addA b.K) d_int (d_callO (ok_law_taken g) b.K b.T (hr.mono (by decide)) (by rfl) g.m_law_taken g.F_law_taken.kp g.b_law_taken (by decide) rfl (yCons_len yNil_len) (pv 1) (d_cons d_int d_nil))))
theorem okl_7 (g : Glob K mg base) {A : Around} {outer : List Env} {s : Shared} {H : Hp} {E' : XK} (hr : Room 12 (A.deeper (envOfC "law" (defScope st_law) s.heap.objs.size g.a_law g.c_law))) (E : En) (b : Bx (cxOf CX0 P w K mg base ["script", "row", "size", "bells", "found", "turn", "once", "many", "back", "winner", "k", "place"] "law" (defScope st_law) g.a_law g.c_law A outer s H E').nox E g.T []) : PS (cxOf CX0 P w K mg base ["script", "row", "size", "bells", "found", "turn", "once", "many", "back", "winner", "k", "place"] "law" (defScope st_law) g.a_law g.c_law A outer s H E').nox ((defBody st_law).getD 7 (.Pass ⟨0, 0, 0, 0⟩)) (upS E sx_law_s7) := by
  unfold sx_law_s7
  exact (s_if (PW.pt (w_or (t_cmp (o_ne b.K hr.units) (d_call (ok_lift g) b.K b.T (hr.mono (by decide)) (by rfl) g.m_lift g.F_lift.kp g.b_lift rfl (yCons_len (yCons_len yNil_len)) (d_cons (d_var (pv 2)) (d_cons (d_op (o_mulA b.K) (d_var (pv 5)) (d_var (pv 7))) d_nil))) (d_op (o_mulA b.K) (d_tup (d_cons (d_op o_sub d_int (d_op (o_mulA b.K) (d_var (pv 2)) (d_op o_sub (d_var (pv 7)) d_int))) d_nil)) (d_var (pv 2))) (nomark _)) (w_or1 (t_cmp (o_ne b.K hr.units) (d_call (ok_turns_back g) b.K b.T (hr.mono (by decide)) (by rfl) g.m_turns_back g.F_turns_back.kp g.b_turns_back rfl (yCons_len (yCons_len yNil_len)) (d_cons (d_var (pv 2)) (d_cons (d_op (o_mulA b.K) (d_var (pv 5)) (d_var (pv 7))) d_nil))) (d_callT (c_tupOf b.K) (by rfl) g.z_tuple (by decide +kernel) (d_cons (d_L (l_lc (own := [("k", 10)]) (g := gName 10) (st := (setV 10)) (tt := yesT) (te := (x2 gDiv (x2 gAddA (x2 gAddA (xV 10) (xC (PyData.int 1))) (x2 gMulA (xV 2) (x2 gSub (xV 7) (xC (PyData.int 1))))) (xV 2))) rfl sc_law.nd (i_r1 (by rfl) g.z_range (d_cons (d_var (pv 2)) d_nil)) (blkOk_by (N := ["script", "row", "size", "bells", "found", "turn", "once", "many", "back", "winner", "k", "place"]) (sc := defScope st_law) (by decide +kernel)) (fun _ _ _ _ _ => pg_name (i := 10) sc_law.nd rfl (by first | exact Or.inl rfl | exact Or.inr rfl)) (fun _ _ => tv_name (by decide) (b.held.np (by decide))) (b.nps (by decide)) (fun _ _ _ _ _ => pts_no) (fun _ _ _ _ _ _ _ => (d_op o_div (d_op (o_addA b.held.K) (d_op (o_addA b.held.K) (d_var (pv 10)) d_int) (d_op (o_mulA b.held.K) (d_var (pv 2)) (d_op o_sub (d_var (pv 7)) d_int))) (d_var (pv 2)))))) d_nil)) (nomark _))))) (s_one (s_ret d_bl)) s_nil)
theorem okl_8 (g : Glob K mg base) {A : Around} {outer : List Env} {s : Shared} {H : Hp} {E' : XK} (hr : Room 12 (A.deeper (envOfC "law" (defScope st_law) s.heap.objs.size g.a_law g.c_law))) (E : En) (b : Bx (cxOf CX0 P w K mg base ["script", "row", "size", "bells", "found", "turn", "once", "many", "back", "winner", "k", "place"] "law" (defScope st_law) g.a_law g.c_law A outer s H E').nox E g.T []) : PS (cxOf CX0 P w K mg base ["script", "row", "size", "bells", "found", "turn", "once", "many", "back", "winner", "k", "place"] "law" (defScope st_law) g.a_law g.c_law A outer s H E').nox ((defBody st_law).getD 8 (.Pass ⟨0, 0, 0, 0⟩)) (upS E sx_law_s8) := by
  unfold sx_law_s8
  exact (s_if (PW.pt (w_or (t_cmp o_isNot (d_call (ok_same_signs g) b.K b.T (hr.mono (by decide)) (by rfl) g.m_same_signs g.F_same_signs.kp g.b_same_signs rfl (yCons_len (yCons_len (yCons_len yNil_len))) (d_cons (d_var (pv 2)) (d_cons (d_var (pv 5)) (d_cons (d_op (o_mulA b.K) (d_var (pv 5)) (d_var (pv 7))) d_nil)))) d_bl (nomark _)) (w_or1 (t_cmp o_isNot (d_call (ok_same_in_ring g) b.K b.T (hr.mono (by decide)) (by rfl) g.m_same_in_ring g.F_same_in_ring.kp g.b_same_in_ring rfl (yCons_len (yCons_len (yCons_len yNil_len))) (d_cons (d_var (pv 2)) (d_cons (d_var (pv 5)) (d_cons (d_op (o_mulA b.K) (d_var (pv 5)) d_int) d_nil)))) d_bl (nomark _))))) (s_one (s_ret d_bl)) s_nil)
theorem okl_9 (g : Glob K mg base) {A : Around} {outer : List Env} {s : Shared} {H : Hp} {E' : XK} (hr : Room 12 (A.deeper (envOfC "law" (defScope st_law) s.heap.objs.size g.a_law g.c_law))) (E : En) (b : Bx (cxOf CX0 P w K mg base ["script", "row", "size", "bells", "found", "turn", "once", "many", "back", "winner", "k", "place"] "law" (defScope st_law) g.a_law g.c_law A outer s H E').nox E g.T []) : PS (cxOf CX0 P w K mg base ["script", "row", "size", "bells", "found", "turn", "once", "many", "back", "winner", "k", "place"] "law" (defScope st_law) g.a_law g.c_law A outer s H E').nox ((defBody st_law).getD 9 (.Pass ⟨0, 0, 0, 0⟩)) (upS E sx_law_s9) := by
  unfold sx_law_s9
  exact (s_if (PW.pt (w_or (t_cmp (o_ne b.K hr.units) (d_call (ok_lift_after g) b.K b.T (hr.mono (by decide)) (by rfl) g.m_lift_after g.F_lift_after.kp g.b_lift_after rfl (yCons_len (yCons_len yNil_len)) (d_cons (d_var (pv 4)) (d_cons (d_var (pv 6)) d_nil))) (d_op (o_mulA b.K) (d_tup (d_cons (d_op o_sub (d_ix b.K (d_var (pv 4)) (d_neg d_int)) (d_var (pv 2))) d_nil)) (d_var (pv 2))) (nomark _)) (w_or1 (t_cmp (o_ne b.K hr.units) (d_call (ok_lift_after g) b.K b.T (hr.mono (by decide)) (by rfl) g.m_lift_after g.F_lift_after.kp g.b_lift_after rfl (yCons_len (yCons_len yNil_len)) (d_cons (d_var (pv 6)) (d_cons (d_var (pv 4)) d_nil))) (d_call (ok_lift g) b.K b.T (hr.mono (by decide)) (by rfl) g.m_lift g.F_lift.kp g.b_lift rfl (yCons_len (yCons_len yNil_len)) (d_cons (d_var (pv 2)) (d_cons (d_op (o_addA b.K) (d_var (pv 5)) (d_var (pv 3))) d_nil))) (nomark _))))) (s_one (s_ret d_bl)) s_nil)
theorem okl_10 (g : Glob K mg base) {A : Around} {outer : List Env} {s : Shared} {H : Hp} {E' : XK} (hr : Room 12 (A.deeper (envOfC "law" (defScope st_law) s.heap.objs.size g.a_law g.c_law))) (E : En) (b : Bx (cxOf CX0 P w K mg base ["script", "row", "size", "bells", "found", "turn", "once", "many", "back", "winner", "k", "place"] "law" (defScope st_law) g.a_law g.c_law A outer s H E').nox E g.T []) : PS (cxOf CX0 P w K mg base ["script", "row", "size", "bells", "found", "turn", "once", "many", "back", "winner", "k", "place"] "law" (defScope st_law) g.a_law g.c_law A outer s H E').nox ((defBody st_law).getD 10 (.Pass ⟨0, 0, 0, 0⟩)) (upS E sx_law_s10) := by
  unfold sx_law_s10
  exact (s_set (b.np (by decide : 8 ∉ ([] : List Nat))) sc_law.nd rfl (by first | exact Or.inl rfl | exact Or.inr rfl) (d_call (ok_turns_back g) b.K b.T (hr.mono (by decide)) (by rfl) g.m_turns_back g.F_turns_back.kp g.b_turns_back rfl (yCons_len (yCons_len yNil_len)) (d_cons (d_var (pv 2)) (d_cons (d_var (pv 3)) d_nil))))
theorem okl_11 (g : Glob K mg base) {A : Around} {outer : List Env} {s : Shared} {H : Hp} {E' : XK} (hr : Room 12 (A.deeper (envOfC "law" (defScope st_law) s.heap.objs.size g.a_law g.c_law))) (E : En) (b : Bx (cxOf CX0 P w K mg base ["script", "row", "size", "bells", "found", "turn", "once", "many", "back", "winner", "k", "place"] "law" (defScope st_law) g.a_law g.c_law A outer s H E').nox E g.T []) : PS (cxOf CX0 P w K mg base ["script", "row", "size", "bells", "found", "turn", "once", "many", "back", "winner", "k", "place"] "law" (defScope st_law) g.a_law g.c_law A outer s H E').nox ((defBody st_law).getD 11 (.Pass ⟨0, 0, 0, 0⟩)) (upS E sx_law_s11) := by
  unfold sx_law_s11
  exact (s_if (PW.pt (w_or (t_cmp (o_ne b.K hr.units) (d_L (l_lc (own := [("k", 10)]) (g := gName 10) (st := (setV 10)) (tt := (xT (x2 gLt (x2 gIx (xV 8) (xV 10)) (xC (PyData.int 0))))) (te := (xV 10)) rfl sc_law.nd (i_r1 (by rfl) g.z_range (d_cons (d_var (pv 2)) d_nil)) (blkOk_by (N := ["script", "row", "size", "bells", "found", "turn", "once", "many", "back", "winner", "k", "place"]) (sc := defScope st_law) (by decide +kernel)) (fun _ _ _ _ _ => pg_name (i := 10) sc_law.nd rfl (by first | exact Or.inl rfl | exact Or.inr rfl)) (fun _ _ => tv_name (by decide) (b.held.np (by decide))) (b.nps (by decide)) (fun _ _ _ _ _ => pts_H fun _ _ => (t_cmp o_lt (d_ix b.held.K (d_var (pv 8)) (d_var (pv 10))) d_int (nomark _))) (fun _ _ _ _ _ _ _ => (d_var (pv 10))))) (d_lst d_nil) (nomark _)) (w_or1 (t_cmp o_gt (d_op o_sub (d_callB (c_bestA b.K (cr_maxD rfl hr.units) (cr_maxT rfl hr.units)) (by rfl) g.z_max (by decide +kernel) (d_cons (d_var (pv 8)) d_nil)) (d_callB (c_bestA b.K (cr_minD rfl hr.units) (cr_minT rfl hr.units)) (by rfl) g.z_min (by decide +kernel) (d_cons (d_var (pv 8)) d_nil))) d_int (nomark _))))) (s_one (s_ret d_bl)) s_nil)
theorem okl_12 (g : Glob K mg base) {A : Around} {outer : List Env} {s : Shared} {H : Hp} {E' : XK} (hr : Room 12 (A.deeper (envOfC "law" (defScope st_law) s.heap.objs.size g.a_law g.c_law))) (E : En) (b : Bx (cxOf CX0 P w K mg base ["script", "row", "size", "bells", "found", "turn", "once", "many", "back", "winner", "k", "place"] "law" (defScope st_law) g.a_law g.c_law A outer s H E').nox E g.T []) : PS (cxOf CX0 P w K mg base ["script", "row", "size", "bells", "found", "turn", "once", "many", "back", "winner", "k", "place"] "law" (defScope st_law) g.a_law g.c_law A outer s H E').nox ((defBody st_law).getD 12 (.Pass ⟨0, 0, 0, 0⟩)) (upS E sx_law_s12) := by
  unfold sx_law_s12
  exact (s_set (b.np (by decide : 9 ∉ ([] : List Nat))) sc_law.nd rfl (by first | exact Or.inl rfl | exact Or.inr rfl) (d_call (ok_ring_winner g) b.K b.T (hr.mono (by decide)) (by rfl) g.m_ring_winner g.F_ring_winner.kp g.b_ring_winner rfl (yCons_len (yCons_len yNil_len)) (d_cons (d_var (pv 2)) (d_cons (d_var (pv 3)) d_nil))))
theorem okl_13 (g : Glob K mg base) {A : Around} {outer : List Env} {s : Shared} {H : Hp} {E' : XK} (hr : Room 12 (A.deeper (envOfC "law" (defScope st_law) s.heap.objs.size g.a_law g.c_law))) (E : En) (b : Bx (cxOf CX0 P w K mg base ["script", "row", "size", "bells", "found", "turn", "once", "many", "back", "winner", "k", "place"] "law" (defScope st_law) g.a_law g.c_law A outer s H E').nox E g.T []) : PS (cxOf CX0 P w K mg base ["script", "row", "size", "bells", "found", "turn", "once", "many", "back", "winner", "k", "place"] "law" (defScope st_law) g.a_law g.c_law A outer s H E').nox ((defBody st_law).getD 13 (.Pass ⟨0, 0, 0, 0⟩)) (upS E sx_law_s13) := by
  unfold sx_law_s13
  exact (s_if (PW.pt (w_and (t_cmp o_isNot (d_var (pv 9)) d_non (nomark _)) (w_and1 (t_cmp (o_ne b.K hr.units) (d_lenSetL b.K rfl (by rfl) g.z_len (by rfl) g.z_set (d_L (l_lc (own := [("place", 11)]) (g := gName 11) (st := (setV 11)) (tt := yesT) (te := (x2 gMod (x2 gSub (xV 11) (xV 9)) (xV 2))) rfl sc_law.nd (i_any b.K (d_var (pv 4))) (blkOk_by (N := ["script", "row", "size", "bells", "found", "turn", "once", "many", "back", "winner", "k", "place"]) (sc := defScope st_law) (by decide +kernel)) (fun _ _ _ _ _ => pg_name (i := 11) sc_law.nd rfl (by first | exact Or.inl rfl | exact Or.inr rfl)) (fun _ _ => tv_name (by decide) (b.held.np (by decide))) (b.nps (by decide)) (fun _ _ _ _ _ => pts_no) (fun _ _ _ _ _ _ _ => (d_op o_mod (d_op o_sub (d_var (pv 11)) (d_var (pv 9))) (d_var (pv 2))))))) d_int (nomark _))))) (s_one (s_ret d_bl)) s_nil)
theorem okl_14 (g : Glob K mg base) {A : Around} {outer : List Env} {s : Shared} {H : Hp} {E' : XK} (hr : Room 12 (A.deeper (envOfC "law" (defScope st_law) s.heap.objs.size g.a_law g.c_law))) (E : En) (b : Bx (cxOf CX0 P w K mg base ["script", "row", "size", "bells", "found", "turn", "once", "many", "back", "winner", "k", "place"] "law" (defScope st_law) g.a_law g.c_law A outer s H E').nox E g.T []) : PS (cxOf CX0 P w K mg base ["script", "row", "size", "bells", "found", "turn", "once", "many", "back", "winner", "k", "place"] "law" (defScope st_law) g.a_law g.c_law A outer s H E').nox ((defBody st_law).getD 14 (.Pass ⟨0, 0, 0, 0⟩)) (upS E sx_law_s14) := by
  unfold sx_law_s14
  exact (s_ret (d_cmp o_le (d_call (ok_lift_count g) b.K b.T (hr.mono (by decide)) (by rfl) g.m_lift_count g.F_lift_count.kp g.b_lift_count rfl (yCons_len yNil_len) (d_cons (d_call (ok_lift g) b.K b.T (hr.mono (by decide)) (by rfl) g.m_lift g.F_lift.kp g.b_lift rfl (yCons_len (yCons_len yNil_len)) (d_cons (d_var (pv 2)) (d_cons (d_op (o_addA b.K) (d_var (pv 3)) (d_var (pv 5))) d_nil))) d_nil)) (d_op (o_addA b.K) (d_call (ok_lift_count g) b.K b.T (hr.mono (by decide)) (by rfl) g.m_lift_count g.F_lift_count.kp g.b_lift_count rfl (yCons_len yNil_len) (d_cons (d_var (pv 4)) d_nil)) (d_var (pv 2))) (nomark _)))
def sx_law : SX :=
  sx_law_T0
def fn_law : FD := fnF 11 sx_law
theorem ok_law (g : Glob K mg base) : FnK P w K mg base g.T 13 g.a_law g.d_law ["script"] [] fn_law :=
  fn_data (ow := []) g.F_law sc_law rfl (fun A outer s H E' hr E b =>
    (s_cons (okl_0 g hr E b) (s_cons (okl_1 g hr E b) (s_cons (okl_2 g hr E b) (s_cons (okl_3 g hr E b) (s_cons (okl_4 g hr E b) (s_cons (okl_5 g hr E b) (s_cons (okl_6 g hr E b) (s_cons (okl_7 g hr E b) (s_cons (okl_8 g hr E b) (s_cons (okl_9 g hr E b) (s_cons (okl_10 g hr E b) (s_cons (okl_11 g hr E b) (s_cons (okl_12 g hr E b) (s_cons (okl_13 g hr E b) (s_one (okl_14 g hr E b)))))))))))))))))
end
end BC
set_option Elab.async false
set_option linter.all false
set_option maxRecDepth 100000
set_option maxHeartbeats 4000000
namespace BC
open PySem PySem.Spec PyProof.Rows L2 GxR
theorem is_whole_eq (i l m : Int) : fn_is_whole [.val (.int i), .val (.int l), .val (.int m)] = some (.bool (decide (l ≤ i) && decide (i ≤ m)), [.no, .no, .no]) := by
  by_cases h : l ≤ i <;> simp [fn_is_whole, sx_is_whole, fn_is_number, sx_is_number, h]
theorem check_size_eq {n : Int} (h : 2 ≤ n ∧ n ≤ 8) : fn_check_size [.val (.int n)] = some (.none, [.no]) := by
  simp [fn_check_size, sx_check_size, is_whole_eq, h]
theorem is_row_eq (bs : List Int) (a b c d : Int) : fn_is_row [.val (tI bs), .val (.int a), .val (.int b), .val (.int c), .val (.int d)] =
    some (.bool (decide (a ≤ bs.length) && decide ((bs.length : Int) ≤ b) && bs.all fun n => decide (c ≤ n) && decide (n ≤ d)), [.no, .no, .no, .no, .no]) := by
  by_cases h1 : a ≤ bs.length <;> by_cases h2 : (bs.length : Int) ≤ b <;> simp [fn_is_row, sx_is_row, slotInts_cons, h1, h2]
end BC
set_option Elab.async false
set_option linter.all false
set_option maxRecDepth 100000
set_option maxHeartbeats 4000000
namespace BC
open PySem PySem.Spec PyProof.Rows L2 GxR
/-- 1, 2, .. -/
def firstI (n : Nat) : List Int := (List.range n).map fun k => (1 : Int) + (k : Nat)
theorem at_first_eq {n : Int} (h : 2 ≤ n ∧ n ≤ 8) : fn_at_first [.val (.int n)] = some (tI (firstI n.toNat), [.no]) := by
  have hr : RgOk 1 (n + 1) := ⟨by omega, by omega, by omega, by omega, by omega⟩
  have e : (n + 1 - 1).toNat = n.toNat := by omega
  simp [fn_at_first, sx_at_first, hr, e, rangeD_map, firstI]
/-- behind one bell: place k - 1 (from 0) takes over -/
def behindI (r : List Int) (k : Int) : List Int := r.set (k - 1).toNat (r.getD (k - 2).toNat 0)
theorem behindI_len (r : List Int) (k : Int) : (behindI r k).length = r.length := by simp [behindI]
def rungI (r : List Int) (bs : List Int) : List Int := bs.foldl behindI r
theorem rungI_len (bs : List Int) : ∀ r, (rungI r bs).length = r.length := by
  induction bs with
  | nil => intro r; rfl
  | cons b bs ih => intro r; show (rungI (behindI r b) bs).length = _; rw [ih, behindI_len]
end BC
set_option Elab.async false
set_option linter.all false
set_option maxRecDepth 100000
set_option maxHeartbeats 4000000
namespace BC
open PySem PySem.Spec PyProof.Rows L2 GxR
abbrev rowC (ns : List Int) (i sd rs : Int) : Cell := .lst [.list (ns.map PyData.int), .int i, .int sd, .int rs]
theorem taken_eq (ns : List Int) (i sd rs m : Int) (hi : 0 ≤ i) (hm : 0 < m ∧ m < 1073741824) : ∃ v i' sd' rs', fn_law_taken [.own (rowC ns i sd rs), .val (.int m)] = some (.int v, [.own (rowC ns i' sd' rs'), .no]) ∧ 0 ≤ v ∧ v < m ∧ 0 ≤ i' := by
  have q0 : ixN 4 0 = some 0 := rfl
  have q1 : ixN 4 1 = some 1 := rfl
  have q2 : ixN 4 2 = some 2 := rfl
  have q3 : ixN 4 3 = some 3 := rfl
  have md : ∀ x : Int, 0 ≤ x % m ∧ x % m < m := fun x => ⟨Int.emod_nonneg _ (by omega), Int.emod_lt_of_pos _ hm.1⟩
  by_cases h1 : 0 < rs
  · refine ⟨rs % m, i, sd, rs / m, ?_, (md _).1, (md _).2, hi⟩
    simp [fn_law_taken, sx_law_taken, q3, h1, hm]
  · by_cases h2 : (ns.length : Int) < i + 1
    · refine ⟨(sd * 48271 + 11) % 2147483647 / 7 % m, i + 1, (sd * 48271 + 11) % 2147483647, rs, ?_, (md _).1, (md _).2, by omega⟩
      simp [fn_law_taken, sx_law_taken, q0, q1, q2, q3, h1, h2, hm]
    · have hl : i.toNat < ns.length := by omega
      have g : (ns.map PyData.int)[i.toNat]? = some (.int ns[i.toNat]) := by
        rw [List.getElem?_map, List.getElem?_eq_getElem hl]; rfl
      have q5 : ixN ns.length i = some i.toNat := ixN_in hi (by omega)
      by_cases h3 : (1000000000000000000 : Int) ≤ ns[i.toNat]
      · refine ⟨ns[i.toNat] % m, i + 1, (sd * 48271 + ns[i.toNat] + 11) % 2147483647, ns[i.toNat] / m, ?_, (md _).1, (md _).2, by omega⟩
        simp [fn_law_taken, sx_law_taken, q0, q1, q2, q3, q5, h1, h2, h3, hm, hl]
      · refine ⟨ns[i.toNat] % m, i + 1, (sd * 48271 + ns[i.toNat] + 11) % 2147483647, rs, ?_, (md _).1, (md _).2, by omega⟩
        simp [fn_law_taken, sx_law_taken, q0, q1, q2, q3, q5, h1, h2, h3, hm, hl]
end BC
set_option Elab.async false
set_option linter.all false
set_option maxRecDepth 100000
set_option maxHeartbeats 4000000
namespace BC
open PySem PySem.Spec PyProof.Rows L2 GxR
/-! ### the mathematics of bells -/
theorem getD_set (r : List Int) (i j : Nat) (x : Int) : (r.set i x).getD j 0 = if i = j ∧ i < r.length then x else r.getD j 0 := by
  simp only [List.getD_eq_getElem?_getD, List.getElem?_set]
  by_cases h : i = j
  · subst h
    by_cases hl : i < r.length
    · simp [hl]
    · simp [hl]
  · simp [h]
theorem ext_getD {r s : List Int} (hl : r.length = s.length) (h : ∀ j < r.length, r.getD j 0 = s.getD j 0) : r = s := by
  refine List.ext_getElem hl fun j h1 h2 => ?_
  have := h j h1
  simpa [List.getD_eq_getElem?_getD, List.getElem?_eq_getElem h1, List.getElem?_eq_getElem h2] using this
theorem behindI_get (r : List Int) (k : Int) (j : Nat) : (behindI r k).getD j 0 = if (k - 1).toNat = j ∧ (k - 1).toNat < r.length then r.getD (k - 2).toNat 0 else r.getD j 0 := getD_set _ _ _ _
theorem twice (r : List Int) {k : Int} (hk : 2 ≤ k ∧ k ≤ r.length) : behindI (behindI r k) k = behindI r k := by
  refine ext_getD (by simp [behindI_len]) fun j _ => ?_
  simp only [behindI_get, behindI_len]
  (repeat' split) <;> first | rfl | (exfalso; omega)
theorem far (r : List Int) {k j : Int} (hk : 2 ≤ k ∧ k ≤ r.length) (hj : 2 ≤ j ∧ j ≤ r.length) (h : 1 < k - j ∨ 1 < j - k) : behindI (behindI r k) j = behindI (behindI r j) k := by
  refine ext_getD (by simp [behindI_len]) fun n _ => ?_
  simp only [behindI_get, behindI_len]
  (repeat' split) <;> first | rfl | (exfalso; omega)
theorem near1 (r : List Int) {k : Int} (hk : 2 ≤ k ∧ k + 1 ≤ r.length) : behindI (behindI (behindI r k) (k + 1)) k = behindI (behindI r k) (k + 1) := by
  refine ext_getD (by simp [behindI_len]) fun n _ => ?_
  have e : (k + 1 - 2).toNat = (k - 1).toNat := by omega
  simp only [behindI_get, behindI_len, e]
  (repeat' split) <;> first | rfl | (exfalso; omega)
theorem near2 (r : List Int) {k : Int} (hk : 2 ≤ k ∧ k + 1 ≤ r.length) : behindI (behindI (behindI r (k + 1)) k) (k + 1) = behindI (behindI r k) (k + 1) := by
  refine ext_getD (by simp [behindI_len]) fun n _ => ?_
  have e : (k + 1 - 2).toNat = (k - 1).toNat := by omega
  simp only [behindI_get, behindI_len, e]
  (repeat' split) <;> first | rfl | (exfalso; omega)
theorem rungI_app (r a b : List Int) : rungI r (a ++ b) = rungI (rungI r a) b := List.foldl_append ..
theorem rungI_cons (r : List Int) (k : Int) (b : List Int) : rungI r (k :: b) = rungI (behindI r k) b := rfl
theorem rungI_nil (r : List Int) : rungI r [] = r := rfl
theorem firstI_len (n : Nat) : (firstI n).length = n := by simp [firstI]
theorem firstI_get {n j : Nat} (h : j < n) : (firstI n).getD j 0 = j + 1 := by
  simp [firstI, List.getD_eq_getElem?_getD, h]
  omega
theorem unlike {n : Nat} {k : Int} (hk : 2 ≤ k ∧ k + 1 ≤ n) : rungI (firstI n) [k + 1, k] ≠ rungI (firstI n) [k, k + 1] := fun h => by
  have h1 : (rungI (firstI n) [k + 1, k]).getD k.toNat 0 = k := by
    rw [rungI_cons, rungI_cons, rungI_nil, behindI_get, if_neg (by omega), behindI_get, if_pos (by rw [firstI_len]; omega), firstI_get (by omega)]
    omega
  have h2 : (rungI (firstI n) [k, k + 1]).getD k.toNat 0 = k - 1 := by
    rw [rungI_cons, rungI_cons, rungI_nil, behindI_get, if_pos (by rw [behindI_len, firstI_len]; omega), behindI_get, if_pos (by rw [firstI_len]; omega), firstI_get (by omega)]
    omega
  rw [h] at h1
  omega
/-! ### == of rows -/
theorem eqvAll_ints : ∀ a b : List Int, PyData.eqvAll (a.map PyData.int) (b.map PyData.int) = decide (a = b)
  | [], [] => by simp [PyData.eqvAll]
  | [], _ :: _ => by simp [PyData.eqvAll]
  | _ :: _, [] => by simp [PyData.eqvAll]
  | x :: a, y :: b => by
    simp only [List.map_cons, PyData.eqvAll, PyData.eqv, eqvAll_ints a b, List.cons.injEq, Bool.decide_and]
    congr 1
theorem eqv_tI (a b : List Int) : PyData.eqv (tI a) (tI b) = decide (a = b) := by
  simp only [PyData.eqv, eqvAll_ints]
end BC
set_option Elab.async false
set_option linter.all false
set_option maxRecDepth 100000
set_option maxHeartbeats 4000000
namespace BC
open PySem PySem.Spec PyProof.Rows L2 GxR
theorem lay_ints : ∀ l : List Int, PyData.canLayAll0 (l.map PyData.int) = true
  | [] => rfl
  | x :: l => by simp [PyData.canLayAll0, PyData.canLay0, lay_ints l]
theorem depth_ints : ∀ l : List Int, PyData.depthAll (l.map PyData.int) ≤ 1
  | [] => by simp [PyData.depthAll]
  | x :: l => by
    have := depth_ints l
    simp [PyData.depthAll, PyData.depth]
    omega
theorem shaped_tI (l : List Int) : SeqAt.shaped (tI l) = true := by
  have := depth_ints l
  simp [SeqAt.shaped, PyData.canLay0, lay_ints, PyData.depth]
  omega
theorem gEq_tI (a b : List Int) : gEq (tI a) (tI b) = some (.bool (decide (a = b))) := by
  unfold gEq
  rw [if_pos ⟨shaped_tI a, shaped_tI b⟩, eqv_tI]
theorem gNe_tI (a b : List Int) : gNe (tI a) (tI b) = some (.bool (!decide (a = b))) := by
  unfold gNe
  rw [if_pos ⟨shaped_tI a, shaped_tI b⟩, eqv_tI]
theorem gNe_nil : gNe (.list []) (.list []) = some (.bool false) := by
  rfl
theorem firstI_len' {n : Int} (h : 2 ≤ n ∧ n ≤ 8) : ((firstI n.toNat).length : Int) = n := by rw [firstI_len]; omega
end BC
set_option Elab.async false
set_option linter.all false
set_option maxRecDepth 100000
set_option maxHeartbeats 4000000
namespace BC
open PySem PySem.Spec PyProof.Rows L2 GxR
/-! ### rows as maps of 1, 2, .. -/
def atI (r : List Int) (k : Int) : Int := r.getD (k - 1).toNat 0
def folI (a b : List Int) : List Int := b.map (atI a)
theorem folI_len (a b : List Int) : (folI a b).length = b.length := by simp [folI]
theorem firstI_mem {n : Nat} {x : Int} (h : x ∈ firstI n) : 1 ≤ x ∧ x ≤ n := by
  simp only [firstI, List.mem_map, List.mem_range] at h
  obtain ⟨j, h1, h2⟩ := h
  omega
theorem mem_firstI {n : Nat} {x : Int} (h : 1 ≤ x ∧ x ≤ n) : x ∈ firstI n := by
  simp only [firstI, List.mem_map, List.mem_range]
  exact ⟨(x - 1).toNat, by omega, by omega⟩
theorem getD_map {f : Int → Int} {l : List Int} {j : Nat} (h : j < l.length) : (l.map f).getD j 0 = f (l.getD j 0) := by
  simp [List.getD_eq_getElem?_getD, List.getElem?_eq_getElem h]
theorem mem_getD {l : List Int} {x : Int} (h : x ∈ l) : ∃ j, j < l.length ∧ l.getD j 0 = x := by
  obtain ⟨j, hj, e⟩ := List.mem_iff_getElem.mp h
  exact ⟨j, hj, by simp [List.getD_eq_getElem?_getD, List.getElem?_eq_getElem hj, e]⟩
theorem getD_mem {l : List Int} {j : Nat} (h : j < l.length) : l.getD j 0 ∈ l := by
  rw [List.getD_eq_getElem?_getD, List.getElem?_eq_getElem h]
  exact List.getElem_mem h
theorem as_map (r : List Int) : r = (firstI r.length).map (atI r) := by
  refine ext_getD (by simp [firstI_len]) fun j hj => ?_
  rw [getD_map (by rw [firstI_len]; exact hj), firstI_get hj]
  have : ((j : Int) + 1 - 1).toNat = j := by omega
  simp only [atI, this]
theorem atI_map {n : Nat} {g : Int → Int} {k : Int} (h : 1 ≤ k ∧ k ≤ n) : atI ((firstI n).map g) k = g k := by
  unfold atI
  rw [getD_map (by rw [firstI_len]; omega), firstI_get (by omega)]
  congr 1
  omega
theorem map_congr_first {n : Nat} {g h : Int → Int} (e : ∀ k : Int, 1 ≤ k ∧ k ≤ n → g k = h k) : (firstI n).map g = (firstI n).map h :=
  List.map_congr_left fun k hk => e k (firstI_mem hk)
theorem map_first_inj {n : Nat} {g h : Int → Int} (e : (firstI n).map g = (firstI n).map h) {k : Int} (hk : 1 ≤ k ∧ k ≤ n) : g k = h k := by
  rw [← atI_map (g := g) hk, e, atI_map hk]
theorem folI_maps {n : Nat} {g h : Int → Int} (hb : ∀ k : Int, 1 ≤ k ∧ k ≤ n → 1 ≤ h k ∧ h k ≤ n) : folI ((firstI n).map g) ((firstI n).map h) = (firstI n).map fun k => g (h k) := by
  unfold folI
  rw [List.map_map]
  exact map_congr_first fun k hk => atI_map (hb k hk)
theorem folI_first (b : List Int) {n : Nat} (h : ∀ x ∈ b, 1 ≤ x ∧ x ≤ n) : folI (firstI n) b = b := by
  have e : b.map (atI (firstI n)) = b.map id := List.map_congr_left fun x hx => by
    have := h x hx
    unfold atI
    rw [firstI_get (by omega)]
    show _ = x
    omega
  unfold folI
  rw [e, List.map_id]
theorem first_folI (a : List Int) : folI a (firstI a.length) = a := (as_map a).symm
theorem folI_assoc {a b c : List Int} (h : ∀ x ∈ c, 1 ≤ x ∧ x ≤ b.length) : folI (folI a b) c = folI a (folI b c) := by
  unfold folI
  rw [List.map_map]
  refine List.map_congr_left fun x hx => ?_
  have := h x hx
  show (List.map (atI a) b).getD (x - 1).toNat 0 = atI a (b.getD (x - 1).toNat 0)
  exact getD_map (by omega)
/-! ### stairs -/
structure St (n : Nat) (r : List Int) : Prop where
  len : r.length = n
  lo : ∀ j, j < n → 1 ≤ r.getD j 0
  hi : ∀ j, j < n → r.getD j 0 ≤ (j : Int) + 1
  mono : ∀ j, j + 1 < n → r.getD j 0 ≤ r.getD (j + 1) 0
theorem St.mem {n : Nat} {r : List Int} (s : St n r) {x : Int} (h : x ∈ r) : 1 ≤ x ∧ x ≤ n := by
  obtain ⟨j, hj, rfl⟩ := mem_getD h
  rw [s.len] at hj
  have := s.lo j hj
  have := s.hi j hj
  omega
theorem St.mono_le {n : Nat} {r : List Int} (s : St n r) : ∀ (d i : Nat), i + d < n → r.getD i 0 ≤ r.getD (i + d) 0
  | 0, i, _ => Int.le_refl _
  | d + 1, i, h => Int.le_trans (s.mono_le d i (by omega)) (s.mono (i + d) (by omega))
theorem St.first {n : Nat} : St n (firstI n) :=
  ⟨firstI_len n, fun j h => by rw [firstI_get h]; omega, fun j h => by rw [firstI_get h]; omega, fun j h => by rw [firstI_get (by omega), firstI_get h]; omega⟩
theorem St.fol {n : Nat} {a b : List Int} (s : St n a) (t : St n b) : St n (folI a b) := by
  have g : ∀ j, j < n → (folI a b).getD j 0 = a.getD (b.getD j 0 - 1).toNat 0 := fun j h => getD_map (by rw [t.len]; exact h)
  refine ⟨by rw [folI_len, t.len], fun j h => ?_, fun j h => ?_, fun j h => ?_⟩
  · rw [g j h]
    have := t.lo j h
    have := t.hi j h
    exact s.lo _ (by omega)
  · rw [g j h]
    have := t.lo j h
    have := t.hi j h
    have := s.hi (b.getD j 0 - 1).toNat (by omega)
    omega
  · rw [g j (by omega), g (j + 1) h]
    have h1 := t.lo j (by omega)
    have h2 := t.mono j h
    have h3 := t.hi (j + 1) h
    have := s.mono_le ((b.getD (j + 1) 0 - 1).toNat - (b.getD j 0 - 1).toNat) (b.getD j 0 - 1).toNat (by omega)
    have e : (b.getD j 0 - 1).toNat + ((b.getD (j + 1) 0 - 1).toNat - (b.getD j 0 - 1).toNat) = (b.getD (j + 1) 0 - 1).toNat := by omega
    rw [e] at this
    exact this
theorem St.behind {n : Nat} {r : List Int} (s : St n r) {k : Int} (hk : 2 ≤ k ∧ k ≤ n) : St n (behindI r k) := by
  have l := s.len
  have g : ∀ j, (behindI r k).getD j 0 = if (k - 1).toNat = j then r.getD (k - 2).toNat 0 else r.getD j 0 := fun j => by
    rw [behindI_get]
    by_cases h : (k - 1).toNat = j
    · rw [if_pos ⟨h, by omega⟩, if_pos h]
    · rw [if_neg (fun q => h q.1), if_neg h]
  refine ⟨by rw [behindI_len, l], fun j h => ?_, fun j h => ?_, fun j h => ?_⟩
  · rw [g]
    split
    · exact s.lo _ (by omega)
    · exact s.lo j h
  · rw [g]
    split
    · have := s.hi (k - 2).toNat (by omega)
      omega
    · exact s.hi j h
  · rw [g, g]
    split
    · rw [if_neg (by omega)]
      have := s.mono_le 2 (k - 2).toNat (by omega)
      have e : (k - 2).toNat + 2 = j + 1 := by omega
      rw [e] at this
      exact this
    · split
      · have e : (k - 2).toNat = j := by omega
        rw [e]
        exact Int.le_refl _
      · exact s.mono j h
theorem St.rung {n : Nat} : ∀ (bs : List Int) {r : List Int}, St n r → (∀ b ∈ bs, 2 ≤ b ∧ b ≤ n) → St n (rungI r bs)
  | [], r, s, _ => s
  | b :: bs, r, s, h => St.rung bs (s.behind (h b List.mem_cons_self)) fun c hc => h c (List.mem_cons_of_mem _ hc)
theorem behindI_map (f : Int → Int) {r : List Int} {k : Int} (hk : 2 ≤ k ∧ k ≤ r.length) : behindI (r.map f) k = (behindI r k).map f := by
  unfold behindI
  rw [List.map_set, getD_map (by omega)]
theorem rungI_map (f : Int → Int) : ∀ (bs r : List Int), (∀ b ∈ bs, 2 ≤ b ∧ b ≤ r.length) → rungI (r.map f) bs = (rungI r bs).map f
  | [], _, _ => rfl
  | b :: bs, r, h => by
    rw [rungI_cons, rungI_cons, behindI_map f (h b List.mem_cons_self)]
    exact rungI_map f bs (behindI r b) fun c hc => by rw [behindI_len]; exact h c (List.mem_cons_of_mem _ hc)
theorem fol_rung {a bs : List Int} (h : ∀ b ∈ bs, 2 ≤ b ∧ b ≤ a.length) : folI a (rungI (firstI a.length) bs) = rungI a bs := by
  unfold folI
  rw [← rungI_map _ _ _ (fun b hb => by rw [firstI_len]; exact h b hb), ← as_map]
/-! ### powers -/
def pwI (s : List Int) : Nat → List Int
  | 0 => firstI s.length
  | t + 1 => folI (pwI s t) s
def itF (f : Int → Int) : Nat → Int → Int
  | 0, k => k
  | t + 1, k => itF f t (f k)
theorem St.pw {n : Nat} {s : List Int} (h : St n s) : ∀ t, St n (pwI s t)
  | 0 => by rw [pwI, h.len]; exact St.first
  | t + 1 => (h.pw t).fol h
theorem pw_map {n : Nat} {s : List Int} (h : St n s) : ∀ t, pwI s t = (firstI n).map (itF (atI s) t)
  | 0 => by
    rw [pwI, h.len]
    have : (firstI n).map (itF (atI s) 0) = (firstI n).map id := rfl
    rw [this, List.map_id]
  | t + 1 => by
    have e : s = (firstI n).map (atI s) := by rw [← h.len]; exact as_map s
    rw [pwI, pw_map h t]
    conv => lhs; arg 2; rw [e]
    refine folI_maps fun k hk => ?_
    have : atI s k ∈ s := getD_mem (by rw [h.len]; omega)
    exact h.mem this
theorem atI_le {n : Nat} {s : List Int} (h : St n s) {k : Int} (hk : 1 ≤ k ∧ k ≤ n) : 1 ≤ atI s k ∧ atI s k ≤ k := by
  have h1 := h.lo (k - 1).toNat (by omega)
  have h2 := h.hi (k - 1).toNat (by omega)
  unfold atI
  omega
section
variable {f : Int → Int} {n : Nat} (hf : ∀ k : Int, 1 ≤ k ∧ k ≤ n → 1 ≤ f k ∧ f k ≤ k)
theorem it_comm : ∀ (t : Nat) (k : Int), itF f t (f k) = f (itF f t k)
  | 0, _ => rfl
  | t + 1, k => it_comm t (f k)
theorem it_add : ∀ (a b : Nat) (k : Int), itF f (a + b) k = itF f a (itF f b k)
  | a, 0, k => rfl
  | a, b + 1, k => it_add a b (f k)
theorem it_fix {k : Int} (h : f k = k) : ∀ t, itF f t k = k
  | 0 => rfl
  | t + 1 => by rw [itF, h]; exact it_fix h t
include hf
theorem it_bound : ∀ (t : Nat) (k : Int), 1 ≤ k ∧ k ≤ n → 1 ≤ itF f t k ∧ itF f t k ≤ n
  | 0, k, h => h
  | t + 1, k, h => it_bound t (f k) (by have := hf k h; omega)
theorem it_rests : ∀ (t : Nat) (k : Int), 1 ≤ k ∧ k ≤ n → k ≤ (t : Int) + 1 → f (itF f t k) = itF f t k
  | 0, k, h, h2 => by
    have := hf k h
    show f k = k
    omega
  | t + 1, k, h, h2 => by
    have q := hf k h
    by_cases c : f k ≤ (t : Int) + 1
    · exact it_rests t (f k) (by omega) c
    · have e : f k = k := by omega
      rw [it_fix e]
      exact e
end
theorem pw_add {n : Nat} {s : List Int} (h : St n s) (a b : Nat) : folI (pwI s a) (pwI s b) = pwI s (a + b) := by
  rw [pw_map h, pw_map h, pw_map h, folI_maps (fun k hk => it_bound (fun k hk => atI_le h hk) b k hk)]
  exact map_congr_first fun k _ => (it_add a b k).symm
theorem pw_one {n : Nat} {s : List Int} (h : St n s) : pwI s 1 = s := folI_first s (fun x hx => by rw [h.len]; exact h.mem hx)
theorem pw_end {n : Nat} {s : List Int} (h : St n s) : pwI s n = pwI s (n - 1) := by
  cases n with
  | zero => rfl
  | succ m =>
    rw [pw_map h, pw_map h]
    refine map_congr_first fun k hk => ?_
    show itF (atI s) m (atI s k) = itF (atI s) m k
    rw [it_comm]
    exact it_rests (n := m + 1) (fun k hk => atI_le h hk) m k hk (by omega)
theorem pw_stays {n : Nat} {s : List Int} (h : St n s) {t : Nat} (e : pwI s (t + 1) = pwI s t) : ∀ m, pwI s (t + m) = pwI s t
  | 0 => rfl
  | m + 1 => by
    have := pw_stays h e m
    show folI (pwI s (t + m)) s = _
    rw [this]
    exact e
theorem least_of {p : Nat → Prop} [DecidablePred p] : ∀ n, p n → ∃ k, k ≤ n ∧ p k ∧ ∀ i, i < k → ¬ p i := by
  intro n
  induction n using Nat.strongRecOn with
  | ind n ih =>
    intro h
    by_cases c : ∃ m, m < n ∧ p m
    · obtain ⟨m, h1, h2⟩ := c
      obtain ⟨k, a, b, d⟩ := ih m h1 h2
      exact ⟨k, by omega, b, d⟩
    · exact ⟨n, Nat.le_refl n, h, fun i hi q => c ⟨i, hi, q⟩⟩
theorem rest_of {n : Nat} {s : List Int} (h : St n s) (hn : 1 ≤ n) : ∃ k, k ≤ n - 1 ∧ pwI s (k + 1) = pwI s k ∧ ∀ i, i < k → pwI s (i + 1) ≠ pwI s i := by
  refine least_of (p := fun t => pwI s (t + 1) = pwI s t) (n - 1) ?_
  have := pw_end h
  have e : n - 1 + 1 = n := by omega
  rw [e]
  exact this
end BC
set_option Elab.async false
set_option linter.all false
set_option maxRecDepth 100000
set_option maxHeartbeats 4000000
namespace BC
open PySem PySem.Spec PyProof.Rows L2 GxR
def tJ (l : List Int) : D := tI l
theorem tJ_add {a b : List Int} (h : a.length ≤ 1000) (h' : b.length ≤ 1000) : gAdd (tJ a) (tJ b) = some (tJ (a ++ b)) := by
  show gAdd (.tuple _) (.tuple _) = _
  rw [gAdd_tt, if_pos (by simp; omega)]
  simp only [tJ, tI, List.map_append]
theorem gEq_tJ (a b : List Int) : gEq (tJ a) (tJ b) = some (.bool (decide (a = b))) := gEq_tI a b
theorem gNe_tJ (a b : List Int) : gNe (tJ a) (tJ b) = some (.bool (!decide (a = b))) := gNe_tI a b
theorem shaped_int (a : Int) : SeqAt.shaped (.int a) = true := by simp [SeqAt.shaped, PyData.canLay0, PyData.depth]
theorem gEq_int (a b : Int) : gEq (.int a) (.int b) = some (.bool (decide (a = b))) := by
  unfold gEq
  rw [if_pos ⟨shaped_int a, shaped_int b⟩]
  rfl
theorem gNe_int (a b : Int) : gNe (.int a) (.int b) = some (.bool (!decide (a = b))) := by
  unfold gNe
  rw [if_pos ⟨shaped_int a, shaped_int b⟩]
  rfl
theorem sIf_t {y : DT} {f g : SX} {S S' : SS} (h : y S = some (true, S')) : sIf y f g S = f S' := by rw [sIf_eq, h, Option.bind_some, if_pos rfl]
theorem sIf_f {y : DT} {f g : SX} {S S' : SS} (h : y S = some (false, S')) : sIf y f g S = g S' := by rw [sIf_eq, h, Option.bind_some, if_neg Bool.false_ne_true]
theorem sIf_fn {y : DT} {f : SX} {S S' : SS} (h : y S = some (false, S')) : sIf y f sNx S = some (.nx S') := by rw [sIf_eq, h, Option.bind_some, if_neg Bool.false_ne_true]; rfl
theorem sSeq_rt {f g : SX} {S S' : SS} {d : D} (h : f S = some (.rt d S')) : sSeq f g S = some (.rt d S') := by rw [sSeq_eq, h, Option.bind_some]
theorem sSeq_nx {f g : SX} {S S' : SS} (h : f S = some (.nx S')) : sSeq f g S = g S' := by rw [sSeq_eq, h, Option.bind_some]
theorem fn_of {m : Nat} {sx : SX} {as S' : SS} {d : D} (h : sx (as ++ List.replicate m .no) = some (.rt d S')) : fnF m sx as = some (d, outsOf as S') := by rw [fnF_eq, h]; rfl
theorem gNe_bool (a b : Bool) : gNe (.bool a) (.bool b) = some (.bool (!decide (a = b))) := by cases a <;> cases b <;> rfl
@[simp] theorem xAllZ_eq {pb : Int → Int → Bool} {fr : DA} {S : SS} : xAllZ pb fr S = (fr S).bind fun p => match p.1 with
  | [.tuple ds, .tuple es] => (intsOf ds).bind fun ns => (intsOf es).map fun ms => (.bool ((ns.zip ms).all fun q => pb q.1 q.2), p.2)
  | _ => none := rfl
@[simp] theorem sAug_eq {i : Nat} {h : Int → Int → Int} {fe : DX} {S : SS} : sAug i h fe S = match S[i]? with
  | some (.val (.int x)) => (fe S).bind fun p => match p.1 with
    | .int y => some (.nx (p.2.set i (.val (.int (h x y)))))
    | _ => none
  | _ => none := rfl
theorem neg1_ix (n : Nat) : ixN (n + 1) (-1) = some n := by
  rw [ixN_neg (by omega) (by omega)]
  congr 1
  omega
/-! ### the checks -/
theorem never_falls_eq (r : List Int) : fn_never_falls [.val (tI r)] = some (.bool ((r.zip (r.drop 1)).all fun q => decide (q.1 ≤ q.2)), [.no]) := by
  have h2 : cutD (r.map PyData.int) (some 1) none = (r.drop 1).map PyData.int := by
    rw [cutD_hi (by omega)]
    simp [List.map_drop]
  have h3 : intsOf (List.map PyData.int r).tail = some r.tail := by rw [← List.map_tail]; exact intsOf_map _
  simp [fn_never_falls, sx_never_falls, h2, h3]
theorem stair_zip {n : Nat} {r : List Int} (s : St n r) : ((r.zip (r.drop 1)).all fun q => decide (q.1 ≤ q.2)) = true := by
  rw [List.all_eq_true]
  intro q hq
  obtain ⟨j, hj, e⟩ := List.mem_iff_getElem.mp hq
  rw [List.getElem_zip] at e
  simp only [List.length_zip, List.length_drop] at hj
  have l := s.len
  have h1 := s.mono j (by omega)
  rw [List.getD_eq_getElem?_getD, List.getElem?_eq_getElem (by omega), List.getD_eq_getElem?_getD, List.getElem?_eq_getElem (by omega)] at h1
  subst e
  simp only [List.getElem_drop, decide_eq_true_eq]
  have e2 : r[1 + j]'(by omega) = r[j + 1]'(by omega) := by congr 1; omega
  rw [e2]
  exact h1
theorem stair_num {n : Nat} {r : List Int} (s : St n r) : ((numI 1 r).all fun q => decide (q.2 ≤ q.1)) = true := by
  rw [List.all_eq_true]
  intro q hq
  obtain ⟨j, hj, e⟩ := List.mem_iff_getElem.mp hq
  rw [numI_len] at hj
  have l := s.len
  have g := numI_get (k0 := 1) (List.getElem?_eq_getElem hj)
  rw [List.getElem?_eq_getElem (by rw [numI_len]; exact hj)] at g
  cases g.symm.trans (congrArg some e)
  have h1 := s.hi j (by omega)
  rw [List.getD_eq_getElem?_getD, List.getElem?_eq_getElem hj] at h1
  simp only [decide_eq_true_eq]
  simp only [Option.getD_some] at h1
  omega
theorem len_tJ (r : List Int) : gLen [tJ r] = some (.int (r.length : Nat)) := by
  show gLen [.tuple _] = _
  simp
theorem check_pair_eq {a b : List Int} (h : a.length = b.length) : fn_check_pair [.val (tJ a), .val (tJ b)] = some (.none, [.no, .no]) := by
  simp [fn_check_pair, sx_check_pair, len_tJ, gNe_int, h]
/-! ### one after another -/
theorem fol_loop (a : List Int) (c1 : Slot) : ∀ (fs : List Int) (acc : List D), acc.length + fs.length ≤ 1000 → (∀ x ∈ fs, 1 ≤ x ∧ x ≤ a.length) →
    runLc (setV 2) yesT (x2 gIx (xV 0) (x2 gSub (xV 2) (xC (PyData.int 1)))) [2] (fs.map PyData.int) acc [.val (tI a), c1, .no] = some (acc ++ (fs.map (atI a)).map PyData.int, [.val (tI a), c1, .no])
  | [], acc, _, _ => by simp
  | x :: fs, acc, hl, h => by
    simp only [List.length_cons] at hl
    have hx := h x List.mem_cons_self
    have hj : (x - 1).toNat < a.length := by omega
    have q : ixN a.length (x - 1) = some (x - 1).toNat := ixN_in (by omega) (by omega)
    have g : (a.map PyData.int)[(x - 1).toNat]? = some (.int (atI a x)) := by
      rw [List.getElem?_map, List.getElem?_eq_getElem hj, atI, List.getD_eq_getElem?_getD, List.getElem?_eq_getElem hj]
      rfl
    have ih := fol_loop a c1 fs (acc ++ [.int (atI a x)]) (by simp; omega) fun y hy => h y (List.mem_cons_of_mem _ hy)
    have fit : acc.length < 100000 := by omega
    simp only [List.map_cons, runLc]
    have st : setV 2 (PyData.int x) [.val (tI a), c1, .no] = some [.val (tI a), c1, .val (.int x)] := by simp
    have ev : x2 gIx (xV 0) (x2 gSub (xV 2) (xC (PyData.int 1))) [.val (tI a), c1, .val (.int x)] = some (.int (atI a x), [.val (tI a), c1, .val (.int x)]) := by
      simp only [x2_eq, xV_eq, xC_eq, List.getElem?_cons_succ, List.getElem?_cons_zero, Option.bind_some, gSub_ii, Option.map_some, gIx_ti, List.length_map, q, g]
    simp only [st, Option.bind_some, yesT_eq, if_true, ev, if_pos fit]
    have w : wipeS [.val (tI a), c1, .val (.int x)] [2] = [.val (tI a), c1, .no] := by simp [wipeS]
    rw [w, ih, List.append_assoc]
    rfl
theorem at_first_nat {n : Nat} (hn : 2 ≤ n ∧ n ≤ 8) : fn_at_first [.val (.int (n : Nat))] = some (tJ (firstI n), [.no]) := by
  have := at_first_eq (n := (n : Nat)) ⟨by omega, by omega⟩
  rw [Int.toNat_natCast] at this
  exact this
end BC
set_option Elab.async false
set_option linter.all false
set_option maxRecDepth 100000
set_option maxHeartbeats 4000000
namespace BC
open PySem PySem.Spec PyProof.Rows L2 GxR
/-! ### the law's stairs -/
theorem rangeD_succ (lo : Int) (n : Nat) : rangeD lo (n + 1) = .int lo :: rangeD (lo + 1) n := by
  unfold rangeD
  rw [List.range_succ_eq_map, List.map_cons, List.map_map]
  refine congr (congrArg _ (by simp)) (List.map_congr_left fun k _ => ?_)
  simp only [Function.comp]
  congr 1
  omega
theorem getD_snoc (l : List Int) (x : Int) (j : Nat) : (l ++ [x]).getD j 0 = if j < l.length then l.getD j 0 else if j = l.length then x else 0 := by
  simp only [List.getD_eq_getElem?_getD]
  by_cases h : j < l.length
  · rw [if_pos h, List.getElem?_append_left h]
  · rw [if_neg h, List.getElem?_append_right (by omega)]
    by_cases h2 : j = l.length
    · rw [if_pos h2]; simp [h2]
    · rw [if_neg h2, List.getElem?_eq_none (by simp; omega)]
      rfl
theorem St.snoc {l : List Int} {x p : Int} (s : St (l.length + 1) (l ++ [x])) (h : x ≤ p ∧ p ≤ (l.length : Int) + 2) : St (l.length + 2) (l ++ [x] ++ [p]) := by
  have g : ∀ j, (l ++ [x] ++ [p]).getD j 0 = if j < l.length + 1 then (l ++ [x]).getD j 0 else if j = l.length + 1 then p else 0 := fun j => by
    have := getD_snoc (l ++ [x]) p j
    simpa using this
  have gx : (l ++ [x]).getD l.length 0 = x := by rw [getD_snoc, if_neg (by omega), if_pos rfl]
  have x1 := s.lo l.length (by omega)
  rw [gx] at x1
  refine ⟨by simp, fun j hj => ?_, fun j hj => ?_, fun j hj => ?_⟩
  · rw [g]
    split
    · exact s.lo j (by omega)
    · rw [if_pos (by omega)]; omega
  · rw [g]
    split
    · exact s.hi j (by omega)
    · rw [if_pos (by omega)]; omega
  · rw [g, g, if_pos (show j < l.length + 1 by omega)]
    split
    · exact s.mono j (by omega)
    · rw [if_pos (by omega)]
      have : j = l.length := by omega
      rw [this, gx]
      exact h.1
end BC
set_option Elab.async false
set_option linter.all false
set_option maxRecDepth 100000
set_option maxHeartbeats 4000000
namespace BC
open PySem PySem.Spec PyProof.Rows L2 GxR
theorem power_t3 {n : Nat} {s : List Int} (hn : 2 ≤ n ∧ n ≤ 8) (h : St n s) (m : Int) :
    sSet 2 (xFn fn_at_first (yCons (xCall gLen (yCons (xV 0) yNil)) yNil)) [.val (tJ s), .val (.int m), .no, .no] = some (.nx [.val (tJ s), .val (.int m), .val (tJ (firstI n)), .no]) := by
  obtain ⟨k, hk⟩ : ∃ k : Int, ((s.length : Nat) : Int) = k := ⟨_, rfl⟩
  have e3 : fn_at_first [.val (.int k)] = some (tJ (firstI n), [.no]) := by rw [← hk, h.len]; exact at_first_nat hn
  have e2 : gLen [tJ s] = some (.int k) := by rw [len_tJ, hk]
  simp [e2, e3]
end BC
set_option Elab.async false
set_option linter.all false
set_option maxRecDepth 100000
set_option maxHeartbeats 4000000
namespace BC
open PySem PySem.Spec PyProof.Rows L2 GxR
/-! ### below -/
structure Bel (a b : List Int) : Prop where
  len : a.length = b.length
  le : ∀ j, a.getD j 0 ≤ b.getD j 0
theorem Bel.of {a b : List Int} (hl : a.length = b.length) (h : ∀ j, j < a.length → a.getD j 0 ≤ b.getD j 0) : Bel a b :=
  ⟨hl, fun j => by
    by_cases c : j < a.length
    · exact h j c
    · rw [List.getD_eq_getElem?_getD, List.getElem?_eq_none (by omega), List.getD_eq_getElem?_getD, List.getElem?_eq_none (by omega)]
      exact Int.le_refl _⟩
theorem Bel.refl (a : List Int) : Bel a a := ⟨rfl, fun _ => Int.le_refl _⟩
theorem Bel.trans {a b c : List Int} (h : Bel a b) (g : Bel b c) : Bel a c := ⟨h.len.trans g.len, fun j => Int.le_trans (h.le j) (g.le j)⟩
theorem fol_get {a b : List Int} {j : Nat} (h : j < b.length) : (folI a b).getD j 0 = a.getD (b.getD j 0 - 1).toNat 0 := getD_map h
theorem fol_left {n : Nat} {a b : List Int} (s : St n a) (t : St n b) : Bel (folI a b) a := Bel.of (by rw [folI_len, s.len, t.len]) fun j hj => by
  rw [folI_len, t.len] at hj
  rw [fol_get (by rw [t.len]; exact hj)]
  have h1 := t.lo j hj
  have h2 := t.hi j hj
  have m := s.mono_le (j - (b.getD j 0 - 1).toNat) (b.getD j 0 - 1).toNat (by omega)
  have e : (b.getD j 0 - 1).toNat + (j - (b.getD j 0 - 1).toNat) = j := by omega
  rw [e] at m
  exact m
theorem fol_right {n : Nat} {a b : List Int} (s : St n a) (t : St n b) : Bel (folI a b) b := Bel.of (by rw [folI_len]) fun j hj => by
  rw [folI_len, t.len] at hj
  rw [fol_get (by rw [t.len]; exact hj)]
  have h1 := t.lo j hj
  have h2 := t.hi j hj
  have m := s.hi (b.getD j 0 - 1).toNat (by omega)
  omega
theorem fol_mono1 {n : Nat} {a b c : List Int} (t : St n c) (h : Bel a b) : Bel (folI a c) (folI b c) := Bel.of (by rw [folI_len, folI_len]) fun j hj => by
  rw [folI_len] at hj
  rw [fol_get hj, fol_get hj]
  exact h.le _
theorem fol_mono2 {n : Nat} {a b c : List Int} (s : St n c) (ta : St n a) (tb : St n b) (h : Bel a b) : Bel (folI c a) (folI c b) := Bel.of (by rw [folI_len, folI_len]; exact h.len) fun j hj => by
  rw [folI_len, ta.len] at hj
  rw [fol_get (by rw [ta.len]; exact hj), fol_get (by rw [tb.len]; exact hj)]
  have h0 := h.le j
  have h1 := ta.lo j hj
  have h2 := tb.hi j hj
  have m := s.mono_le ((b.getD j 0 - 1).toNat - (a.getD j 0 - 1).toNat) (a.getD j 0 - 1).toNat (by omega)
  have e : (a.getD j 0 - 1).toNat + ((b.getD j 0 - 1).toNat - (a.getD j 0 - 1).toNat) = (b.getD j 0 - 1).toNat := by omega
  rw [e] at m
  exact m
theorem behind_bel {n : Nat} {r : List Int} (s : St n r) {k : Int} (hk : 2 ≤ k ∧ k ≤ n) : Bel (behindI r k) r := Bel.of (behindI_len r k) fun j hj => by
  rw [behindI_len] at hj
  rw [behindI_get]
  split
  · rename_i c
    have m := s.mono (k - 2).toNat (by omega)
    have e : (k - 2).toNat + 1 = j := by omega
    rw [e] at m
    exact m
  · exact Int.le_refl _
theorem behind_mono {a b : List Int} (h : Bel a b) (k : Int) : Bel (behindI a k) (behindI b k) := Bel.of (by rw [behindI_len, behindI_len]; exact h.len) fun j hj => by
  rw [behindI_get, behindI_get, ← h.len]
  split
  · exact h.le _
  · exact h.le j
theorem rung_mono : ∀ (bs : List Int) {a b : List Int}, Bel a b → Bel (rungI a bs) (rungI b bs)
  | [], _, _, h => h
  | k :: bs, _, _, h => rung_mono bs (behind_mono h k)
theorem rung_bel {n : Nat} : ∀ (bs : List Int) {r : List Int}, St n r → (∀ b ∈ bs, 2 ≤ b ∧ b ≤ n) → Bel (rungI r bs) r
  | [], r, _, _ => Bel.refl r
  | k :: bs, r, s, h => (rung_bel bs (s.behind (h k List.mem_cons_self)) fun c hc => h c (List.mem_cons_of_mem _ hc)).trans (behind_bel s (h k List.mem_cons_self))
/-! ### meet and join -/
def meetI (a b : List Int) : List Int := (a.zip b).map fun q => if q.2 < q.1 then q.2 else q.1
def joinI (a b : List Int) : List Int := (a.zip b).map fun q => if q.2 > q.1 then q.2 else q.1
theorem zip_getD {a b : List Int} (hl : a.length = b.length) (g : Int × Int → Int) {j : Nat} (h : j < a.length) : ((a.zip b).map g).getD j 0 = g (a.getD j 0, b.getD j 0) := by
  rw [List.getD_eq_getElem?_getD, List.getElem?_map, List.getElem?_eq_getElem (by rw [List.length_zip]; omega), List.getElem_zip, List.getD_eq_getElem?_getD, List.getElem?_eq_getElem h, List.getD_eq_getElem?_getD, List.getElem?_eq_getElem (by omega)]
  rfl
theorem meetI_len {a b : List Int} (hl : a.length = b.length) : (meetI a b).length = a.length := by simp [meetI, hl]
theorem joinI_len {a b : List Int} (hl : a.length = b.length) : (joinI a b).length = a.length := by simp [joinI, hl]
theorem meet_get {a b : List Int} (hl : a.length = b.length) {j : Nat} (h : j < a.length) : (meetI a b).getD j 0 = if b.getD j 0 < a.getD j 0 then b.getD j 0 else a.getD j 0 := zip_getD hl _ h
theorem join_get {a b : List Int} (hl : a.length = b.length) {j : Nat} (h : j < a.length) : (joinI a b).getD j 0 = if b.getD j 0 > a.getD j 0 then b.getD j 0 else a.getD j 0 := zip_getD hl _ h
theorem St.meet {n : Nat} {a b : List Int} (s : St n a) (t : St n b) : St n (meetI a b) := by
  have hl := s.len.trans t.len.symm
  have g := fun {j : Nat} (h : j < n) => meet_get hl (by rw [s.len]; exact h : j < a.length)
  refine ⟨by rw [meetI_len hl, s.len], fun j h => ?_, fun j h => ?_, fun j h => ?_⟩
  · rw [g h]
    have := s.lo j h
    have := t.lo j h
    split <;> omega
  · rw [g h]
    have := s.hi j h
    have := t.hi j h
    split <;> omega
  · rw [g (by omega), g h]
    have := s.mono j h
    have := t.mono j h
    split <;> split <;> omega
theorem St.join {n : Nat} {a b : List Int} (s : St n a) (t : St n b) : St n (joinI a b) := by
  have hl := s.len.trans t.len.symm
  have g := fun {j : Nat} (h : j < n) => join_get hl (by rw [s.len]; exact h : j < a.length)
  refine ⟨by rw [joinI_len hl, s.len], fun j h => ?_, fun j h => ?_, fun j h => ?_⟩
  · rw [g h]
    have := s.lo j h
    have := t.lo j h
    split <;> omega
  · rw [g h]
    have := s.hi j h
    have := t.hi j h
    split <;> omega
  · rw [g (by omega), g h]
    have := s.mono j h
    have := t.mono j h
    split <;> split <;> omega
theorem meet_bel {a b : List Int} (hl : a.length = b.length) : Bel (meetI a b) a ∧ Bel (meetI a b) b := by
  refine ⟨Bel.of (meetI_len hl) fun j h => ?_, Bel.of ((meetI_len hl).trans hl) fun j h => ?_⟩ <;> rw [meetI_len hl] at h <;> rw [meet_get hl h] <;> split <;> omega
theorem bel_join {a b : List Int} (hl : a.length = b.length) : Bel a (joinI a b) ∧ Bel b (joinI a b) := by
  refine ⟨Bel.of (joinI_len hl).symm fun j h => ?_, Bel.of (hl.symm.trans (joinI_len hl).symm) fun j h => ?_⟩
  · rw [join_get hl h]; split <;> omega
  · rw [join_get hl (by omega)]; split <;> omega
theorem bel_meet {a b c : List Int} (hl : a.length = b.length) (h1 : Bel c a) (h2 : Bel c b) : Bel c (meetI a b) := Bel.of (h1.len.trans (meetI_len hl).symm) fun j h => by
  rw [meet_get hl (by rw [← h1.len]; exact h)]
  have := h1.le j
  have := h2.le j
  split <;> omega
/-! ### ranks -/
def lossI : Int → List Int → Int
  | _, [] => 0
  | k, x :: r => k - x + lossI (k + 1) r
theorem numI_cons (k x : Int) (r : List Int) : numI k (x :: r) = (k, x) :: numI (k + 1) r := by
  unfold numI
  rw [List.length_cons, List.range_succ_eq_map, List.map_cons, List.map_map, List.zip_cons_cons]
  have e : List.map ((fun i => k + ((i : Nat) : Int)) ∘ Nat.succ) (List.range r.length) = List.map (fun i => k + 1 + ((i : Nat) : Int)) (List.range r.length) := List.map_congr_left fun i _ => by
    simp only [Function.comp]
    omega
  rw [e]
  simp
theorem loss_sum : ∀ (r : List Int) (k : Int), ((numI k r).map fun q => q.1 - q.2).sum = lossI k r
  | [], _ => rfl
  | x :: r, k => by
    rw [numI_cons, List.map_cons, List.sum_cons, loss_sum r (k + 1)]
    rfl
theorem loss_both : ∀ (a b : List Int) (k : Int), a.length = b.length → lossI k (meetI a b) + lossI k (joinI a b) = lossI k a + lossI k b
  | [], [], _, _ => rfl
  | [], _ :: _, _, h => by simp at h
  | _ :: _, [], _, h => by simp at h
  | x :: a, y :: b, k, h => by
    have ih := loss_both a b (k + 1) (by simpa using h)
    have e1 : meetI (x :: a) (y :: b) = (if y < x then y else x) :: meetI a b := rfl
    have e2 : joinI (x :: a) (y :: b) = (if y > x then y else x) :: joinI a b := rfl
    rw [e1, e2]
    simp only [lossI]
    split <;> split <;> omega
theorem loss_mono : ∀ (a b : List Int) (k : Int), Bel a b → lossI k b ≤ lossI k a
  | [], [], _, _ => Int.le_refl _
  | [], _ :: _, _, h => by have := h.len; simp at this
  | _ :: _, [], _, h => by have := h.len; simp at this
  | x :: a, y :: b, k, h => by
    have ih := loss_mono a b (k + 1) ⟨by simpa using h.len, fun j => h.le (j + 1)⟩
    have h0 : x ≤ y := h.le 0
    simp only [lossI]
    omega
/-! ### the functions -/
theorem below_all {a b : List Int} (h : Bel a b) : ((a.zip b).all fun q => decide (q.1 ≤ q.2)) = true := by
  rw [List.all_eq_true]
  intro q hq
  obtain ⟨j, hj, e⟩ := List.mem_iff_getElem.mp hq
  rw [List.getElem_zip] at e
  rw [List.length_zip] at hj
  have := h.le j
  rw [List.getD_eq_getElem?_getD, List.getElem?_eq_getElem (by omega), List.getD_eq_getElem?_getD, List.getElem?_eq_getElem (by omega)] at this
  subst e
  simpa using this
theorem allZ_tJ (a b : List Int) (pb : Int → Int → Bool) : xAllZ pb (yCons (xV 0) (yCons (xV 1) yNil)) [.val (tJ a), .val (tJ b)] = some (.bool ((a.zip b).all fun q => pb q.1 q.2), [.val (tJ a), .val (tJ b)]) := by
  simp only [tJ, tI]
  rw [xAllZ_eq]
  simp only [yCons_eq, yNil_eq, xV_eq, List.getElem?_cons_zero, List.getElem?_cons_succ, Option.bind_some, Option.map_some]
  rw [intsOf_map, intsOf_map, Option.bind_some, Option.map_some]
def pairD (q : Int × Int) : D := .tuple [.int q.1, .int q.2]
theorem zip_pairs : ∀ a b : List Int, zipD (a.map PyData.int) (b.map PyData.int) = (a.zip b).map pairD
  | [], _ => rfl
  | _ :: _, [] => rfl
  | x :: a, y :: b => by
    have := zip_pairs a b
    unfold zipD at this ⊢
    rw [List.map_cons, List.map_cons, List.zip_cons_cons, List.zip_cons_cons, List.map_cons, List.map_cons, this]
    rfl
theorem two_loop (c0 c1 : Slot) {te : DX} {g : Int × Int → Int} (he : ∀ q : Int × Int, te [c0, c1, .val (.int q.1), .val (.int q.2)] = some (.int (g q), [c0, c1, .val (.int q.1), .val (.int q.2)])) : ∀ (ps : List (Int × Int)) (acc : List D), acc.length + ps.length ≤ 1000 →
    runLc (setV2 2 3) yesT te [2, 3] (ps.map pairD) acc [c0, c1, .no, .no] = some (acc ++ (ps.map g).map PyData.int, [c0, c1, .no, .no])
  | [], acc, _ => by simp
  | q :: ps, acc, hl => by
    simp only [List.length_cons] at hl
    have ih := two_loop c0 c1 he ps (acc ++ [.int (g q)]) (by simp; omega)
    have fit : acc.length < 100000 := by omega
    have st : setV2 2 3 (pairD q) [c0, c1, .no, .no] = some [c0, c1, .val (.int q.1), .val (.int q.2)] := by simp [pairD]
    have w : wipeS [c0, c1, .val (.int q.1), .val (.int q.2)] [2, 3] = [c0, c1, .no, .no] := rfl
    rw [List.map_cons]
    simp only [runLc, st, Option.bind_some, yesT_eq, if_true, he q, if_pos fit, w]
    rw [ih]
    simp
theorem two_comp {a b : List Int} {te : DX} {g : Int × Int → Int} (hl : a.length ≤ 100) (he : ∀ q : Int × Int, te [.val (tJ a), .val (tJ b), .val (.int q.1), .val (.int q.2)] = some (.int (g q), [.val (tJ a), .val (tJ b), .val (.int q.1), .val (.int q.2)])) :
    yLc (iZip (yCons (xV 0) (yCons (xV 1) yNil))) (setV2 2 3) yesT te [2, 3] [.val (tJ a), .val (tJ b), .no, .no] = some (((a.zip b).map g).map PyData.int, [.val (tJ a), .val (tJ b), .no, .no]) := by
  have i : iZip (yCons (xV 0) (yCons (xV 1) yNil)) [.val (tJ a), .val (tJ b), .no, .no] = some (zipD (a.map PyData.int) (b.map PyData.int), [.val (tJ a), .val (tJ b), .no, .no]) := rfl
  have lp := two_loop (.val (tJ a)) (.val (tJ b)) he (a.zip b) [] (by rw [List.length_zip]; simp; omega)
  rw [yLc_eq, i, Option.bind_some]
  have w : wipeS [Slot.val (tJ a), .val (tJ b), .no, .no] [2, 3] = [.val (tJ a), .val (tJ b), .no, .no] := rfl
  show (runLc _ _ _ _ (zipD (a.map PyData.int) (b.map PyData.int)) [] (wipeS [Slot.val (tJ a), .val (tJ b), .no, .no] [2, 3])).map _ = _
  rw [w, zip_pairs, lp, Option.map_some]
  rfl
theorem sumE_tJ {r : List Int} (hl : r.length ≤ 1000) (h : (numI 1 r).all (fun q => decide (-1000000 ≤ q.1 - q.2 ∧ q.1 - q.2 ≤ 1000000)) = true) : xSumE (fun i j => i - j) (yCons (xV 0) (yCons (xC (PyData.int 1)) yNil)) [.val (tJ r)] = some (.int (lossI 1 r), [.val (tJ r)]) := by
  simp only [tJ, tI]
  rw [xSumE_eq]
  simp only [yCons_eq, yNil_eq, xV_eq, xC_eq, List.getElem?_cons_zero, Option.bind_some, Option.map_some]
  rw [if_pos (by decide), intsOf_map, Option.bind_some, if_pos ⟨hl, h⟩, loss_sum]
end BC
set_option Elab.async false
set_option linter.all false
set_option maxRecDepth 100000
set_option maxHeartbeats 2000000
namespace BC
open PySem PySem.Spec PyProof.Rows L2 GxR
/-! ### equality of data as the kernel can run it -/
mutual
def beqD : D → D → Bool
  | .none, .none => true
  | .bool a, .bool b => a == b
  | .int a, .int b => decide (a = b)
  | .list a, .list b => beqA a b
  | .tuple a, .tuple b => beqA a b
  | _, _ => false
def beqA : List D → List D → Bool
  | [], [] => true
  | x :: xs, y :: ys => beqD x y && beqA xs ys
  | _, _ => false
end
mutual
theorem beqD_eq : ∀ {a b : D}, beqD a b = true → a = b
  | .none, b, h => by cases b <;> simp [beqD] at h ⊢
  | .bool a, b, h => by cases b <;> simp [beqD] at h ⊢; exact h
  | .int a, b, h => by cases b <;> simp [beqD] at h ⊢; exact h
  | .list a, b, h => by
    cases b <;> simp [beqD] at h ⊢
    exact beqA_eq h
  | .tuple a, b, h => by
    cases b <;> simp [beqD] at h ⊢
    exact beqA_eq h
  | .str a, b, h => by cases b <;> simp [beqD] at h
  | .dict a, b, h => by cases b <;> simp [beqD] at h
theorem beqA_eq : ∀ {a b : List D}, beqA a b = true → a = b
  | [], [], _ => rfl
  | [], _ :: _, h => by simp [beqA] at h
  | _ :: _, [], h => by simp [beqA] at h
  | x :: xs, y :: ys, h => by
    simp only [beqA, Bool.and_eq_true] at h
    rw [beqD_eq h.1, beqA_eq h.2]
end
def beqS : SS → SS → Bool
  | [], [] => true
  | .no :: r, .no :: t => beqS r t
  | .val a :: r, .val b :: t => beqD a b && beqS r t
  | _, _ => false
theorem beqS_eq : ∀ {a b : SS}, beqS a b = true → a = b
  | [], [], _ => rfl
  | [], _ :: _, h => by simp [beqS] at h
  | x :: r, [], h => by cases x <;> simp [beqS] at h
  | x :: r, y :: t, h => by
    cases x <;> cases y <;> simp only [beqS, Bool.and_eq_true] at h <;> (try (cases h; done))
    · rw [beqS_eq h]
    · rw [beqD_eq h.1, beqS_eq h.2]
def beqR : Option (D × SS) → Option (D × SS) → Bool
  | some (a, s), some (b, t) => beqD a b && beqS s t
  | _, _ => false
theorem beqR_eq {a b : Option (D × SS)} (h : beqR a b = true) : a = b := by
  unfold beqR at h
  split at h
  · rw [Bool.and_eq_true] at h
    rw [beqD_eq h.1, beqS_eq h.2]
  · cases h
/-! ### all stairs -/
def upTo (lo : Int) : Nat → List Int
  | 0 => []
  | k + 1 => lo :: upTo (lo + 1) k
theorem mem_upTo {x : Int} : ∀ (k : Nat) (lo : Int), lo ≤ x → x < lo + k → x ∈ upTo lo k
  | 0, lo, h1, h2 => by omega
  | k + 1, lo, h1, h2 => by
    by_cases h : x = lo
    · exact List.mem_cons.mpr (.inl h)
    · exact List.mem_cons_of_mem _ (mem_upTo k (lo + 1) (by omega) (by omega))
def stairsOf : Nat → List (List Int)
  | 0 => [[]]
  | 1 => [[1]]
  | n + 1 => (stairsOf n).flatMap fun r => (upTo (r.getD (n - 1) 0) (((n : Int) + 1 - r.getD (n - 1) 0 + 1).toNat)).map fun e => r ++ [e]
theorem St.front {n : Nat} {r : List Int} (s : St (n + 1) r) : St n (r.take n) := by
  have hl := s.len
  have g : ∀ j, j < n → (r.take n).getD j 0 = r.getD j 0 := fun j hj => by
    rw [List.getD_eq_getElem?_getD, List.getD_eq_getElem?_getD, List.getElem?_take_of_lt hj]
  refine ⟨by rw [List.length_take]; omega, fun j hj => by rw [g j hj]; exact s.lo j (by omega), fun j hj => by rw [g j hj]; exact s.hi j (by omega), fun j hj => ?_⟩
  rw [g j (by omega), g (j + 1) hj]
  exact s.mono j (by omega)
theorem St.mem_stairs : ∀ {n : Nat} {r : List Int}, St n r → r ∈ stairsOf n
  | 0, r, s => by
    have := List.eq_nil_of_length_eq_zero s.len
    subst this
    exact List.mem_cons_self
  | 1, r, s => by
    have h := s.len
    match r, h with
    | [x], _ =>
      have h1 := s.lo 0 (by omega)
      have h2 := s.hi 0 (by omega)
      simp at h1 h2
      have : x = 1 := by omega
      subst this
      exact List.mem_cons_self
  | n + 2, r, s => by
    have ih := (St.front s).mem_stairs
    have hl := s.len
    have g : (r.take (n + 1)).getD n 0 = r.getD n 0 := by rw [List.getD_eq_getElem?_getD, List.getD_eq_getElem?_getD, List.getElem?_take_of_lt (by omega)]
    show r ∈ (stairsOf (n + 1)).flatMap _
    rw [List.mem_flatMap]
    refine ⟨_, ih, ?_⟩
    rw [List.mem_map]
    have h1 := s.mono n (by omega)
    have h2 := s.hi (n + 1) (by omega)
    have h3 := s.hi n (by omega)
    refine ⟨r.getD (n + 1) 0, mem_upTo _ _ ?_ ?_, ?_⟩
    · show (r.take (n + 1)).getD n 0 ≤ _
      rw [g]; exact h1
    · show _ < (r.take (n + 1)).getD n 0 + _
      have e : (n + 1 - 1 : Nat) = n := by omega
      rw [e, g]
      push_cast
      omega
    · have := List.take_append_drop (n + 1) r
      have hd : r.drop (n + 1) = [r.getD (n + 1) 0] := by
        have hi : n + 1 < r.length := by omega
        rw [List.drop_eq_getElem_cons hi, List.drop_of_length_le (by omega), List.getD_eq_getElem?_getD, List.getElem?_eq_getElem hi]
        rfl
      rw [hd] at this
      exact this
/-- what every stair has -/
theorem all_stairs_of {n : Nat} {p : List Int → Bool} (h : (stairsOf n).all p = true) {r : List Int} (s : St n r) : p r = true := List.all_eq_true.mp h r s.mem_stairs
def isSt (n : Nat) (r : List Int) : Bool := decide (r.length = n) && (List.range n).all (fun j => decide (1 ≤ r.getD j 0) && decide (r.getD j 0 ≤ (j : Int) + 1) && (decide (j + 1 = n) || decide (r.getD j 0 ≤ r.getD (j + 1) 0)))
theorem isSt_St {n : Nat} {r : List Int} (h : isSt n r = true) : St n r := by
  unfold isSt at h
  rw [Bool.and_eq_true, List.all_eq_true, decide_eq_true_eq] at h
  have g : ∀ j, j < n → (1 ≤ r.getD j 0 ∧ r.getD j 0 ≤ (j : Int) + 1) ∧ (j + 1 = n ∨ r.getD j 0 ≤ r.getD (j + 1) 0) := fun j hj => by
    have := h.2 j (List.mem_range.mpr hj)
    simp only [Bool.and_eq_true, Bool.or_eq_true, decide_eq_true_eq] at this
    exact this
  exact ⟨h.1, fun j hj => (g j hj).1.1, fun j hj => (g j hj).1.2, fun j hj => (g j (by omega)).2.elim (fun z => by omega) id⟩
/-! ### the least number of bells, the last bells -/
def nextI (r : List Int) (j : Nat) : Int := if j + 1 = r.length then r.getD 0 0 + (r.length : Nat) else r.getD (j + 1) 0
def prevI (r : List Int) (j : Nat) : Int := if j = 0 then r.getD (r.length - 1) 0 - (r.length : Nat) else r.getD (j - 1) 0
def needTo (r : List Int) : Nat → Int
  | 0 => 0
  | j + 1 => needTo r j + if nextI r j = r.getD j 0 then 0 else ((j : Int) + 1 - r.getD j 0)
def needI (r : List Int) : Int := needTo r r.length
def lastI (r : List Int) : List (Int × List Int) := (List.range r.length).filterMap fun j => if prevI r j = r.getD j 0 ∧ nextI r j ≠ r.getD j 0 then some ((j : Int) + 1, r.set j (min ((j : Int) + 1) (nextI r j))) else none
def pairL (q : Int × List Int) : D := .tuple [.int q.1, tJ q.2]
end BC
set_option Elab.async false
set_option linter.all false
set_option maxRecDepth 100000
set_option maxHeartbeats 2000000
namespace BC
open PySem PySem.Spec PyProof.Rows L2 GxR
theorem enumD_cons (k0 : Int) (d : D) (ds : List D) : enumD k0 (d :: ds) = .tuple [.int k0, d] :: enumD (k0 + 1) ds := by
  unfold enumD
  rw [List.length_cons, List.range_succ_eq_map, List.map_cons, List.map_map]
  congr 1
  · simp
  · refine List.map_congr_left fun i _ => ?_
    show (match (d :: ds)[i + 1]? with | some x => _ | none => _) = _
    rw [List.getElem?_cons_succ]
    cases ds[i]? with
    | none => rfl
    | some x => simp; omega
theorem enumD_nil (k0 : Int) : enumD k0 [] = [] := rfl
/-- x, reading rows -/
theorem getN {r : List Int} {j : Nat} (h : j < r.length) : (r.map PyData.int)[j]? = some (.int (r.getD j 0)) := by
  rw [List.getElem?_map, List.getElem?_eq_getElem h]
  simp [List.getD_eq_getElem?_getD, List.getElem?_eq_getElem h]
theorem drop_getD {r : List Int} {j : Nat} {x : Int} {t : List Int} (h : r.drop j = x :: t) : j < r.length ∧ r.getD j 0 = x ∧ r.drop (j + 1) = t := by
  have hl : j < r.length := by
    by_cases z : j < r.length
    · exact z
    · rw [List.drop_of_length_le (by omega)] at h; cases h
  rw [List.drop_eq_getElem_cons hl] at h
  injection h with h1 h2
  exact ⟨hl, by rw [List.getD_eq_getElem?_getD, List.getElem?_eq_getElem hl, ← h1]; rfl, h2⟩
theorem eb_last {ds : List D} {x : Int} (h0 : ds[0]? = some (.int x)) (i0 : ixN ds.length 0 = some 0) : fn_entry_behind [.val (.tuple ds), .val (.int (ds.length : Nat))] = some (.int (x + (ds.length : Nat)), [.no, .no]) := by
  simp [fn_entry_behind, sx_entry_behind, gEq_int, i0, h0]
theorem eb_mid {ds : List D} {p x : Int} {k : Nat} (hp : ¬ p = ((ds.length : Nat) : Int)) (i : ixN ds.length p = some k) (h : ds[k]? = some (.int x)) : fn_entry_behind [.val (.tuple ds), .val (.int p)] = some (.int x, [.no, .no]) := by
  simp [fn_entry_behind, sx_entry_behind, gEq_int, i, h, hp]
theorem ef_first {ds : List D} {x : Int} {k : Nat} (i : ixN ds.length (-1) = some k) (h : ds[k]? = some (.int x)) : fn_entry_before [.val (.tuple ds), .val (.int 1)] = some (.int (x - (ds.length : Nat)), [.no, .no]) := by
  simp [fn_entry_before, sx_entry_before, gEq_int, i, h]
theorem ef_mid {ds : List D} {p x : Int} {k : Nat} (hp : ¬ p = 1) (i : ixN ds.length (p - 2) = some k) (h : ds[k]? = some (.int x)) : fn_entry_before [.val (.tuple ds), .val (.int p)] = some (.int x, [.no, .no]) := by
  simp [fn_entry_before, sx_entry_before, gEq_int, i, h, hp]
theorem entry_behind_eq {r : List Int} {j : Nat} {p : Int} (hj : j < r.length) (hp : p = (j : Int) + 1) : fn_entry_behind [.val (tJ r), .val (.int p)] = some (.int (nextI r j), [.no, .no]) := by
  subst hp
  have hm : (r.map PyData.int).length = r.length := List.length_map _
  by_cases h : j + 1 = r.length
  · have e := eb_last (getN (r := r) (j := 0) (by omega)) (by rw [hm]; exact ixN_in (by omega) (by omega))
    rw [hm] at e
    have e2 : ((j : Int) + 1) = ((r.length : Nat) : Int) := by omega
    unfold nextI
    rw [if_pos h, e2]
    exact e
  · have e := eb_mid (p := (j : Int) + 1) (by rw [hm]; omega) (by rw [hm, ixN_in (by omega) (by omega)]) (getN (r := r) (j := ((j : Int) + 1).toNat) (by omega))
    unfold nextI
    rw [if_neg h]
    exact e
theorem entry_before_eq {r : List Int} {j : Nat} {p : Int} (hj : j < r.length) (hp : p = (j : Int) + 1) : fn_entry_before [.val (tJ r), .val (.int p)] = some (.int (prevI r j), [.no, .no]) := by
  subst hp
  have hm : (r.map PyData.int).length = r.length := List.length_map _
  cases j with
  | zero =>
    have e := ef_first (by rw [hm]; have := neg1_ix (r.length - 1); rw [show r.length - 1 + 1 = r.length by omega] at this; exact this) (getN (r := r) (j := r.length - 1) (by omega))
    rw [hm] at e
    exact e
  | succ j =>
    have e := ef_mid (p := ((j + 1 : Nat) : Int) + 1) (k := j) (by omega) (by rw [hm, ixN_in (by omega) (by omega)]; congr 1; omega) (getN (r := r) (j := j) (by omega))
    exact e
theorem need_loop {r : List Int} {A : D} (HB : ∀ j, j < r.length → fn_entry_behind [.val A, .val (.int ((j : Int) + 1))] = some (.int (nextI r j), [.no, .no])) : ∀ (t : List Int) (j : Nat) (k0 acc : Int) (p q : Slot), j ≤ r.length → r.drop j = t → k0 = (j : Int) + 1 → acc = needTo r j →
    ∃ p' q', runFor (setV2 2 3) (sIf (xT (x2 gNe (xFn fn_entry_behind (yCons (xV 0) (yCons (xV 2) yNil))) (xV 3))) (sAug 1 (fun i j => i + j) (x2 gSub (xV 2) (xV 3))) sNx) (enumD k0 (t.map PyData.int)) [.val A, .val (.int acc), p, q] = some (.nx [.val A, .val (.int (needI r)), p', q'])
  | [], j, k0, acc, p, q, hj, hd, hk, ha => by
    have hl : r.length ≤ j := by
      have := congrArg List.length hd
      rw [List.length_drop] at this
      simp at this
      omega
    refine ⟨p, q, ?_⟩
    have : needTo r j = needI r := by rw [show j = r.length by omega]; rfl
    rw [ha, this]
    simp [enumD_nil]
  | x :: t, j, k0, acc, p, q, hj, hd, hk, ha => by
    obtain ⟨hl, hx, ht⟩ := drop_getD hd
    subst hk
    have e := HB j hl
    obtain ⟨p', q', ih⟩ := need_loop HB t (j + 1) ((j : Int) + 1 + 1) (needTo r (j + 1)) (.val (.int ((j : Int) + 1))) (.val (.int x)) hl ht (by push_cast; rfl) rfl
    refine ⟨p', q', ?_⟩
    rw [List.map_cons, enumD_cons]
    by_cases h : nextI r j = x
    · have hn : needTo r (j + 1) = acc := by rw [ha]; show needTo r j + _ = _; rw [hx, if_pos h]; omega
      rw [hn] at ih
      simp [runFor, e, gNe_int, h, ih]
    · have hn : needTo r (j + 1) = acc + ((j : Int) + 1 - x) := by rw [ha]; show needTo r j + _ = _; rw [hx, if_neg h]
      rw [hn] at ih
      simp [runFor, e, gNe_int, h, ih]
end BC
set_option Elab.async false
set_option linter.all false
set_option maxRecDepth 100000
set_option maxHeartbeats 2000000
namespace BC
open PySem PySem.Spec PyProof.Rows L2 GxR
theorem bells_needed_aux {A : D} {ds : List D} {n : Int} {p q : Slot} (hi : iEn2 (yCons (xV 0) (yCons (xC (PyData.int 1)) yNil)) [.val A, .val (.int 0), .no, .no] = some (ds, [.val A, .val (.int 0), .no, .no]))
    (hr : runFor (setV2 2 3) (sIf (xT (x2 gNe (xFn fn_entry_behind (yCons (xV 0) (yCons (xV 2) yNil))) (xV 3))) (sAug 1 (fun i j => i + j) (x2 gSub (xV 2) (xV 3))) sNx) ds [.val A, .val (.int 0), .no, .no] = some (.nx [.val A, .val (.int n), p, q])) :
    fn_bells_needed [.val A] = some (.int n, [.no]) := by
  simp [fn_bells_needed, sx_bells_needed, hi, hr, -iEn2_eq]
theorem bells_needed_eq {r : List Int} (h : 1 ≤ r.length) : fn_bells_needed [.val (tJ r)] = some (.int (needI r), [.no]) := by
  obtain ⟨p, q, e⟩ := need_loop (r := r) (A := tJ r) (fun j hj => entry_behind_eq hj rfl) r 0 1 0 .no .no (Nat.zero_le _) rfl rfl rfl
  refine bells_needed_aux ?_ e
  simp [tJ, tI]
theorem last_body {ds acc : List D} {j : Nat} {x nx pv p : Int} {s4 s5 : Slot} (hp : p = (j : Int) + 1) (HB : fn_entry_behind [.val (.tuple ds), .val (.int p)] = some (.int nx, [.no, .no])) (HF : fn_entry_before [.val (.tuple ds), .val (.int p)] = some (.int pv, [.no, .no]))
    (hj : j < ds.length) (hl : ds.length ≤ 100) (ha : acc.length < 100000) : ∃ s5', (sSeq (sSet 4 (xFn fn_entry_behind (yCons (xV 0) (yCons (xV 2) yNil))))
    (sIf (yAnd (xT (x2 gEq (xFn fn_entry_before (yCons (xV 0) (yCons (xV 2) yNil))) (xV 3))) (xT (x2 gNe (xV 4) (xV 3)))) (sSeq (sSet 5 (x2 gAdd (x2 gAdd (xSl (xV 0) oNo (oSm (x2 gSub (xV 2) (xC (PyData.int 1))))) (xTup (yCons (xCall gMin (yCons (xV 2) (yCons (xV 4) yNil))) yNil))) (xSl (xV 0) (oSm (xV 2)) oNo)))
    (sApp 1 (xTup (yCons (xV 2) (yCons (xV 5) yNil))))) sNx)) [.val (.tuple ds), .own (.lst acc), .val (.int p), .val (.int x), s4, s5]
      = some (.nx [.val (.tuple ds), .own (.lst (if pv = x ∧ nx ≠ x then acc ++ [.tuple [.int p, .tuple (ds.set j (.int (min p nx)))]] else acc)), .val (.int p), .val (.int x), .val (.int nx), s5']) := by
  subst hp
  have sp := set_split ds j (.int (min ((j : Int) + 1) nx)) hj
  have h1 : cutD ds none (some ((j : Int) + 1 - 1)) = ds.take j := by rw [cutD_lo (by omega)]; congr 1; omega
  have h2 : cutD ds (some ((j : Int) + 1)) none = ds.drop (j + 1) := by rw [cutD_hi (by omega)]; congr 1
  have m : (if nx < (j : Int) + 1 then nx else (j : Int) + 1) = min ((j : Int) + 1) nx := by omega
  have e4 : min j ds.length + 1 ≤ 100000 := by omega
  have e5 : min j ds.length + 1 + (ds.length - (j + 1)) ≤ 100000 := by omega
  by_cases c1 : pv = x
  · by_cases c2 : nx = x
    · exact ⟨s5, by simp [HB, HF, gEq_int, gNe_int, c1, c2]⟩
    · refine ⟨.val (.tuple (ds.set j (.int (min ((j : Int) + 1) nx)))), ?_⟩
      have h1' : cutD ds none (some (j : Int)) = ds.take j := by rw [cutD_lo (by omega)]; congr 1
      simp [HB, HF, gEq_int, gNe_int, c1, c2, h1, h1', h2, m, e4, e5, ha, sp]
  · exact ⟨s5, by simp [HB, HF, gEq_int, gNe_int, c1]⟩
def lastG (r : List Int) (j : Nat) : Option (Int × List Int) := if prevI r j = r.getD j 0 ∧ nextI r j ≠ r.getD j 0 then some ((j : Int) + 1, r.set j (min ((j : Int) + 1) (nextI r j))) else none
theorem lastI_eq (r : List Int) : lastI r = (List.range r.length).filterMap (lastG r) := rfl
theorem last_loop {r : List Int} (hr : r.length ≤ 100) : ∀ (t : List Int) (j : Nat) (k0 : Int) (s2 s3 s4 s5 : Slot), j ≤ r.length → r.drop j = t → k0 = (j : Int) + 1 →
    ∃ s2' s3' s4' s5', runFor (setV2 2 3) (sSeq (sSet 4 (xFn fn_entry_behind (yCons (xV 0) (yCons (xV 2) yNil))))
    (sIf (yAnd (xT (x2 gEq (xFn fn_entry_before (yCons (xV 0) (yCons (xV 2) yNil))) (xV 3))) (xT (x2 gNe (xV 4) (xV 3)))) (sSeq (sSet 5 (x2 gAdd (x2 gAdd (xSl (xV 0) oNo (oSm (x2 gSub (xV 2) (xC (PyData.int 1))))) (xTup (yCons (xCall gMin (yCons (xV 2) (yCons (xV 4) yNil))) yNil))) (xSl (xV 0) (oSm (xV 2)) oNo)))
    (sApp 1 (xTup (yCons (xV 2) (yCons (xV 5) yNil))))) sNx)) (enumD k0 (t.map PyData.int)) [.val (tJ r), .own (.lst (((List.range j).filterMap (lastG r)).map pairL)), s2, s3, s4, s5] = some (.nx [.val (tJ r), .own (.lst ((lastI r).map pairL)), s2', s3', s4', s5'])
  | [], j, k0, s2, s3, s4, s5, hj, hd, hk => by
    have hl : r.length ≤ j := by
      have := congrArg List.length hd
      rw [List.length_drop] at this
      simp at this
      omega
    refine ⟨s2, s3, s4, s5, ?_⟩
    rw [lastI_eq, show j = r.length by omega]
    simp only [List.map_nil, enumD_nil, runFor_nil]
  | x :: t, j, k0, s2, s3, s4, s5, hj, hd, hk => by
    obtain ⟨hl, hx, ht⟩ := drop_getD hd
    have hm : (r.map PyData.int).length = r.length := List.length_map _
    have ha : (((List.range j).filterMap (lastG r)).map pairL).length < 100000 := by
      rw [List.length_map]
      have := List.length_filterMap_le (lastG r) (List.range j)
      rw [List.length_range] at this
      omega
    obtain ⟨s5', e⟩ := last_body (ds := r.map PyData.int) (x := x) (s4 := s4) (s5 := s5) hk (by subst hk; exact entry_behind_eq hl rfl) (by subst hk; exact entry_before_eq hl rfl) (by rw [hm]; exact hl) (by rw [hm]; exact hr) ha
    have hn : (if prevI r j = x ∧ nextI r j ≠ x then ((List.range j).filterMap (lastG r)).map pairL ++ [.tuple [.int k0, .tuple ((r.map PyData.int).set j (.int (min k0 (nextI r j))))]] else ((List.range j).filterMap (lastG r)).map pairL) = ((List.range (j + 1)).filterMap (lastG r)).map pairL := by
      rw [List.range_succ, List.filterMap_append, List.map_append]
      by_cases c : prevI r j = x ∧ nextI r j ≠ x
      · have g : lastG r j = some ((j : Int) + 1, r.set j (min ((j : Int) + 1) (nextI r j))) := by unfold lastG; rw [hx, if_pos c]
        rw [if_pos c, List.filterMap_cons, g]
        subst hk
        simp [pairL, tJ, tI, List.map_set]
      · have g : lastG r j = none := by unfold lastG; rw [hx, if_neg c]
        rw [if_neg c, List.filterMap_cons, g]
        simp
    obtain ⟨a2, a3, a4, a5, ih⟩ := last_loop hr t (j + 1) (k0 + 1) (.val (.int k0)) (.val (.int x)) (.val (.int (nextI r j))) s5' hl ht (by omega)
    refine ⟨a2, a3, a4, a5, ?_⟩
    rw [List.map_cons, enumD_cons]
    rw [← hn] at ih
    unfold runFor
    have st : setV2 2 3 (.tuple [.int k0, .int x]) [.val (tJ r), .own (.lst (((List.range j).filterMap (lastG r)).map pairL)), s2, s3, s4, s5] = some [.val (tJ r), .own (.lst (((List.range j).filterMap (lastG r)).map pairL)), .val (.int k0), .val (.int x), s4, s5] := by simp
    rw [st, Option.bind_some]
    have e' : _ = _ := e
    rw [show tJ r = .tuple (r.map PyData.int) from rfl] at ih ⊢
    rw [e', Option.bind_some]
    exact ih
end BC
set_option Elab.async false
set_option linter.all false
set_option maxRecDepth 100000
set_option maxHeartbeats 2000000
namespace BC
open PySem PySem.Spec PyProof.Rows L2 GxR
theorem getD_set_ne {r : List Int} {i j : Nat} {x : Int} (h : i ≠ j) : (r.set i x).getD j 0 = r.getD j 0 := by
  rw [List.getD_eq_getElem?_getD, List.getD_eq_getElem?_getD, List.getElem?_set_ne h]
theorem getD_set_self {r : List Int} {i : Nat} {x : Int} (h : i < r.length) : (r.set i x).getD i 0 = x := by
  rw [List.getD_eq_getElem?_getD, List.getElem?_set_self h]; rfl
theorem nextI_set {r : List Int} {j i : Nat} {x : Int} (h1 : 1 ≤ j) (h2 : i + 1 ≠ j) : nextI (r.set j x) i = nextI r i := by
  unfold nextI
  rw [List.length_set]
  split
  · rw [getD_set_ne (by omega)]
  · rw [getD_set_ne (by omega)]
theorem needTo_low {r : List Int} {j : Nat} {x : Int} (h1 : 1 ≤ j) : ∀ i, i + 1 ≤ j → needTo (r.set j x) i = needTo r i
  | 0, _ => rfl
  | i + 1, h => by
    show needTo (r.set j x) i + _ = needTo r i + _
    rw [needTo_low h1 i (by omega), nextI_set h1 (by omega), getD_set_ne (by omega)]
theorem needTo_high {r : List Int} {j : Nat} {x : Int} (h1 : 1 ≤ j) (h2 : needTo (r.set j x) (j + 1) + 1 = needTo r (j + 1)) : ∀ i, needTo (r.set j x) (j + 1 + i) + 1 = needTo r (j + 1 + i)
  | 0 => h2
  | i + 1 => by
    rw [show j + 1 + (i + 1) = (j + 1 + i) + 1 by omega]
    show needTo (r.set j x) (j + 1 + i) + _ + 1 = needTo r (j + 1 + i) + _
    rw [nextI_set h1 (by omega), getD_set_ne (by omega)]
    have := needTo_high h1 h2 i
    omega
theorem last_at {r : List Int} {q : Int × List Int} (h : q ∈ lastI r) : ∃ j, j < r.length ∧ prevI r j = r.getD j 0 ∧ nextI r j ≠ r.getD j 0 ∧ q = ((j : Int) + 1, r.set j (min ((j : Int) + 1) (nextI r j))) := by
  rw [lastI_eq, List.mem_filterMap] at h
  obtain ⟨j, h1, h2⟩ := h
  unfold lastG at h2
  split at h2
  · rename_i c
    exact ⟨j, List.mem_range.mp h1, c.1, c.2, (Option.some.inj h2).symm⟩
  · cases h2
section
variable {n : Nat} {r : List Int} {q : Int × List Int}
theorem St.first_one (s : St n r) (hn : 1 ≤ n) : r.getD 0 0 = 1 := by
  have := s.lo 0 (by omega)
  have := s.hi 0 (by omega)
  omega
/-- a last bell of a stair -/
theorem St.last_at (s : St n r) (h : q ∈ lastI r) : ∃ m, m + 1 < n ∧ r.getD m 0 = r.getD (m + 1) 0 ∧ r.getD (m + 1) 0 < nextI r (m + 1) ∧ q = (((m : Int) + 1) + 1, r.set (m + 1) (min ((m : Int) + 1 + 1) (nextI r (m + 1)))) := by
  obtain ⟨j, hj, h1, h2, h3⟩ := BC.last_at h
  have hl := s.len
  cases j with
  | zero =>
    exfalso
    have a := s.first_one (by omega)
    have b := s.hi (n - 1) (by omega)
    unfold prevI at h1
    rw [if_pos rfl, hl, a] at h1
    omega
  | succ m =>
    refine ⟨m, by omega, ?_, ?_, by rw [h3]; rfl⟩
    · unfold prevI at h1
      rw [if_neg (by omega)] at h1
      simpa using h1
    · have : r.getD (m + 1) 0 ≤ nextI r (m + 1) := by
        unfold nextI
        split
        · have a := s.first_one (by omega)
          have b := s.hi (m + 1) (by omega)
          rw [a]
          omega
        · exact s.mono (m + 1) (by omega)
      omega
theorem St.last_St (s : St n r) (h : q ∈ lastI r) : St n q.2 := by
  obtain ⟨m, hm, h1, h2, rfl⟩ := s.last_at h
  have hl := s.len
  have lo := s.lo (m + 1) hm
  have hi := s.hi (m + 1) hm
  have him := s.hi m (by omega)
  have hx : r.getD (m + 1) 0 < min ((m : Int) + 1 + 1) (nextI r (m + 1)) := by push_cast at hi; omega
  refine ⟨by rw [List.length_set]; exact hl, fun i hi' => ?_, fun i hi' => ?_, fun i hi' => ?_⟩
  · by_cases c : m + 1 = i
    · subst c; show 1 ≤ (r.set _ _).getD _ _; rw [getD_set_self (by omega)]; omega
    · show 1 ≤ (r.set _ _).getD _ _; rw [getD_set_ne c]; exact s.lo i hi'
  · by_cases c : m + 1 = i
    · subst c; show (r.set _ _).getD _ _ ≤ _; rw [getD_set_self (by omega)]; push_cast; omega
    · show (r.set _ _).getD _ _ ≤ _; rw [getD_set_ne c]; exact s.hi i hi'
  · show (r.set _ _).getD _ _ ≤ (r.set _ _).getD _ _
    by_cases c : m + 1 = i
    · subst c
      rw [getD_set_self (by omega), getD_set_ne (by omega)]
      have : nextI r (m + 1) = r.getD (m + 1 + 1) 0 := by unfold nextI; rw [if_neg (by omega)]
      omega
    · by_cases c2 : m + 1 = i + 1
      · have : i = m := by omega
        subst this
        rw [getD_set_ne c, getD_set_self (by omega), h1]
        omega
      · rw [getD_set_ne c, getD_set_ne c2]; exact s.mono i hi'
theorem St.last_bell (s : St n r) (h : q ∈ lastI r) : 2 ≤ q.1 ∧ q.1 ≤ n := by
  obtain ⟨m, hm, h1, h2, rfl⟩ := s.last_at h
  constructor
  · show (2 : Int) ≤ (m : Int) + 1 + 1; omega
  · show (m : Int) + 1 + 1 ≤ (n : Int); omega
theorem St.last_behind (s : St n r) (h : q ∈ lastI r) : behindI q.2 q.1 = r := by
  obtain ⟨m, hm, h1, h2, rfl⟩ := s.last_at h
  have hl := s.len
  unfold behindI
  show ((r.set (m + 1) _).set ((m : Int) + 1 + 1 - 1).toNat ((r.set (m + 1) _).getD ((m : Int) + 1 + 1 - 2).toNat 0)) = r
  rw [show ((m : Int) + 1 + 1 - 1).toNat = m + 1 by omega, show ((m : Int) + 1 + 1 - 2).toNat = m by omega, getD_set_ne (by omega), List.set_set, h1]
  refine List.ext_getElem? fun i => ?_
  by_cases c : m + 1 = i
  · subst c
    rw [List.getElem?_set_self (by omega), List.getD_eq_getElem?_getD, List.getElem?_eq_getElem (by omega)]; rfl
  · rw [List.getElem?_set_ne c]
theorem St.last_need (s : St n r) (h : q ∈ lastI r) : needI q.2 + 1 = needI r := by
  obtain ⟨m, hm, h1, h2, rfl⟩ := s.last_at h
  have hl := s.len
  have him := s.hi m (by omega)
  show needI (r.set (m + 1) _) + 1 = _
  unfold needI
  rw [List.length_set]
  have key : needTo (r.set (m + 1) (min ((m : Int) + 1 + 1) (nextI r (m + 1)))) (m + 1 + 1) + 1 = needTo r (m + 1 + 1) := by
    have n1 : nextI (r.set (m + 1) (min ((m : Int) + 1 + 1) (nextI r (m + 1)))) m = min ((m : Int) + 1 + 1) (nextI r (m + 1)) := by
      unfold nextI
      rw [List.length_set, if_neg (by omega), getD_set_self (by omega)]
    have n2 : nextI (r.set (m + 1) (min ((m : Int) + 1 + 1) (nextI r (m + 1)))) (m + 1) = nextI r (m + 1) := nextI_set (by omega) (by omega)
    have n3 : nextI r m = r.getD (m + 1) 0 := by unfold nextI; rw [if_neg (by omega)]
    have t1 : (if nextI (r.set (m + 1) (min ((m : Int) + 1 + 1) (nextI r (m + 1)))) m = (r.set (m + 1) (min ((m : Int) + 1 + 1) (nextI r (m + 1)))).getD m 0 then 0 else ((m : Nat) : Int) + 1 - (r.set (m + 1) (min ((m : Int) + 1 + 1) (nextI r (m + 1)))).getD m 0) = (m : Int) + 1 - r.getD m 0 := by
      rw [n1, getD_set_ne (by omega), if_neg (by omega)]
    have t2 : (if nextI (r.set (m + 1) (min ((m : Int) + 1 + 1) (nextI r (m + 1)))) (m + 1) = (r.set (m + 1) (min ((m : Int) + 1 + 1) (nextI r (m + 1)))).getD (m + 1) 0 then 0 else ((m + 1 : Nat) : Int) + 1 - (r.set (m + 1) (min ((m : Int) + 1 + 1) (nextI r (m + 1)))).getD (m + 1) 0) = 0 := by
      rw [n2, getD_set_self (by omega)]
      push_cast
      split <;> omega
    have t3 : (if nextI r m = r.getD m 0 then 0 else ((m : Nat) : Int) + 1 - r.getD m 0) = 0 := by rw [n3, if_pos h1.symm]
    have t4 : (if nextI r (m + 1) = r.getD (m + 1) 0 then 0 else ((m + 1 : Nat) : Int) + 1 - r.getD (m + 1) 0) = (m : Int) + 1 + 1 - r.getD (m + 1) 0 := by rw [if_neg (by omega)]; push_cast; rfl
    show needTo (r.set (m + 1) (min ((m : Int) + 1 + 1) (nextI r (m + 1)))) m + (if nextI (r.set (m + 1) (min ((m : Int) + 1 + 1) (nextI r (m + 1)))) m = (r.set (m + 1) (min ((m : Int) + 1 + 1) (nextI r (m + 1)))).getD m 0 then 0 else ((m : Nat) : Int) + 1 - (r.set (m + 1) (min ((m : Int) + 1 + 1) (nextI r (m + 1)))).getD m 0) + (if nextI (r.set (m + 1) (min ((m : Int) + 1 + 1) (nextI r (m + 1)))) (m + 1) = (r.set (m + 1) (min ((m : Int) + 1 + 1) (nextI r (m + 1)))).getD (m + 1) 0 then 0 else ((m + 1 : Nat) : Int) + 1 - (r.set (m + 1) (min ((m : Int) + 1 + 1) (nextI r (m + 1)))).getD (m + 1) 0) + 1
      = needTo r m + (if nextI r m = r.getD m 0 then 0 else ((m : Nat) : Int) + 1 - r.getD m 0) + (if nextI r (m + 1) = r.getD (m + 1) 0 then 0 else ((m + 1 : Nat) : Int) + 1 - r.getD (m + 1) 0)
    rw [t1, t2, t3, t4, needTo_low (by omega) m (by omega)]
    omega
  have := needTo_high (by omega) key (r.length - (m + 1 + 1))
  rw [show m + 1 + 1 + (r.length - (m + 1 + 1)) = r.length by omega] at this
  exact this
theorem St.last_nil (s : St n r) (h : lastI r = []) : r = firstI n := by
  have hl := s.len
  have no : ∀ j, j < n → prevI r j = r.getD j 0 → nextI r j = r.getD j 0 := fun j hj hp => by
    by_cases c : nextI r j = r.getD j 0
    · exact c
    · exfalso
      have : ((j : Int) + 1, r.set j (min ((j : Int) + 1) (nextI r j))) ∈ lastI r := by
        rw [lastI_eq, List.mem_filterMap]
        exact ⟨j, List.mem_range.mpr (by omega), by unfold lastG; rw [if_pos ⟨hp, c⟩]⟩
      rw [h] at this
      cases this
  -- no two alike beside one another
  have ne : ∀ d j, j + 1 + d + 1 = n → r.getD j 0 ≠ r.getD (j + 1) 0 := fun d => by
    induction d with
    | zero =>
      intro j hj e
      have p := no (j + 1) (by omega) (by unfold prevI; rw [if_neg (by omega)]; exact e)
      unfold nextI at p
      rw [if_pos (by omega), s.first_one (by omega)] at p
      have := s.hi (j + 1) (by omega)
      push_cast at this
      omega
    | succ d ih =>
      intro j hj e
      have p := no (j + 1) (by omega) (by unfold prevI; rw [if_neg (by omega)]; exact e)
      unfold nextI at p
      rw [if_neg (by omega)] at p
      exact ih (j + 1) (by omega) p.symm
  have all : ∀ j, j < n → r.getD j 0 = (j : Int) + 1 := fun j => by
    induction j with
    | zero => intro hj; rw [s.first_one (by omega)]; rfl
    | succ j ih =>
      intro hj
      have e := ih (by omega)
      have a := ne (n - (j + 1 + 1)) j (by omega)
      have b := s.mono j hj
      have c := s.hi (j + 1) hj
      push_cast at c ⊢
      omega
  refine List.ext_getElem? fun j => ?_
  by_cases hj : j < n
  · have := all j hj
    rw [List.getD_eq_getElem?_getD, List.getElem?_eq_getElem (by omega)] at this
    rw [List.getElem?_eq_getElem (by omega)]
    simp only [Option.getD_some] at this
    rw [this]
    unfold firstI
    rw [List.getElem?_map, List.getElem?_range hj]
    simp; omega
  · rw [List.getElem?_eq_none (by omega), List.getElem?_eq_none (by simp [firstI]; omega)]
theorem need_first {n : Nat} : needI (firstI n) = 0 := by
  have hl : (firstI n).length = n := by simp [firstI]
  have g : ∀ j, j < n → (firstI n).getD j 0 = (j : Int) + 1 := fun j hj => by
    rw [List.getD_eq_getElem?_getD]; unfold firstI; rw [List.getElem?_map, List.getElem?_range hj]; simp; omega
  have : ∀ i, i ≤ n → needTo (firstI n) i = 0 := fun i => by
    induction i with
    | zero => intro _; rfl
    | succ i ih =>
      intro hi
      show needTo (firstI n) i + _ = 0
      rw [ih (by omega), g i (by omega)]
      split <;> omega
  unfold needI
  rw [hl]
  exact this n (Nat.le_refl _)
theorem needTo_nonneg (s : St n r) : ∀ i, i ≤ n → 0 ≤ needTo r i ∧ needTo r i ≤ 7 * i ∨ 8 < n := fun i => by
  by_cases h8 : 8 < n
  · intro _; exact .inr h8
  induction i with
  | zero => intro _; exact .inl ⟨Int.le_refl _, by simp [needTo]⟩
  | succ i ih =>
    intro hi
    rcases ih (by omega) with ⟨h1, h2⟩ | h
    · have a := s.hi i (by omega)
      have b := s.lo i (by omega)
      refine .inl ?_
      show 0 ≤ needTo r i + _ ∧ needTo r i + _ ≤ _
      push_cast
      split <;> omega
    · exact .inr h
theorem St.need_pos (s : St n r) (h8 : n ≤ 8) : 0 ≤ needI r ∧ needI r ≤ 56 := by
  rcases needTo_nonneg s n (Nat.le_refl _) with ⟨h1, h2⟩ | h
  · unfold needI; rw [s.len]; constructor <;> omega
  · omega
end
end BC
set_option Elab.async false
set_option linter.all false
set_option maxRecDepth 100000
set_option maxHeartbeats 4000000
namespace BC
open PySem PySem.Spec PyProof.Rows L2 GxR
open PySem.W (alike alikeAll dataLt dataLe minD maxD)
/-! ### dicts keyed by rows, as functions -/
theorem valT_map (k : List Int) (d : D) (k' : List Int) : ∀ kvs : List (List Int × D), valT (kvs.map fun kv => if kv.1 = k then (kv.1, d) else kv) k' = if k' = k then (if hasT kvs k = true then some d else none) else valT kvs k'
  | [] => by simp [valT, hasT]
  | (j, e) :: r => by
    have ih := valT_map k d k' r
    by_cases c : j = k
    · subst c
      by_cases c2 : k' = j
      · subst c2
        simp [valT, hasT]
      · simp only [List.map_cons, if_true, valT, hasT]
        rw [if_neg (fun z => c2 z.symm), ih, if_neg c2, if_neg c2, if_neg (fun z => c2 z.symm)]
    · simp only [List.map_cons, if_neg c, valT, hasT]
      by_cases c2 : k' = k
      · subst c2
        rw [if_neg c, ih, if_pos rfl, if_pos rfl]
      · rw [if_neg c2] at ih ⊢
        rw [ih]
theorem valT_app (k : List Int) (d : D) (k' : List Int) : ∀ kvs : List (List Int × D), valT (kvs ++ [(k, d)]) k' = match valT kvs k' with | some e => some e | none => if k' = k then some d else none
  | [] => by
    by_cases c : k = k'
    · simp [valT, c]
    · have c2 : ¬ k' = k := fun z => c z.symm
      simp [valT, c, c2]
  | (j, e) :: r => by
    by_cases c : j = k'
    · simp [valT, c]
    · simp only [List.cons_append, valT, if_neg c]
      exact valT_app k d k' r
theorem valT_has (k : List Int) : ∀ kvs : List (List Int × D), hasT kvs k = (valT kvs k).isSome
  | [] => rfl
  | (j, e) :: r => by
    by_cases c : j = k
    · simp [valT, hasT, c]
    · simp only [valT, hasT, if_neg c]; exact valT_has k r
theorem valT_put (kvs : List (List Int × D)) (k : List Int) (d : D) (k' : List Int) : valT (putM kvs k d) k' = if k' = k then some d else valT kvs k' := by
  unfold putM
  by_cases h : hasT kvs k = true
  · rw [if_pos h, valT_map, if_pos h]
  · rw [if_neg h, valT_app]
    by_cases c : k' = k
    · subst c
      rw [valT_has] at h
      rw [if_pos rfl]
      cases hv : valT kvs k' with
      | none => simp
      | some e => rw [hv] at h; exact absurd rfl h
    · rw [if_neg c]
      cases valT kvs k' <;> simp [c]
theorem hasT_mem (k : List Int) : ∀ kvs : List (List Int × D), hasT kvs k = true ↔ k ∈ kvs.map (·.1)
  | [] => by simp [hasT]
  | (j, e) :: r => by
    by_cases c : j = k
    · simp [hasT, c]
    · simp only [hasT, if_neg c, List.map_cons, List.mem_cons]
      rw [hasT_mem k r]
      exact ⟨.inr, fun h => h.elim (fun z => absurd z.symm c) id⟩
theorem keys_put (kvs : List (List Int × D)) (k : List Int) (d : D) : (putM kvs k d).map (·.1) = if hasT kvs k = true then kvs.map (·.1) else kvs.map (·.1) ++ [k] := by
  unfold putM
  split
  · rw [List.map_map]
    refine List.map_congr_left fun kv _ => ?_
    dsimp
    split <;> rfl
  · rw [List.map_append]; rfl
theorem nodup_len {α : Type} [DecidableEq α] : ∀ (l E : List α), l.Nodup → (∀ x ∈ l, x ∈ E) → l.length ≤ E.length
  | [], _, _, _ => Nat.zero_le _
  | x :: l, E, hn, hm => by
    obtain ⟨h1, h2⟩ := List.nodup_cons.mp hn
    have hx := hm x List.mem_cons_self
    have := nodup_len l (E.erase x) h2 fun y hy => (List.mem_erase_of_ne (fun z : y = x => h1 (by rw [← z]; exact hy))).mpr (hm y (List.mem_cons_of_mem _ hy))
    rw [List.length_erase_of_mem hx] at this
    have := List.length_pos_of_mem hx
    simp only [List.length_cons]
    omega
/-! ### the smallest row of bells -/
def bestW : List (List Int) → List Int
  | [] => []
  | w :: ws => ws.foldl (fun a y => if dataLt (tJ y) (tJ a) = true then y else a) w
theorem min_best (w : List Int) : ∀ ws : List (List Int), minD (tJ w) (ws.map tJ) = tJ (bestW (w :: ws)) := fun ws => by
  show (ws.map tJ).foldl _ _ = tJ (ws.foldl _ _)
  rw [List.foldl_map]
  induction ws generalizing w with
  | nil => rfl
  | cons y r ih =>
    rw [List.foldl_cons, List.foldl_cons, ← ih]
    congr 1
    by_cases h : dataLt (tJ y) (tJ w) = true
    · rw [if_pos h, if_pos h]
    · rw [if_neg h, if_neg h]
theorem best_mem (w : List Int) : ∀ ws : List (List Int), bestW (w :: ws) ∈ w :: ws := fun ws => by
  show ws.foldl _ w ∈ _
  induction ws generalizing w with
  | nil => exact List.mem_cons_self
  | cons y r ih =>
    rw [List.foldl_cons]
    have := ih (if dataLt (tJ y) (tJ w) = true then y else w)
    rcases List.mem_cons.mp this with h | h
    · rw [h]
      split
      · exact List.mem_cons_of_mem _ List.mem_cons_self
      · exact List.mem_cons_self
    · exact List.mem_cons_of_mem _ (List.mem_cons_of_mem _ h)
def sbI : Nat → List Int → List Int
  | 0, _ => []
  | k + 1, r => bestW ((lastI r).map fun q => sbI k q.2 ++ [q.1])
def sb (r : List Int) : List Int := sbI ((needI r).toNat + 1) r
section
variable {n : Nat} {r : List Int}
theorem sb_fuel : ∀ (k k' : Nat) {r : List Int}, St n r → n ≤ 8 → (needI r).toNat < k → (needI r).toNat < k' → sbI k r = sbI k' r
  | 0, _, _, _, _, h, _ => by omega
  | _, 0, _, _, _, _, h => by omega
  | k + 1, k' + 1, r, s, h8, h1, h2 => by
    show bestW _ = bestW _
    congr 1
    refine List.map_congr_left fun q hq => ?_
    have a := s.last_need hq
    have b := (s.last_St hq).need_pos h8
    rw [sb_fuel k k' (s.last_St hq) h8 (by omega) (by omega)]
theorem sb_eq (s : St n r) (h8 : n ≤ 8) : sb r = bestW ((lastI r).map fun q => sb q.2 ++ [q.1]) := by
  show bestW _ = bestW _
  congr 1
  refine List.map_congr_left fun q hq => ?_
  have a := s.last_need hq
  have b := (s.last_St hq).need_pos h8
  rw [show sb q.2 = sbI ((needI r).toNat) q.2 from sb_fuel _ _ (s.last_St hq) h8 (by omega) (by omega)]
/-- it leads to the stair, and is as short as can be -/
theorem sb_spec (h8 : n ≤ 8) : ∀ (m : Nat) {r : List Int}, St n r → (needI r).toNat = m → rungI (firstI n) (sb r) = r ∧ (sb r).length = m ∧ ∀ x ∈ sb r, 2 ≤ x ∧ x ≤ (n : Int) := fun m => by
  induction m with
  | zero =>
    intro r s hm
    have hp := s.need_pos h8
    have e : lastI r = [] := by
      cases h : lastI r with
      | nil => rfl
      | cons q t =>
        have hq : q ∈ lastI r := by rw [h]; exact List.mem_cons_self
        have := s.last_need hq
        have := (s.last_St hq).need_pos h8
        omega
    rw [sb_eq s h8, e]
    exact ⟨(s.last_nil e).symm, rfl, fun x hx => by cases hx⟩
  | succ m ih =>
    intro r s hm
    have hp := s.need_pos h8
    cases h : lastI r with
    | nil =>
      have e := s.last_nil h
      have z : needI r = 0 := by rw [e]; exact need_first
      omega
    | cons q t =>
      rw [sb_eq s h8, h, List.map_cons]
      have hb := best_mem (sb q.2 ++ [q.1]) (t.map fun q => sb q.2 ++ [q.1])
      rw [← List.map_cons (f := fun q : Int × List Int => sb q.2 ++ [q.1]), ← h, List.mem_map] at hb
      obtain ⟨q', hq', e⟩ := hb
      have a := s.last_need hq'
      have b := (s.last_St hq').need_pos h8
      obtain ⟨i1, i2, i3⟩ := ih (s.last_St hq') (by omega)
      rw [← List.map_cons (f := fun q : Int × List Int => sb q.2 ++ [q.1]), ← h, ← e]
      refine ⟨?_, by rw [List.length_append, i2]; rfl, fun x hx => ?_⟩
      · rw [rungI_app, i1]
        show behindI q'.2 q'.1 = r
        exact s.last_behind hq'
      · rcases List.mem_append.mp hx with hx | hx
        · exact i3 x hx
        · rw [List.mem_singleton.mp hx]; exact s.last_bell hq'
theorem sb_ring (s : St n r) (h8 : n ≤ 8) : rungI (firstI n) (sb r) = r := (sb_spec h8 _ s rfl).1
theorem sb_len (s : St n r) (h8 : n ≤ 8) : ((sb r).length : Int) = needI r := by
  have := (sb_spec h8 _ s rfl).2.1
  have := s.need_pos h8
  omega
theorem sb_in (s : St n r) (h8 : n ≤ 8) : ∀ x ∈ sb r, 2 ≤ x ∧ x ≤ (n : Int) := (sb_spec h8 _ s rfl).2.2
structure Memo (n : Nat) (f : List Int → D) (kvs : List (List Int × D)) : Prop where
  val : ∀ k d, valT kvs k = some d → d = f k
  keys : ∀ k ∈ kvs.map (·.1), St n k
  once : (kvs.map (·.1)).Nodup
theorem Memo.nil {f : List Int → D} : Memo n f [] := ⟨fun k d h => (by cases h), fun k h => (by cases h), List.nodup_nil⟩
theorem Memo.put {f : List Int → D} {kvs : List (List Int × D)} (M : Memo n f kvs) (s : St n r) : Memo n f (putM kvs r (f r)) := by
  refine ⟨fun k d h => ?_, fun k h => ?_, ?_⟩
  · rw [valT_put] at h
    split at h
    · rename_i c; cases h; rw [c]
    · exact M.val k d h
  · rw [keys_put] at h
    split at h
    · exact M.keys k h
    · rcases List.mem_append.mp h with h | h
      · exact M.keys k h
      · rw [List.mem_singleton.mp h]; exact s
  · rw [keys_put]
    split
    · exact M.once
    · rename_i c
      refine List.nodup_append.mpr ⟨M.once, by simp, fun a ha b hb => ?_⟩
      rw [List.mem_singleton.mp hb]
      intro z
      exact c ((hasT_mem r kvs).mpr (z ▸ ha))
theorem stairs_few : ∀ n, n ≤ 8 → (stairsOf n).length ≤ 1430 := by
  intro n hn
  match n, hn with
  | 0, _ => decide +kernel
  | 1, _ => decide +kernel
  | 2, _ => decide +kernel
  | 3, _ => decide +kernel
  | 4, _ => decide +kernel
  | 5, _ => decide +kernel
  | 6, _ => decide +kernel
  | 7, _ => decide +kernel
  | 8, _ => decide +kernel
theorem Memo.few {f : List Int → D} {kvs : List (List Int × D)} (M : Memo n f kvs) (h8 : n ≤ 8) : kvs.length < 100000 := by
  have := nodup_len (kvs.map (·.1)) (stairsOf n) M.once fun x hx => (M.keys x hx).mem_stairs
  have := stairs_few n h8
  rw [List.length_map] at *
  omega
theorem lastI_few : (lastI r).length ≤ r.length := by
  have := List.length_filterMap_le (lastG r) (List.range r.length)
  rw [List.length_range] at this
  exact this
theorem alikeD_tJ : ∀ ws : List (List Int), alikeD (ws.map tJ) = true := fun ws => by
  unfold alikeD
  rw [Bool.or_eq_true]
  refine .inr (List.all_eq_true.mpr fun d hd => ?_)
  obtain ⟨w, _, rfl⟩ := List.mem_map.mp hd
  show (w.map PyData.int).all isIntD = true
  exact List.all_eq_true.mpr fun e he => by
    obtain ⟨x, _, rfl⟩ := List.mem_map.mp he
    rfl
theorem small_loop {A : D} {fr : FD} {f : List Int → D} {w : List Int → List Int} (hw : ∀ k, f k = tJ (w k)) (hl : ∀ q ∈ lastI r, (w q.2).length ≤ 500) (FR : ∀ q kvs, q ∈ lastI r → Memo n f kvs → ∃ kvs', Memo n f kvs' ∧ fr [.val (tJ q.2), .own (.dic kvs)] = some (tJ (w q.2), [.no, .own (.dic kvs')])) :
    ∀ (qs : List (Int × List Int)) (acc : List D) (kvs : List (List Int × D)), (∀ q ∈ qs, q ∈ lastI r) → acc.length + qs.length ≤ 1000 → Memo n f kvs → ∃ kvs', Memo n f kvs' ∧
      runLc (setV2 3 4) yesT (x2 gAdd (xFnJ fr 2 1 1 (yPre (xV 4) (yOwn 1 yNil))) (xTup (yCons (xV 3) yNil))) [3, 4] (qs.map pairL) acc [.val A, .own (.dic kvs), .no, .no, .no] = some (acc ++ qs.map (fun q => tJ (w q.2 ++ [q.1])), [.val A, .own (.dic kvs'), .no, .no, .no])
  | [], acc, kvs, _, _, M => ⟨kvs, M, by simp⟩
  | q :: qs, acc, kvs, hq, ha, M => by
    simp only [List.length_cons] at ha
    have hq0 := hq q List.mem_cons_self
    obtain ⟨kvs1, M1, e1⟩ := FR q kvs hq0 M
    obtain ⟨kvs2, M2, e2⟩ := small_loop hw hl FR qs (acc ++ [tJ (w q.2 ++ [q.1])]) kvs1 (fun q' h => hq q' (List.mem_cons_of_mem _ h)) (by simp; omega) M1
    refine ⟨kvs2, M2, ?_⟩
    have fit : acc.length < 100000 := by omega
    have ad : gAdd (tJ (w q.2)) (.tuple [.int q.1]) = some (tJ (w q.2 ++ [q.1])) := tJ_add (b := [q.1]) (by have := hl q hq0; omega) (by simp)
    have sj : x2 gAdd (xFnJ fr 2 1 1 (yPre (xV 4) (yOwn 1 yNil))) (xTup (yCons (xV 3) yNil)) [.val A, .own (.dic kvs), .no, .val (.int q.1), .val (tJ q.2)] = some (tJ (w q.2 ++ [q.1]), [.val A, .own (.dic kvs1), .no, .val (.int q.1), .val (tJ q.2)]) := by
      simp only [x2_eq, xFnJ, yPre, yOwn, xV_eq, yNil_eq, List.getElem?_cons_succ, List.getElem?_cons_zero, Option.bind_some, Option.map_some, List.length_cons, List.length_nil]
      simp only [List.map_cons, List.map_nil, List.cons_append, List.nil_append]
      rw [if_pos (by decide), e1]
      simp [ad]
    rw [List.map_cons]
    unfold runLc
    have st : setV2 3 4 (pairL q) [.val A, .own (.dic kvs), .no, .no, .no] = some [.val A, .own (.dic kvs), .no, .val (.int q.1), .val (tJ q.2)] := by simp [pairL]
    rw [st, Option.bind_some, yesT_eq, Option.bind_some, if_pos rfl, sj, Option.bind_some, if_pos fit]
    have w' : wipeS [.val A, .own (.dic kvs1), .no, .val (.int q.1), .val (tJ q.2)] [3, 4] = [.val A, .own (.dic kvs1), .no, .no, .no] := by simp [wipeS]
    dsimp only
    rw [w', e2, List.append_assoc]
    rfl
/-! one def with a memo: what is told once more -/
end
end BC
set_option Elab.async false
set_option linter.all false
set_option maxRecDepth 100000
set_option maxHeartbeats 2000000
namespace BC
open PySem PySem.Spec PyProof.Rows L2 GxR
/-! ### draws of any things, what stands behind a statement -/
def resS (r : Option Res) : SS := match r with | some (.nx S) => S | some (.rt _ S) => S | _ => []
end BC
set_option Elab.async false
set_option linter.all false
set_option maxRecDepth 100000
set_option maxHeartbeats 2000000
namespace BC
open PySem PySem.Spec PyProof.Rows L2 GxR
theorem needTo_highD {r : List Int} {j : Nat} {x d : Int} (h1 : 1 ≤ j) (h2 : needTo (r.set j x) (j + 1) + d = needTo r (j + 1)) : ∀ i, needTo (r.set j x) (j + 1 + i) + d = needTo r (j + 1 + i)
  | 0 => h2
  | i + 1 => by
    rw [show j + 1 + (i + 1) = (j + 1 + i) + 1 by omega]
    show needTo (r.set j x) (j + 1 + i) + _ + d = needTo r (j + 1 + i) + _
    rw [nextI_set h1 (by omega), getD_set_ne (by omega)]
    have := needTo_highD h1 h2 i
    omega
section
variable {n : Nat} {r : List Int}
theorem St.next_ge (s : St n r) {j : Nat} (hj : j < n) : r.getD j 0 ≤ nextI r j := by
  have hl := s.len
  unfold nextI
  split
  · have a := s.first_one (by omega)
    have b := s.hi j (by omega)
    rw [a]
    omega
  · exact s.mono j (by omega)
theorem St.need_behind (s : St n r) {k : Int} (hk : 2 ≤ k ∧ k ≤ n) : needI (behindI r k) ≤ needI r + 1 := by
  have hl := s.len
  obtain ⟨m, hm⟩ : ∃ m : Nat, k = (m : Int) + 2 := ⟨(k - 2).toNat, by omega⟩
  have hm2 : m + 1 < n := by omega
  unfold behindI
  rw [show (k - 1).toNat = m + 1 by omega, show (k - 2).toNat = m by omega]
  have g1 := s.next_ge hm2
  have g2 := s.mono m hm2
  by_cases c : r.getD m 0 = r.getD (m + 1) 0
  · have : r.set (m + 1) (r.getD m 0) = r := by
      refine List.ext_getElem? fun i => ?_
      by_cases c2 : m + 1 = i
      · subst c2
        rw [List.getElem?_set_self (by omega), c, List.getD_eq_getElem?_getD, List.getElem?_eq_getElem (by omega)]; rfl
      · rw [List.getElem?_set_ne c2]
    rw [this]; omega
  · have n1 : nextI (r.set (m + 1) (r.getD m 0)) m = r.getD m 0 := by
      unfold nextI
      rw [List.length_set, if_neg (by omega), getD_set_self (by omega)]
    have n2 : nextI (r.set (m + 1) (r.getD m 0)) (m + 1) = nextI r (m + 1) := nextI_set (by omega) (by omega)
    have n3 : nextI r m = r.getD (m + 1) 0 := by unfold nextI; rw [if_neg (by omega)]
    have t1 : (if nextI (r.set (m + 1) (r.getD m 0)) m = (r.set (m + 1) (r.getD m 0)).getD m 0 then 0 else ((m : Nat) : Int) + 1 - (r.set (m + 1) (r.getD m 0)).getD m 0) = 0 := by
      rw [n1, getD_set_ne (by omega), if_pos rfl]
    have t2 : (if nextI (r.set (m + 1) (r.getD m 0)) (m + 1) = (r.set (m + 1) (r.getD m 0)).getD (m + 1) 0 then 0 else ((m + 1 : Nat) : Int) + 1 - (r.set (m + 1) (r.getD m 0)).getD (m + 1) 0) = (m : Int) + 1 + 1 - r.getD m 0 := by
      rw [n2, getD_set_self (by omega), if_neg (by omega)]; push_cast; rfl
    have t3 : (if nextI r m = r.getD m 0 then 0 else ((m : Nat) : Int) + 1 - r.getD m 0) = (m : Int) + 1 - r.getD m 0 := by rw [n3, if_neg (fun z => c z.symm)]
    have hi := s.hi (m + 1) hm2
    have key : needTo (r.set (m + 1) (r.getD m 0)) (m + 1 + 1) + ((if nextI r (m + 1) = r.getD (m + 1) 0 then 0 else ((m + 1 : Nat) : Int) + 1 - r.getD (m + 1) 0) - 1) = needTo r (m + 1 + 1) := by
      show needTo (r.set (m + 1) (r.getD m 0)) m + (if nextI (r.set (m + 1) (r.getD m 0)) m = (r.set (m + 1) (r.getD m 0)).getD m 0 then 0 else ((m : Nat) : Int) + 1 - (r.set (m + 1) (r.getD m 0)).getD m 0) + (if nextI (r.set (m + 1) (r.getD m 0)) (m + 1) = (r.set (m + 1) (r.getD m 0)).getD (m + 1) 0 then 0 else ((m + 1 : Nat) : Int) + 1 - (r.set (m + 1) (r.getD m 0)).getD (m + 1) 0) + _
        = needTo r m + (if nextI r m = r.getD m 0 then 0 else ((m : Nat) : Int) + 1 - r.getD m 0) + (if nextI r (m + 1) = r.getD (m + 1) 0 then 0 else ((m + 1 : Nat) : Int) + 1 - r.getD (m + 1) 0)
      rw [t1, t2, t3, needTo_low (by omega) m (by omega)]
      omega
    have := needTo_highD (by omega) key (r.length - (m + 1 + 1))
    rw [show m + 1 + 1 + (r.length - (m + 1 + 1)) = r.length by omega] at this
    unfold needI
    rw [List.length_set]
    push_cast at hi this
    split at this <;> omega
theorem need_rung : ∀ (bs : List Int) {r : List Int}, St n r → (∀ b ∈ bs, 2 ≤ b ∧ b ≤ (n : Int)) → needI (rungI r bs) ≤ needI r + bs.length
  | [], r, s, h => by show needI r ≤ _; simp
  | b :: bs, r, s, h => by
    have hb := h b List.mem_cons_self
    have s1 := s.behind hb
    have a := s.need_behind hb
    have := need_rung bs s1 fun x hx => h x (List.mem_cons_of_mem _ hx)
    show needI (rungI (behindI r b) bs) ≤ _
    simp only [List.length_cons]
    push_cast
    omega
theorem sb_short {bs : List Int} (h8 : n ≤ 8) (h : ∀ b ∈ bs, 2 ≤ b ∧ b ≤ (n : Int)) : (sb (rungI (firstI n) bs)).length ≤ bs.length := by
  have s := St.rung bs (St.first (n := n)) h
  have a := sb_len s h8
  have b := need_rung bs (St.first (n := n)) h
  rw [need_first] at b
  omega
end
end BC
set_option Elab.async false
set_option linter.all false
set_option maxRecDepth 100000
set_option maxHeartbeats 2000000
namespace BC
open PySem PySem.Spec PyProof.Rows L2 GxR
def lJ (l : List Int) : D := .list (l.map PyData.int)
theorem shaped_lI (l : List Int) : SeqAt.shaped (.list (l.map PyData.int)) = true := by
  have := depth_ints l
  simp [SeqAt.shaped, PyData.canLay0, lay_ints, PyData.depth]
  omega
theorem gEq_lJ (a b : List Int) : gEq (lJ a) (lJ b) = some (.bool (decide (a = b))) := by
  unfold gEq lJ
  rw [if_pos ⟨shaped_lI a, shaped_lI b⟩]
  simp only [PyData.eqv, eqvAll_ints]
theorem iR1_at {S S' : SS} {e : DX} {N : Int} (h : e S = some (.int N, S')) (hN : 0 ≤ N ∧ N ≤ 100) : iR1 (yCons e yNil) S = some (rangeD 0 N.toNat, S') := by
  have hb : -4611686018427387904 ≤ N ∧ N < 4611686018427387904 := by omega
  simp [h, hb]
theorem iR1_below {S : SS} {e : DX} {n : Nat} (h : e S = some (.int n, S)) (hN : n ≤ 100) : iR1 (yCons e yNil) S = some (((List.range n).map fun k => (0 : Int) + (k : Nat)).map PyData.int, S) := by
  have z : rangeD 0 n = ((List.range n).map fun k => (0 : Int) + (k : Nat)).map PyData.int := by unfold rangeD; rw [List.map_map]; rfl
  rw [iR1_at h (by omega), Int.toNat_natCast, z]
theorem gEq_lnil (l : List Int) : gEq (lJ l) (.list []) = some (.bool l.isEmpty) := by
  have := gEq_lJ l []
  rw [show (.list [] : D) = lJ [] from rfl, this]
  cases l <;> simp
theorem gIn_lJ (x : Int) (l : List Int) : gIn (.int x) (lJ l) = some (.bool (decide (x ∈ l))) := by
  show gIn (.int x) (.list (l.map PyData.int)) = _
  rw [gIn_l, intsOf_map, Option.map_some]
  congr 3
  rw [Bool.eq_iff_iff]
  simp
theorem gIxJ {r : List Int} {i : Int} (h : 0 ≤ i ∧ i < r.length) : gIx (tJ r) (.int i) = some (.int (r.getD i.toNat 0)) := by
  show gIx (.tuple (r.map PyData.int)) (.int i) = _
  rw [gIx_ti, List.length_map, ixN_in h.1 (by omega), Option.bind_some]
  exact getN (by omega)
theorem firstI_in {n : Nat} {x : Int} (h : x ∈ firstI n) : 1 ≤ x ∧ x ≤ n := by
  unfold firstI at h
  obtain ⟨k, hk, rfl⟩ := List.mem_map.mp h
  have := List.mem_range.mp hk
  omega
theorem iR2_upTo {fr : DA} {m : Int} {S : SS} (hm : 1 ≤ m ∧ m ≤ 1000) (h : fr S = some ([.int 1, .int m], S)) : iR2 fr S = some (rangeD 1 (m - 1).toNat, S) := by
  have hb : -4611686018427387904 ≤ m ∧ m < 4611686018427387904 := by omega
  simp [h, hb]
theorem iR2_first {fr : DA} {n : Nat} {S : SS} (hn : n ≤ 100) (h : fr S = some ([.int 1, .int ((n : Int) + 1)], S)) : iR2 fr S = some ((firstI n).map PyData.int, S) := by
  have z : rangeD 1 n = (firstI n).map PyData.int := by unfold rangeD firstI; rw [List.map_map]; rfl
  rw [iR2_upTo (by omega) h, show ((n : Int) + 1 - 1).toNat = n by omega, z]
end BC
set_option Elab.async false
set_option linter.all false
set_option maxRecDepth 100000
set_option maxHeartbeats 4000000
namespace BC
open PySem PySem.Spec PyProof.Rows L2 GxR
/-! ### all stairs, as the program lists them -/
theorem upTo_mem {x : Int} : ∀ (k : Nat) (lo : Int), x ∈ upTo lo k → lo ≤ x ∧ x < lo + k
  | 0, lo, h => by cases h
  | k + 1, lo, h => by
    rcases List.mem_cons.mp h with rfl | h
    · omega
    · have := upTo_mem k (lo + 1) h
      push_cast
      omega
theorem upTo_range : ∀ (k : Nat) (lo : Int), rangeD lo k = (upTo lo k).map PyData.int
  | 0, lo => rfl
  | k + 1, lo => by
    have ih := upTo_range k (lo + 1)
    unfold rangeD at ih ⊢
    rw [List.range_succ_eq_map, List.map_cons, List.map_map]
    show _ = PyData.int lo :: (upTo (lo + 1) k).map PyData.int
    rw [← ih]
    congr 1
    · congr 1; simp
    · refine List.map_congr_left fun i _ => ?_
      show PyData.int (lo + ((i + 1 : Nat) : Int)) = _
      congr 1
      push_cast
      omega
theorem St.add {n : Nat} {r : List Int} (s : St n r) (hn : 1 ≤ n) {e : Int} (h : r.getD (n - 1) 0 ≤ e ∧ e ≤ (n : Int) + 1) : St (n + 1) (r ++ [e]) := by
  have hl := s.len
  have g1 : ∀ j, j < n → (r ++ [e]).getD j 0 = r.getD j 0 := fun j hj => by
    rw [List.getD_eq_getElem?_getD, List.getD_eq_getElem?_getD, List.getElem?_append_left (by omega)]
  have g2 : (r ++ [e]).getD n 0 = e := by
    rw [List.getD_eq_getElem?_getD, List.getElem?_append_right (by omega), hl, Nat.sub_self]; rfl
  have l1 := s.lo (n - 1) (by omega)
  refine ⟨by simp [hl], fun j hj => ?_, fun j hj => ?_, fun j hj => ?_⟩
  · by_cases c : j < n
    · rw [g1 j c]; exact s.lo j c
    · rw [show j = n by omega, g2]; omega
  · by_cases c : j < n
    · rw [g1 j c]; exact s.hi j c
    · rw [show j = n by omega, g2]; omega
  · by_cases c : j + 1 < n
    · rw [g1 j (by omega), g1 (j + 1) c]; exact s.mono j c
    · rw [g1 j (by omega), show j + 1 = n by omega, g2, show j = n - 1 by omega]; exact h.1
theorem stairsOf_St : ∀ {n : Nat} {r : List Int}, r ∈ stairsOf n → St n r
  | 0, r, h => by
    have := List.mem_singleton.mp h
    subst this
    exact ⟨rfl, fun j h => by omega, fun j h => by omega, fun j h => by omega⟩
  | 1, r, h => by
    have := List.mem_singleton.mp h
    subst this
    exact ⟨rfl, fun j h => by rw [show j = 0 by omega]; decide, fun j h => by rw [show j = 0 by omega]; decide, fun j h => by omega⟩
  | n + 2, r, h => by
    have h : r ∈ (stairsOf (n + 1)).flatMap _ := h
    rw [List.mem_flatMap] at h
    obtain ⟨r', h1, h2⟩ := h
    rw [List.mem_map] at h2
    obtain ⟨e, h3, rfl⟩ := h2
    have s := stairsOf_St h1
    have h4 := upTo_mem _ _ h3
    have hi := s.hi (n + 1 - 1) (by omega)
    refine s.add (by omega) ⟨h4.1, ?_⟩
    have := h4.2
    push_cast at *
    omega
theorem stairsOf_len {n : Nat} {r : List Int} (h : r ∈ stairsOf n) : r.length = n := (stairsOf_St h).len
theorem gIx_end {r : List Int} {n : Nat} (h : r.length = n) (hn : 1 ≤ n) : gIx (tJ r) (.int (-1)) = some (.int (r.getD (n - 1) 0)) := by
  show gIx (.tuple (r.map PyData.int)) (.int (-1)) = _
  have e : ixN r.length (-1) = some (n - 1) := by
    have := neg1_ix (n - 1)
    rw [h, show n = n - 1 + 1 by omega]
    exact this
  rw [gIx_ti, List.length_map, e, Option.bind_some]
  exact getN (by omega)
def moreI (n : Nat) (r : List Int) : List (List Int) := (upTo (r.getD (n - 1) 0) (((n : Int) + 1 - r.getD (n - 1) 0 + 1).toNat)).map fun e => r ++ [e]
theorem stairsOf_more {n : Nat} (hn : 1 ≤ n) : stairsOf (n + 1) = (stairsOf n).flatMap (moreI n) := by
  cases n with
  | zero => omega
  | succ n => rfl
theorem more_inner {n : Nat} {r : List Int} {N X : Slot} {p : Int} (hp : p = (n : Int) + 1) (s : St n r) (hn : 1 ≤ n ∧ n ≤ 8) (acc : List D) (ha : acc.length ≤ 5000) :
    iR2 (yCons (x2 gIx (xV 3) (x1 gNeg (xC (PyData.int 1)))) (yCons (x2 gAdd (xV 2) (xC (PyData.int 1))) yNil)) [N, X, .val (.int p), .val (tJ r), .no] = some ((upTo (r.getD (n - 1) 0) (((n : Int) + 1 - r.getD (n - 1) 0 + 1).toNat)).map PyData.int, [N, X, .val (.int p), .val (tJ r), .no]) ∧
    runLc (setV 4) yesT (x2 gAdd (xV 3) (xTup (yCons (xV 4) yNil))) [4] ((upTo (r.getD (n - 1) 0) (((n : Int) + 1 - r.getD (n - 1) 0 + 1).toNat)).map PyData.int) acc [N, X, .val (.int p), .val (tJ r), .no] = some (acc ++ (moreI n r).map tJ, [N, X, .val (.int p), .val (tJ r), .no]) := by
  have hl := s.len
  have lo := s.lo (n - 1) (by omega)
  have hi := s.hi (n - 1) (by omega)
  have ge := gIx_end hl hn.1
  have len : ∀ (k : Nat) (lo : Int), (upTo lo k).length = k := fun k => by
    induction k with
    | zero => intro lo; rfl
    | succ k ih => intro lo; show (upTo (lo + 1) k).length + 1 = _; rw [ih]
  constructor
  · rw [← upTo_range]
    subst hp
    have hq : 1 ≤ r.getD (n - 1) 0 ∧ r.getD (n - 1) 0 ≤ 8 := by omega
    have hm : 1 ≤ (n : Int) ∧ (n : Int) ≤ 8 := by omega
    clear lo hi
    generalize r.getD (n - 1) 0 = q at *
    generalize tJ r = a at *
    generalize (n : Int) = m at *
    have hb : -4611686018427387904 ≤ q ∧ q < 4611686018427387904 := by omega
    have hb2 : -4611686018427387904 ≤ m + 1 + 1 ∧ m + 1 + 1 < 4611686018427387904 := by omega
    have e : (m + 1 + 1 - q).toNat = (m + 1 - q + 1).toNat := by omega
    simp [ge, hb, hb2, e]
  · have e := runLc_ints (i := 4) (tt := yesT) (te := x2 gAdd (xV 3) (xTup (yCons (xV 4) yNil))) (p := fun _ => true) (g := fun x => tJ (r ++ [x])) (S := [N, X, .val (.int p), .val (tJ r), .no]) (by simp) (upTo (r.getD (n - 1) 0) (((n : Int) + 1 - r.getD (n - 1) 0 + 1).toNat)) acc (by rw [len]; omega) (fun x _ => by
      refine ⟨yesT_eq, fun _ => ?_⟩
      have ad : gAdd (tJ r) (.tuple [.int x]) = some (tJ (r ++ [x])) := tJ_add (b := [x]) (by omega) (by simp)
      generalize tJ (r ++ [x]) = z at *
      generalize tJ r = a at *
      simp [ad])
    rw [List.filter_eq_self.mpr (fun _ _ => rfl)] at e
    have z : ([N, X, .val (.int p), .val (tJ r), .no] : SS).set 4 .no = [N, X, .val (.int p), .val (tJ r), .no] := rfl
    rw [z] at e
    rw [e]
    unfold moreI
    rw [List.map_map]
    rfl
theorem more_outer {n : Nat} {N X : Slot} {p : Int} (hp : p = (n : Int) + 1) (hn : 1 ≤ n ∧ n ≤ 8) : ∀ (rs : List (List Int)) (acc : List D), (∀ r ∈ rs, St n r) → acc.length + (rs.flatMap (moreI n)).length ≤ 5000 →
    runLc2 (setV 3) yesT (iR2 (yCons (x2 gIx (xV 3) (x1 gNeg (xC (PyData.int 1)))) (yCons (x2 gAdd (xV 2) (xC (PyData.int 1))) yNil))) (setV 4) yesT (x2 gAdd (xV 3) (xTup (yCons (xV 4) yNil))) [3, 4] [4] (rs.map tJ) acc [N, X, .val (.int p), .no, .no] = some (acc ++ (rs.flatMap (moreI n)).map tJ, [N, X, .val (.int p), .no, .no])
  | [], acc, _, _ => by simp [runLc2]
  | r :: rs, acc, h, ha => by
    rw [List.flatMap_cons, List.length_append] at ha
    obtain ⟨i1, i2⟩ := more_inner (N := N) (X := X) hp (h r List.mem_cons_self) hn acc (by omega)
    have ih := more_outer (N := N) (X := X) hp hn rs (acc ++ (moreI n r).map tJ) (fun q hq => h q (List.mem_cons_of_mem _ hq)) (by rw [List.length_append, List.length_map]; omega)
    rw [List.map_cons]
    unfold runLc2
    have st : setV 3 (tJ r) [N, X, .val (.int p), .no, .no] = some [N, X, .val (.int p), .val (tJ r), .no] := by simp
    have w1 : wipeS [N, X, .val (.int p), .val (tJ r), .no] [4] = [N, X, .val (.int p), .val (tJ r), .no] := rfl
    have w2 : wipeS [N, X, .val (.int p), .val (tJ r), .no] [3, 4] = [N, X, .val (.int p), .no, .no] := rfl
    rw [st, Option.bind_some, yesT_eq, Option.bind_some, if_pos rfl, i1, Option.bind_some]
    dsimp only
    rw [w1, i2, Option.bind_some]
    dsimp only
    rw [w2, ih, List.flatMap_cons, List.map_append, List.append_assoc]
theorem all_loop {N : Slot} : ∀ (j m : Nat) (s2 : Slot), 1 ≤ m → m + j ≤ 8 → ∃ s2', runFor (setV 2) (sSet 1 (xL (yLc2 (iLst (xV 1)) (setV 3) yesT (iR2 (yCons (x2 gIx (xV 3) (x1 gNeg (xC (PyData.int 1)))) (yCons (x2 gAdd (xV 2) (xC (PyData.int 1))) yNil))) (setV 4) yesT (x2 gAdd (xV 3) (xTup (yCons (xV 4) yNil))) [3, 4] [4])))
    ((upTo ((m : Int) + 1) j).map PyData.int) [N, .val (.list ((stairsOf m).map tJ)), s2, .no, .no] = some (.nx [N, .val (.list ((stairsOf (m + j)).map tJ)), s2', .no, .no])
  | 0, m, s2, _, _ => ⟨s2, by simp [upTo]⟩
  | j + 1, m, s2, hm, hj => by
    obtain ⟨s2', ih⟩ := all_loop (N := N) j (m + 1) (.val (.int ((m : Int) + 1))) (by omega) (by omega)
    refine ⟨s2', ?_⟩
    have few : ((stairsOf m).flatMap (moreI m)).length ≤ 1430 := by rw [← stairsOf_more hm]; exact stairs_few (m + 1) (by omega)
    have e := more_outer (N := N) (X := .val (.list ((stairsOf m).map tJ))) (p := (m : Int) + 1) rfl ⟨hm, by omega⟩ (stairsOf m) [] (fun r hr => stairsOf_St hr) (by simp only [List.length_nil]; omega)
    rw [List.nil_append, ← stairsOf_more hm] at e
    show runFor _ _ (PyData.int ((m : Int) + 1) :: (upTo ((m : Int) + 1 + 1) j).map PyData.int) _ = _
    unfold runFor
    have st : setV 2 (.int ((m : Int) + 1)) [N, .val (.list ((stairsOf m).map tJ)), s2, .no, .no] = some [N, .val (.list ((stairsOf m).map tJ)), .val (.int ((m : Int) + 1)), .no, .no] := by simp
    have bd : sSet 1 (xL (yLc2 (iLst (xV 1)) (setV 3) yesT (iR2 (yCons (x2 gIx (xV 3) (x1 gNeg (xC (PyData.int 1)))) (yCons (x2 gAdd (xV 2) (xC (PyData.int 1))) yNil))) (setV 4) yesT (x2 gAdd (xV 3) (xTup (yCons (xV 4) yNil))) [3, 4] [4])) [N, .val (.list ((stairsOf m).map tJ)), .val (.int ((m : Int) + 1)), .no, .no]
        = some (.nx [N, .val (.list ((stairsOf (m + 1)).map tJ)), .val (.int ((m : Int) + 1)), .no, .no]) := by
      generalize (stairsOf m).map tJ = A at *
      generalize (stairsOf (m + 1)).map tJ = B at *
      generalize (m : Int) + 1 = q at *
      have w : wipeS [N, .val (.list A), .val (.int q), .no, .no] [3, 4] = [N, .val (.list A), .val (.int q), .no, .no] := rfl
      have rs : restS [N, .val (.list A), .val (.int q), .no, .no] [N, .val (.list A), .val (.int q), .no, .no] [3, 4] = [N, .val (.list A), .val (.int q), .no, .no] := rfl
      have i : iLst (xV 1) [N, .val (.list A), .val (.int q), .no, .no] = some (A, [N, .val (.list A), .val (.int q), .no, .no]) := rfl
      rw [sSet_eq]
      have y : yLc2 (iLst (xV 1)) (setV 3) yesT (iR2 (yCons (x2 gIx (xV 3) (x1 gNeg (xC (PyData.int 1)))) (yCons (x2 gAdd (xV 2) (xC (PyData.int 1))) yNil))) (setV 4) yesT (x2 gAdd (xV 3) (xTup (yCons (xV 4) yNil))) [3, 4] [4] [N, .val (.list A), .val (.int q), .no, .no] = some (B, [N, .val (.list A), .val (.int q), .no, .no]) := by
        unfold yLc2
        rw [i, Option.bind_some]
        dsimp only
        rw [w, e, Option.map_some]
        dsimp only
        rw [rs]
      rw [xL_eq, y]
      simp
    rw [st, Option.bind_some, bd, Option.bind_some]
    have e2 : ((m + 1 : Nat) : Int) = (m : Int) + 1 := by push_cast; rfl
    rw [e2, show m + 1 + j = m + (j + 1) by omega] at ih
    exact ih
end BC
set_option Elab.async false
set_option linter.all false
set_option maxRecDepth 100000
set_option maxHeartbeats 4000000
namespace BC
open PySem PySem.Spec PyProof.Rows L2 GxR
end BC
set_option Elab.async false
set_option linter.all false
set_option maxRecDepth 100000
set_option maxHeartbeats 4000000
namespace BC
open PySem PySem.Spec PyProof.Rows L2 GxR
/-! ### comprehensions over any coded things -/
theorem runLc_enc {α : Type} {enc : α → D} {i : Nat} {tt : DT} {te : DX} {p : α → Bool} {g : α → D} {S : SS} (hi : i < S.length) : ∀ (l : List α) (acc : List D), acc.length + l.length ≤ 100000 →
    (∀ x ∈ l, tt (S.set i (.val (enc x))) = some (p x, S.set i (.val (enc x))) ∧ (p x = true → te (S.set i (.val (enc x))) = some (g x, S.set i (.val (enc x))))) →
    runLc (setV i) tt te [i] (l.map enc) acc (S.set i .no) = some (acc ++ (l.filter p).map g, S.set i .no)
  | [], acc, _, _ => by simp
  | x :: l, acc, hl, h => by
    simp only [List.length_cons] at hl
    obtain ⟨h1, h2⟩ := h x List.mem_cons_self
    have e1 : setV i (enc x) (S.set i .no) = some (S.set i (.val (enc x))) := by
      rw [setV_eq, if_pos (by rw [List.length_set]; exact hi), List.set_set]
    have e2 : wipeS (S.set i (.val (enc x))) [i] = S.set i .no := by
      show (S.set i (.val (enc x))).set i .no = _
      rw [List.set_set]
    simp only [List.map_cons, runLc, e1, Option.bind_some, h1]
    by_cases c : p x = true
    · have fit : acc.length < 100000 := by omega
      rw [if_pos c, h2 c, Option.bind_some, if_pos fit, e2, runLc_enc hi l (acc ++ [g x]) (by simp; omega) fun y hy => h y (List.mem_cons_of_mem _ hy)]
      rw [List.filter_cons_of_pos c, List.map_cons, List.append_assoc]
      rfl
    · rw [if_neg c, e2, runLc_enc hi l acc (by omega) fun y hy => h y (List.mem_cons_of_mem _ hy)]
      rw [List.filter_cons_of_neg c]
theorem yLc_enc {α : Type} {enc : α → D} {i : Nat} {fs : DA} {tt : DT} {te : DX} {p : α → Bool} {g : α → D} {S : SS} {l : List α} (hf : fs S = some (l.map enc, S)) (hi : i < S.length) (hS : S.set i (valOf S[i]?) = S) (hl : l.length ≤ 100000)
    (h : ∀ x ∈ l, tt (S.set i (.val (enc x))) = some (p x, S.set i (.val (enc x))) ∧ (p x = true → te (S.set i (.val (enc x))) = some (g x, S.set i (.val (enc x))))) :
    yLc fs (setV i) tt te [i] S = some ((l.filter p).map g, S) := by
  have e := runLc_enc hi l [] (by simpa using hl) h
  rw [yLc_eq, hf, Option.bind_some]
  have w : wipeS S [i] = S.set i .no := rfl
  show (runLc (setV i) tt te [i] (l.map enc) [] (wipeS S [i])).map _ = _
  rw [w, e, Option.map_some]
  have r : restS S (S.set i .no) [i] = S := by
    show (S.set i .no).set i (valOf S[i]?) = S
    rw [List.set_set, hS]
  simp only [r, List.nil_append]
/-- the names that a comprehension uses for its own are free -/
theorem set_same {S : SS} {q : Nat} (h : S[q]? = some .no) : S.set q (valOf S[q]?) = S := by
  refine List.ext_getElem? fun i => ?_
  by_cases c : q = i
  · subst c
    have hl := (List.getElem?_eq_some_iff.mp h).1
    rw [List.getElem?_set_self hl, h]; rfl
  · rw [List.getElem?_set_ne c]
/-- [a[k - 1] for k in b] -/
theorem comp_folG {S : SS} {i j q : Nat} {a b : List Int} (hi : S[i]? = some (.val (tJ b))) (hj : S[j]? = some (.val (tJ a))) (hjq : q ≠ j) (hq : S[q]? = some .no) (hl : b.length ≤ 1000) (h : ∀ x ∈ b, 1 ≤ x ∧ x ≤ a.length) :
    yLc (iSeq (xV i)) (setV q) yesT (x2 gIx (xV j) (x2 gSub (xV q) (xC (PyData.int 1)))) [q] S = some ((folI a b).map PyData.int, S) := by
  have hql := (List.getElem?_eq_some_iff.mp hq).1
  have e := yLc_map (i := q) (fs := iSeq (xV i)) (te := x2 gIx (xV j) (x2 gSub (xV q) (xC (PyData.int 1)))) (g := fun x => PyData.int (atI a x)) (S := S) (l := b) (by rw [iSeq_eq, xV_eq, hi]; rfl) hql (set_same hq) (by omega) (fun x hx => by
    have hx := h x hx
    have g1 := gIxJ (r := a) (i := x - 1) (by omega)
    have r1 : xV j (S.set q (.val (.int x))) = some (tJ a, S.set q (.val (.int x))) := by rw [xV_eq, List.getElem?_set_ne hjq, hj]
    have r2 : xV q (S.set q (.val (.int x))) = some (.int x, S.set q (.val (.int x))) := by rw [xV_eq, List.getElem?_set_self hql]
    rw [x2_eq, r1, Option.bind_some, x2_eq]
    dsimp only
    rw [r2, Option.bind_some, xC_eq, Option.bind_some, gSub_ii, Option.map_some, Option.bind_some]
    dsimp only
    rw [g1]
    rfl)
  rw [e]
  unfold folI
  rw [List.map_map]
  rfl
theorem gTup_L (l : List D) : gTupOf [.list l] = some (.tuple l) := rfl
/-- the same as a tuple -/
theorem tup_folG {S : SS} {i j q : Nat} {a b : List Int} (hi : S[i]? = some (.val (tJ b))) (hj : S[j]? = some (.val (tJ a))) (hjq : q ≠ j) (hq : S[q]? = some .no) (hl : b.length ≤ 1000) (h : ∀ x ∈ b, 1 ≤ x ∧ x ≤ a.length) :
    xCall gTupOf (yCons (xL (yLc (iSeq (xV i)) (setV q) yesT (x2 gIx (xV j) (x2 gSub (xV q) (xC (PyData.int 1)))) [q])) yNil) S = some (tJ (folI a b), S) := by
  rw [xCall_eq, yCons_eq, xL_eq, comp_folG hi hj hjq hq hl h]
  rfl
end BC
set_option Elab.async false
set_option linter.all false
set_option maxRecDepth 100000
set_option maxHeartbeats 4000000
namespace BC
open PySem PySem.Spec PyProof.Rows L2 GxR
/-! ### equations of the newer readings -/
@[simp] theorem xNm_eq {i : Nat} {S : SS} : xNm i S = match S[i]? with
  | some (.val d) => some (d, S)
  | some (.own (.lst ds)) => some (.list ds, S.set i (.val (.list ds)))
  | some (.own (.dic kvs)) => some (.dict (dtD kvs), S.set i (.val (.dict (dtD kvs))))
  | some (.own (.dik kvs)) => some (.dict (dkD kvs), S.set i (.val (.dict (dkD kvs))))
  | _ => none := rfl
@[simp] theorem gAddA_ii (a b : Int) : gAddA (.int a) (.int b) = some (.int (a + b)) := rfl
@[simp] theorem gAddA_tt (a b : List D) : gAddA (.tuple a) (.tuple b) = gAdd (.tuple a) (.tuple b) := rfl
@[simp] theorem gAddA_ll (a b : List D) : gAddA (.list a) (.list b) = gAddL (.list a) (.list b) := rfl
theorem gAddA_int (a b : D) (h : ∀ l, a ≠ .list l) : gAddA a b = gAdd a b := by
  unfold gAddA
  split
  · rename_i l; exact absurd rfl (h l)
  · rfl
theorem gAddA_tJ (a b : List Int) : gAddA (.tuple (a.map PyData.int)) (.tuple (b.map PyData.int)) = gAdd (.tuple (a.map PyData.int)) (.tuple (b.map PyData.int)) := rfl
@[simp] theorem gMulA_ii (a b : Int) : gMulA (.int a) (.int b) = gMul (.int a) (.int b) := rfl
@[simp] theorem iAny_eq {fe : DX} {S : SS} : iAny fe S = (fe S).bind fun p => match p.1 with
  | .tuple ds => some (ds, p.2)
  | .list ds => some (ds, p.2)
  | .dict kvs => some (kvs.map (·.1), p.2)
  | _ => none := rfl
@[simp] theorem iEn2A_eq {fr : DA} {S : SS} : iEn2A fr S = (fr S).bind fun p => match p.1 with
  | [.tuple ds, .int k0] => if -(2 ^ 62) ≤ k0 ∧ k0 < 2 ^ 62 then some (enumD k0 ds, p.2) else none
  | [.list ds, .int k0] => if -(2 ^ 62) ≤ k0 ∧ k0 < 2 ^ 62 then some (enumD k0 ds, p.2) else none
  | _ => none := rfl
@[simp] theorem iEn1A_eq {fr : DA} {S : SS} : iEn1A fr S = (fr S).bind fun p => match p.1 with
  | [.tuple ds] => some (enumD 0 ds, p.2)
  | [.list ds] => some (enumD 0 ds, p.2)
  | _ => none := rfl
@[simp] theorem xAnyG_eq {e : Bool} {fs : DA} {st : D → SS → Option SS} {te : DX} {vs : List Nat} {S : SS} : xAnyG e fs st te vs S = (fs S).bind fun p => (runAny e st te vs p.1 (wipeS p.2 vs)).map fun q => (.bool q.1, restS p.2 q.2 vs) := rfl
@[simp] theorem xDisp1_eq {fk fv : DX} {S : SS} : xDisp1 fk fv S = (fk S).bind fun p => (fv p.2).bind fun q => (keyT p.1).map fun _ => (.dict [(p.1, q.1)], q.2) := rfl
@[simp] theorem sSetL_eq' {i : Nat} {fl : DA} {S : SS} : sSetL i fl S = (fl S).bind fun p => (setL i p.1 p.2).map .nx := rfl
/-! ### any, all over coded things -/
theorem runAny_enc {α : Type} {enc : α → D} {e : Bool} {i : Nat} {te : DX} {q : α → Bool} {S : SS} (hi : i < S.length) : ∀ (l : List α), (∀ x ∈ l, te (S.set i (.val (enc x))) = some (.bool (q x), S.set i (.val (enc x)))) →
    runAny e (setV i) te [i] (l.map enc) (S.set i .no) = some (if l.any (fun x => q x == e) then e else !e, S.set i .no)
  | [], _ => rfl
  | x :: l, h => by
    have h1 := h x List.mem_cons_self
    have e1 : setV i (enc x) (S.set i .no) = some (S.set i (.val (enc x))) := by
      rw [setV_eq, if_pos (by rw [List.length_set]; exact hi), List.set_set]
    have e2 : wipeS (S.set i (.val (enc x))) [i] = S.set i .no := by
      show (S.set i (.val (enc x))).set i .no = _
      rw [List.set_set]
    rw [List.map_cons]
    unfold runAny
    rw [e1, Option.bind_some, h1, Option.bind_some]
    dsimp only
    rw [e2, List.any_cons]
    by_cases c : q x = e
    · rw [if_pos c, c]; simp
    · rw [if_neg c, runAny_enc hi l fun y hy => h y (List.mem_cons_of_mem _ hy)]
      have : (q x == e) = false := beq_eq_false_iff_ne.mpr c
      rw [this, Bool.false_or]
theorem xAny_core {α : Type} {enc : α → D} {e : Bool} {i : Nat} {fs : DA} {te : DX} {q : α → Bool} {S : SS} {l : List α} (hf : fs S = some (l.map enc, S)) (hi : i < S.length) (hS : S.set i (valOf S[i]?) = S)
    (h : ∀ x ∈ l, te (S.set i (.val (enc x))) = some (.bool (q x), S.set i (.val (enc x)))) : xAnyG e fs (setV i) te [i] S = some (.bool (if l.any (fun x => q x == e) then e else !e), S) := by
  have hr := runAny_enc (e := e) hi l h
  rw [xAnyG_eq, hf, Option.bind_some]
  have w : wipeS S [i] = S.set i .no := rfl
  show (runAny e (setV i) te [i] (l.map enc) (wipeS S [i])).map _ = _
  rw [w, hr, Option.map_some]
  have r : restS S (S.set i .no) [i] = S := by
    show (S.set i .no).set i (valOf S[i]?) = S
    rw [List.set_set, hS]
  simp only [r]
theorem xAny_enc {α : Type} {enc : α → D} {i : Nat} {fs : DA} {te : DX} {q : α → Bool} {S : SS} {l : List α} (hf : fs S = some (l.map enc, S)) (hi : i < S.length) (hS : S.set i (valOf S[i]?) = S)
    (h : ∀ x ∈ l, te (S.set i (.val (enc x))) = some (.bool (q x), S.set i (.val (enc x)))) : xAnyG true fs (setV i) te [i] S = some (.bool (l.any q), S) := by
  rw [xAny_core hf hi hS h]
  congr 2
  have : (l.any fun x => q x == true) = l.any q := by congr 1; funext x; simp
  rw [this]
  cases l.any q <;> rfl
theorem xAll_enc {α : Type} {enc : α → D} {i : Nat} {fs : DA} {te : DX} {q : α → Bool} {S : SS} {l : List α} (hf : fs S = some (l.map enc, S)) (hi : i < S.length) (hS : S.set i (valOf S[i]?) = S)
    (h : ∀ x ∈ l, te (S.set i (.val (enc x))) = some (.bool (q x), S.set i (.val (enc x)))) : xAnyG false fs (setV i) te [i] S = some (.bool (l.all q), S) := by
  rw [xAny_core hf hi hS h]
  congr 2
  have : (l.any fun x => q x == false) = !l.all q := by
    rw [List.not_all_eq_any_not]
    congr 1; funext x; cases q x <;> rfl
  rw [this]
  cases l.all q <;> rfl
/-! ### x in a tuple of ints -/
theorem any_eqv_ints (x : Int) : ∀ l : List Int, ((l.map PyData.int).any fun z => PyData.eqv z (.int x)) = decide (x ∈ l)
  | [] => by simp
  | y :: l => by
    rw [List.map_cons, List.any_cons, any_eqv_ints x l]
    have : PyData.eqv (.int y) (.int x) = decide (y = x) := rfl
    rw [this]
    by_cases h : y = x
    · simp [h]
    · have h2 : ¬ x = y := fun z => h z.symm
      simp [h, h2]
theorem gInA_tJ (neg : Bool) (x : Int) (l : List Int) : gInA neg (.int x) (tJ l) = some (.bool (decide (x ∈ l) != neg)) := by
  show memD neg (.int x) (l.map PyData.int) (.tuple (l.map PyData.int)) = _
  unfold memD
  rw [if_pos ⟨shaped_int x, shaped_tI l⟩, any_eqv_ints]
/-! ### what is sorted stays -/
theorem insD_here {le : D → D → Bool} {a : D} : ∀ {r : List D}, (∀ b ∈ r, le a b = true) → insD le a r = a :: r
  | [], _ => rfl
  | b :: r, h => by
    show (if le a b = true then _ else _) = _
    rw [if_pos (h b List.mem_cons_self)]
theorem isort_same {le : D → D → Bool} : ∀ {l : List D}, l.Pairwise (fun a b => le a b = true) → isort le l = l
  | [], _ => rfl
  | a :: r, h => by
    show insD le a (isort le r) = _
    rw [isort_same (List.pairwise_cons.mp h).2, insD_here (List.pairwise_cons.mp h).1]
/-- rows of ints in their order -/
def ltR : List Int → List Int → Bool
  | [], [] => false
  | [], _ :: _ => true
  | _ :: _, [] => false
  | x :: r, y :: t => if x < y then true else if y < x then false else ltR r t
end BC
set_option Elab.async false
set_option linter.all false
set_option maxRecDepth 100000
set_option maxHeartbeats 4000000
namespace BC
open PySem PySem.Spec PyProof.Rows L2 GxR
/-! ### rows unrolled -/
def unI (r : List Int) (k : Int) : Int := r.getD ((k - 1) % (r.length : Int)).toNat 0 + (k - 1) / (r.length : Int) * (r.length : Int)
theorem un_in {r : List Int} {k : Int} (h : 1 ≤ k ∧ k ≤ r.length) : unI r k = r.getD (k - 1).toNat 0 := by
  unfold unI
  rw [Int.emod_eq_of_lt (by omega) (by omega), Int.ediv_eq_zero_of_lt (by omega) (by omega)]
  omega
theorem un_add {r : List Int} (h : 0 < r.length) (a q : Int) : unI r (a + q * (r.length : Int)) = unI r a + q * (r.length : Int) := by
  have hn : (r.length : Int) ≠ 0 := by omega
  unfold unI
  have e : a + q * (r.length : Int) - 1 = (a - 1) + q * (r.length : Int) := by omega
  rw [e, Int.add_mul_emod_self_right, Int.add_mul_ediv_right _ _ hn, Int.add_mul]
  omega
theorem un_zero {r : List Int} (h : 0 < r.length) : unI r 0 = r.getD (r.length - 1) 0 - r.length := by
  have e := un_add h (r.length : Int) (-1)
  have z : (r.length : Int) + -1 * (r.length : Int) = 0 := by omega
  rw [z, un_in (k := (r.length : Int)) ⟨by omega, by omega⟩] at e
  rw [e]
  have z2 : ((r.length : Int) - 1).toNat = r.length - 1 := by omega
  rw [z2]
  omega
theorem un_prev {r : List Int} {b : Int} (h : 1 ≤ b ∧ b ≤ r.length) : unI r (b - 1) = if b = 1 then r.getD (r.length - 1) 0 - r.length else r.getD (b - 2).toNat 0 := by
  split
  · rename_i c
    subst c
    exact un_zero (by omega)
  · rw [un_in ⟨by omega, by omega⟩]
    congr 2
    omega
theorem un_map {x r : List Int} (hx : x.length = r.length) (h : 0 < r.length) (k : Int) : unI (x.map (unI r)) k = unI r (unI x k) := by
  have hb : ((k - 1) % (x.length : Int)).toNat < x.length := by
    have h1 := Int.emod_nonneg (k - 1) (show (x.length : Int) ≠ 0 by omega)
    have h2 := Int.emod_lt_of_pos (k - 1) (show 0 < (x.length : Int) by omega)
    omega
  have e : unI x k = x.getD ((k - 1) % (x.length : Int)).toNat 0 + (k - 1) / (x.length : Int) * (x.length : Int) := rfl
  have e2 : unI (x.map (unI r)) k = (x.map (unI r)).getD ((k - 1) % (x.length : Int)).toNat 0 + (k - 1) / (x.length : Int) * (x.length : Int) := by
    unfold unI
    rw [List.length_map]
  rw [e2, e, getD_map hb, hx, un_add h]
def stepI (r : List Int) (b : Int) : List Int := r.set (b - 1).toNat (unI r (b - 1))
def liftsI (r bs : List Int) : List Int := bs.foldl stepI r
theorem stepI_len (r : List Int) (b : Int) : (stepI r b).length = r.length := by simp [stepI]
theorem liftsI_len : ∀ (bs r : List Int), (liftsI r bs).length = r.length
  | [], _ => rfl
  | b :: bs, r => by
    show (liftsI (stepI r b) bs).length = _
    rw [liftsI_len bs, stepI_len]
theorem liftsI_cons (r : List Int) (b : Int) (bs : List Int) : liftsI r (b :: bs) = liftsI (stepI r b) bs := rfl
theorem liftsI_nil (r : List Int) : liftsI r [] = r := rfl
theorem liftsI_app (r a b : List Int) : liftsI r (a ++ b) = liftsI (liftsI r a) b := List.foldl_append ..
theorem stepI_get {r : List Int} {b : Int} (h : 1 ≤ b ∧ b ≤ r.length) (j : Nat) : (stepI r b).getD j 0 = if (b - 1).toNat = j then unI r (b - 1) else r.getD j 0 := by
  unfold stepI
  rw [getD_set]
  by_cases c : (b - 1).toNat = j
  · rw [if_pos ⟨c, by omega⟩, if_pos c]
  · rw [if_neg (fun q => c q.1), if_neg c]
theorem stepI_up {r : List Int} {b : Int} (h : 2 ≤ b ∧ b ≤ r.length) : stepI r b = behindI r b := by
  unfold stepI behindI
  rw [un_prev ⟨by omega, h.2⟩, if_neg (by omega)]
theorem liftsI_bells : ∀ (bs r : List Int), (∀ b ∈ bs, 2 ≤ b ∧ b ≤ r.length) → liftsI r bs = rungI r bs
  | [], _, _ => rfl
  | b :: bs, r, h => by
    rw [liftsI_cons, rungI_cons, stepI_up (h b List.mem_cons_self)]
    exact liftsI_bells bs _ fun c hc => by rw [behindI_len]; exact h c (List.mem_cons_of_mem _ hc)
theorem step_map {x r : List Int} {b : Int} (hx : x.length = r.length) (h : 0 < r.length) : (stepI x b).map (unI r) = stepI (x.map (unI r)) b := by
  unfold stepI
  rw [List.map_set, un_map hx h]
theorem lifts_map {r : List Int} (h : 0 < r.length) : ∀ (bs x : List Int), x.length = r.length → (liftsI x bs).map (unI r) = liftsI (x.map (unI r)) bs
  | [], _, _ => rfl
  | b :: bs, x, hx => by
    rw [liftsI_cons, liftsI_cons, ← step_map hx h]
    exact lifts_map h bs _ (by rw [stepI_len]; exact hx)
theorem first_un (r : List Int) : (firstI r.length).map (unI r) = r := by
  conv => rhs; rw [as_map r]
  exact map_congr_first fun k hk => un_in hk
theorem lift_join {a bs : List Int} (h : 0 < a.length) : (liftsI (firstI a.length) bs).map (unI a) = liftsI a bs := by
  rw [lifts_map h bs _ (firstI_len _), first_un]
structure Li (n t : Nat) (r : List Int) : Prop where
  len : r.length = n
  lo : ∀ j, j < n → (j : Int) + 1 - t ≤ r.getD j 0
  hi : ∀ j, j < n → r.getD j 0 ≤ (j : Int) + 1
  mono : ∀ j, j + 1 < n → r.getD j 0 ≤ r.getD (j + 1) 0
  span : r.getD (n - 1) 0 ≤ r.getD 0 0 + n
theorem Li.first {n : Nat} (hn : 2 ≤ n) : Li n 0 (firstI n) :=
  ⟨firstI_len n, fun j h => by rw [firstI_get h]; omega, fun j h => by rw [firstI_get h]; omega, fun j h => by rw [firstI_get (by omega), firstI_get h]; omega, by rw [firstI_get (by omega), firstI_get (by omega)]; omega⟩
theorem Li.step {n t : Nat} {r : List Int} (hn : 2 ≤ n) (s : Li n t r) {b : Int} (hb : 1 ≤ b ∧ b ≤ n) : Li n (t + 1) (stepI r b) := by
  have l := s.len
  have hb' : 1 ≤ b ∧ b ≤ r.length := by omega
  have g := fun j => stepI_get hb' j
  have v := un_prev hb'
  rw [l] at v
  refine ⟨by rw [stepI_len, l], fun j hj => ?_, fun j hj => ?_, fun j hj => ?_, ?_⟩
  · rw [g]
    split
    · rw [v]
      split
      · have := s.lo (n - 1) (by omega)
        omega
      · have := s.lo (b - 2).toNat (by omega)
        omega
    · have := s.lo j hj
      omega
  · rw [g]
    split
    · rw [v]
      split
      · have := s.hi (n - 1) (by omega)
        omega
      · have := s.hi (b - 2).toNat (by omega)
        omega
    · exact s.hi j hj
  · rw [g, g]
    by_cases c1 : (b - 1).toNat = j
    · rw [if_pos c1, if_neg (by omega), v]
      split
      · have h1 := s.span
        have h2 := s.mono j hj
        have z : j = 0 := by omega
        subst z
        omega
      · have h1 := s.mono (b - 2).toNat (by omega)
        have h2 := s.mono j hj
        have z : (b - 2).toNat + 1 = j := by omega
        rw [z] at h1
        omega
    · rw [if_neg c1]
      by_cases c2 : (b - 1).toNat = j + 1
      · rw [if_pos c2, v, if_neg (by omega)]
        have z : (b - 2).toNat = j := by omega
        rw [z]
        exact Int.le_refl _
      · rw [if_neg c2]
        exact s.mono j hj
  · rw [g, g]
    by_cases c1 : (b - 1).toNat = n - 1
    · rw [if_pos c1, if_neg (by omega), v, if_neg (by omega)]
      have h1 := s.span
      have h2 := s.mono (b - 2).toNat (by omega)
      have z : (b - 2).toNat + 1 = n - 1 := by omega
      rw [z] at h2
      omega
    · rw [if_neg c1]
      by_cases c2 : (b - 1).toNat = 0
      · rw [if_pos c2, v, if_pos (by omega)]
        omega
      · rw [if_neg c2]
        exact s.span
theorem Li.lifts {n : Nat} (hn : 2 ≤ n) : ∀ (bs : List Int) {t : Nat} {r : List Int}, Li n t r → (∀ b ∈ bs, 1 ≤ b ∧ b ≤ n) → Li n (t + bs.length) (liftsI r bs)
  | [], _, _, s, _ => s
  | b :: bs, t, _, s, h => by
    have := Li.lifts hn bs (s.step hn (h b List.mem_cons_self)) fun c hc => h c (List.mem_cons_of_mem _ hc)
    have z : t + 1 + bs.length = t + (b :: bs).length := by simp; omega
    rw [z] at this
    exact this
/-! ### the ring begun with another person -/
def rotI (r : List Int) : List Int := (firstI r.length).map fun k => unI r (k - 1) + 1
theorem rotI_len (r : List Int) : (rotI r).length = r.length := by simp [rotI, firstI_len]
theorem rotI_get {r : List Int} {j : Nat} (h : j < r.length) : (rotI r).getD j 0 = unI r j + 1 := by
  unfold rotI
  rw [getD_map (by rw [firstI_len]; exact h), firstI_get h]
  congr 2
  omega
theorem un_pos {r : List Int} {j : Nat} (h : 0 < j ∧ j ≤ r.length) : unI r j = r.getD (j - 1) 0 := by
  rw [un_in ⟨by omega, by omega⟩]
  congr 1
  omega
theorem step_rot {x : List Int} (hx : 2 ≤ x.length) {b : Int} (hb : 1 ≤ b ∧ b ≤ x.length) : stepI (rotI x) (b % (x.length : Int) + 1) = rotI (stepI x b) := by
  have lr := rotI_len x
  have ls := stepI_len x b
  refine ext_getD (by rw [stepI_len, rotI_len, rotI_len, stepI_len]) fun j hj => ?_
  rw [stepI_len, rotI_len] at hj
  rw [rotI_get (r := stepI x b) (by rw [ls]; exact hj)]
  have R : unI (stepI x b) j = if j = 0 then (stepI x b).getD (x.length - 1) 0 - x.length else (stepI x b).getD (j - 1) 0 := by
    split
    · rename_i c
      subst c
      have := un_zero (r := stepI x b) (by omega)
      rw [ls] at this
      exact this
    · exact un_pos ⟨by omega, by omega⟩
  rw [R]
  by_cases c : b = x.length
  · have e : b % (x.length : Int) + 1 = 1 := by rw [c, Int.emod_self]; rfl
    rw [e, stepI_get (by omega)]
    by_cases j0 : j = 0
    · subst j0
      rw [if_pos (by omega), if_pos rfl, stepI_get hb, if_pos (by omega)]
      have := un_zero (r := rotI x) (by omega)
      rw [lr] at this
      have z : ((1 : Int) - 1) = 0 := rfl
      rw [z, this, rotI_get (by omega), c]
      have z2 : ((x.length - 1 : Nat) : Int) = (x.length : Int) - 1 := by omega
      rw [z2]
      omega
    · rw [if_neg (by omega), if_neg j0, stepI_get hb, if_neg (by omega), rotI_get hj, un_pos ⟨by omega, by omega⟩]
  · have e : b % (x.length : Int) + 1 = b + 1 := by rw [Int.emod_eq_of_lt (by omega) (by omega)]
    rw [e, stepI_get (by omega)]
    have z : b + 1 - 1 = b := by omega
    rw [z]
    by_cases j0 : j = 0
    · subst j0
      rw [if_neg (by omega), if_pos rfl, stepI_get hb, if_neg (by omega), rotI_get hj]
      have := un_zero (r := x) (by omega)
      have z0 : ((0 : Nat) : Int) = 0 := rfl
      rw [z0, this]
    · rw [if_neg j0, stepI_get hb]
      by_cases cj : b.toNat = j
      · rw [if_pos cj, if_pos (by omega), un_in ⟨by omega, by omega⟩, rotI_get (by omega)]
        have z3 : (((b - 1).toNat : Nat) : Int) = b - 1 := by omega
        rw [z3]
      · rw [if_neg cj, if_neg (by omega), rotI_get hj, un_pos ⟨by omega, by omega⟩]
theorem rot_lifts : ∀ (bs x : List Int), 2 ≤ x.length → (∀ b ∈ bs, 1 ≤ b ∧ b ≤ x.length) → liftsI (rotI x) (bs.map fun b => b % (x.length : Int) + 1) = rotI (liftsI x bs)
  | [], _, _, _ => rfl
  | b :: bs, x, hx, h => by
    rw [List.map_cons, liftsI_cons, liftsI_cons, step_rot hx (h b List.mem_cons_self)]
    have := rot_lifts bs (stepI x b) (by rw [stepI_len]; exact hx) fun c hc => by rw [stepI_len]; exact h c (List.mem_cons_of_mem _ hc)
    rw [stepI_len] at this
    exact this
theorem rot_first {n : Nat} (hn : 2 ≤ n) : rotI (firstI n) = firstI n := by
  refine ext_getD (by rw [rotI_len]) fun j hj => ?_
  rw [rotI_len, firstI_len] at hj
  rw [rotI_get (by rw [firstI_len]; exact hj), firstI_get hj]
  by_cases j0 : j = 0
  · subst j0
    have := un_zero (r := firstI n) (by rw [firstI_len]; omega)
    have z0 : ((0 : Nat) : Int) = 0 := rfl
    rw [z0, this, firstI_len, firstI_get (by omega)]
    omega
  · rw [un_pos ⟨by omega, by rw [firstI_len]; omega⟩, firstI_get (by omega)]
    omega
/-! ### the same ring bell twice -/
theorem step_twice {r : List Int} (hr : 2 ≤ r.length) {b : Int} (hb : 1 ≤ b ∧ b ≤ r.length) : stepI (stepI r b) b = stepI r b := by
  have ls := stepI_len r b
  have e : unI (stepI r b) (b - 1) = unI r (b - 1) := by
    rw [un_prev (by rw [ls]; exact hb), un_prev hb, ls]
    split
    · rw [stepI_get hb, if_neg (by omega)]
    · rw [stepI_get hb, if_neg (by omega)]
  refine ext_getD (by rw [stepI_len]) fun j _ => ?_
  rw [stepI_get (by rw [ls]; exact hb), e, stepI_get hb]
  split <;> rfl
/-! ### all ring bells, one after another -/
theorem firstI_succ (m : Nat) : firstI (m + 1) = firstI m ++ [(m : Int) + 1] := by
  simp [firstI, List.range_succ]
  omega
theorem lift_all (r : List Int) (hr : 2 ≤ r.length) : ∀ m, m ≤ r.length → ∀ j, j < r.length → (liftsI r (firstI m)).getD j 0 = if j < m then unI r 0 else r.getD j 0
  | 0, h, j, hj => by
    rw [if_neg (by omega)]
    rfl
  | m + 1, h, j, hj => by
    have ih := lift_all r hr m (by omega)
    have ll := liftsI_len (firstI m) r
    rw [firstI_succ, liftsI_app, liftsI_cons, liftsI_nil, stepI_get (by rw [ll]; omega)]
    have z : ((m : Int) + 1 - 1).toNat = m := by omega
    have z1 : ((m : Int) + 1 - 1) = m := by omega
    rw [z, z1]
    by_cases cj : m = j
    · rw [if_pos cj, if_pos (by omega)]
      by_cases m0 : m = 0
      · subst m0
        rfl
      · rw [un_pos ⟨by omega, by rw [ll]; omega⟩, ih (m - 1) (by omega), if_pos (by omega)]
    · rw [if_neg cj, ih j hj]
      by_cases c : j < m
      · rw [if_pos c, if_pos (by omega)]
      · rw [if_neg c, if_neg (by omega)]
theorem lift_round {r : List Int} {n : Nat} (hn : 2 ≤ n) (hr : r.length = n) : liftsI r (firstI n) = List.replicate n (r.getD (n - 1) 0 - n) := by
  refine ext_getD (by rw [liftsI_len, hr, List.length_replicate]) fun j hj => ?_
  rw [liftsI_len] at hj
  rw [lift_all r (by omega) n (by omega) j hj, if_pos (by omega), un_zero (by omega), hr, List.getD_eq_getElem?_getD (l := List.replicate n _), List.getElem?_replicate, if_pos (by omega)]
  rfl
theorem lift_rounds {r : List Int} {n : Nat} (hn : 2 ≤ n) (hr : r.length = n) : liftsI r (firstI n ++ firstI n) = List.replicate n (r.getD (n - 1) 0 - n - n) := by
  rw [liftsI_app, lift_round hn hr, lift_round hn (by rw [List.length_replicate])]
  congr 2
  rw [List.getD_eq_getElem?_getD, List.getElem?_replicate, if_pos (by omega)]
  rfl
end BC
set_option Elab.async false
set_option linter.all false
set_option maxRecDepth 100000
set_option maxHeartbeats 4000000
namespace BC
open PySem PySem.Spec PyProof.Rows L2 GxR
theorem gIx_tJ {r : List Int} {k : Int} (h : 0 ≤ k ∧ k < r.length) : gIx (tJ r) (.int k) = some (.int (r.getD k.toNat 0)) := by
  have hi : k.toNat < r.length := by omega
  show gIx (.tuple _) _ = _
  rw [gIx_ti, List.length_map, ixN_in (by omega) (by omega), Option.bind_some, List.getElem?_map, List.getElem?_eq_getElem hi]
  simp [List.getD_eq_getElem?_getD, List.getElem?_eq_getElem hi]
theorem gIx_last {r : List Int} (h : 0 < r.length) : gIx (tJ r) (.int (-1)) = some (.int (r.getD (r.length - 1) 0)) := by
  have hi : r.length - 1 < r.length := by omega
  have z : (-1 + (r.length : Int)).toNat = r.length - 1 := by omega
  show gIx (.tuple _) _ = _
  rw [gIx_ti, List.length_map, ixN_neg (by omega) (by omega), z, Option.bind_some, List.getElem?_map, List.getElem?_eq_getElem hi]
  simp [List.getD_eq_getElem?_getD, List.getElem?_eq_getElem hi]
theorem eb_one {A : D} {x m : Int} (e1 : gIx A (.int (-1)) = some (.int x)) (e2 : gLen [A] = some (.int m)) : fn_entry_before [.val A, .val (.int 1)] = some (.int (x - m), [.no, .no]) := by
  have e3 : gEq (.int 1) (.int 1) = some (.bool true) := by rw [gEq_int]; rfl
  simp [fn_entry_before, sx_entry_before, e1, e2, e3]
theorem eb_more {A : D} {x b : Int} (hb : b ≠ 1) (e1 : gIx A (.int (b - 2)) = some (.int x)) : fn_entry_before [.val A, .val (.int b)] = some (.int x, [.no, .no]) := by
  have e3 : gEq (.int b) (.int 1) = some (.bool false) := by rw [gEq_int, decide_eq_false hb]
  simp [fn_entry_before, sx_entry_before, e1, e3]
theorem eb_un {r : List Int} {b : Int} (h : 1 ≤ b ∧ b ≤ r.length) : fn_entry_before [.val (tJ r), .val (.int b)] = some (.int (unI r (b - 1)), [.no, .no]) := by
  rw [un_prev h]
  by_cases c : b = 1
  · rw [if_pos c, c]
    exact eb_one (gIx_last (by omega)) (len_tJ r)
  · rw [if_neg c]
    exact eb_more c (gIx_tJ ⟨by omega, by omega⟩)
theorem br_aux {ds : List D} {X z Z : D} {k : Int} (q : fn_entry_before [.val (.tuple ds), .val (.int k)] = some (X, [.no, .no])) (m1 : gAdd (.tuple (cutD ds none (some (k - 1)))) (.tuple [X]) = some z) (m2 : gAdd z (.tuple (cutD ds (some k) none)) = some Z) : fn_behind_in_ring [.val (.tuple ds), .val (.int k)] = some (Z, [.no, .no]) := by
  simp [fn_behind_in_ring, sx_behind_in_ring, q, m1, m2, -gAdd_tt]
theorem ring_set {ds : List D} {a : Int} {x : D} (h : 1 ≤ a ∧ a ≤ ds.length) (hl : ds.length ≤ 100) : (gAdd (.tuple (cutD ds none (some (a - 1)))) (.tuple [x])).bind (fun z => gAdd z (.tuple (cutD ds (some a) none))) = some (.tuple (ds.set (a - 1).toNat x)) := by
  have sp := set_split ds (a - 1).toNat x (by omega)
  have e3 : (a - 1).toNat + 1 = a.toNat := by omega
  rw [e3] at sp
  have h1 : cutD ds none (some (a - 1)) = ds.take (a - 1).toNat := cutD_lo (by omega)
  have h2 : cutD ds (some a) none = ds.drop a.toNat := cutD_hi (by omega)
  rw [h1, h2, gAdd_tt, if_pos (by simp; omega), Option.bind_some, gAdd_tt, if_pos (by simp; omega)]
  rw [List.append_assoc]
  exact congrArg (fun z => some (PyData.tuple z)) sp
theorem behind_in_ring_eq {r : List Int} {b : Int} (h : 1 ≤ b ∧ b ≤ r.length) (hl : r.length ≤ 100) : fn_behind_in_ring [.val (tJ r), .val (.int b)] = some (tJ (stepI r b), [.no, .no]) := by
  have m := ring_set (ds := r.map PyData.int) (a := b) (x := .int (unI r (b - 1))) (by rw [List.length_map]; omega) (by simpa using hl)
  simp only [Option.bind_eq_some_iff] at m
  obtain ⟨z, m1, m2⟩ := m
  have e : tJ (stepI r b) = .tuple ((r.map PyData.int).set (b - 1).toNat (.int (unI r (b - 1)))) := by
    simp only [tJ, tI, stepI, List.map_set]
  rw [e]
  exact br_aux (eb_un h) m1 m2
theorem lifted_loop (c0 c1 : Slot) : ∀ (bs r : List Int) (v : Slot), r.length ≤ 100 → (∀ b ∈ bs, 1 ≤ b ∧ b ≤ r.length) →
    ∃ v', runFor (setV 3) (sSet 2 (xFn fn_behind_in_ring (yCons (xV 2) (yCons (xV 3) yNil)))) (bs.map PyData.int) [c0, c1, .val (tJ r), v] = some (.nx [c0, c1, .val (tJ (liftsI r bs)), v'])
  | [], r, v, _, _ => ⟨v, rfl⟩
  | b :: bs, r, v, hl, h => by
    obtain ⟨v', e⟩ := lifted_loop c0 c1 bs (stepI r b) (.val (.int b)) (by rw [stepI_len]; exact hl) (fun c hc => by rw [stepI_len]; exact h c (List.mem_cons_of_mem _ hc))
    have be := behind_in_ring_eq (h b List.mem_cons_self) hl
    refine ⟨v', ?_⟩
    rw [liftsI_cons, ← e]
    simp [runFor, be]
theorem lifted_aux {N B F Z : D} {ds : List D} {v' : Slot} (e1 : fn_at_first [.val N] = some (F, [.no])) (i : iSeq (xV 1) [.val N, .val B, .val F, .no] = some (ds, [.val N, .val B, .val F, .no])) (e2 : runFor (setV 3) (sSet 2 (xFn fn_behind_in_ring (yCons (xV 2) (yCons (xV 3) yNil)))) ds [.val N, .val B, .val F, .no] = some (.nx [.val N, .val B, .val Z, v'])) : fn_lifted [.val N, .val B] = some (Z, [.no, .no]) := by
  simp [fn_lifted, sx_lifted, e1, i, e2, -iSeq_eq]
theorem lifted_eq {n : Nat} {bs : List Int} (hn : 2 ≤ n ∧ n ≤ 8) (h : ∀ b ∈ bs, 1 ≤ b ∧ b ≤ (n : Int)) : fn_lifted [.val (.int (n : Nat)), .val (tJ bs)] = some (tJ (liftsI (firstI n) bs), [.no, .no]) := by
  obtain ⟨v', e⟩ := lifted_loop (.val (.int (n : Nat))) (.val (tJ bs)) bs (firstI n) .no (by rw [firstI_len]; omega) (fun b hb => by rw [firstI_len]; exact h b hb)
  exact lifted_aux (at_first_nat hn) rfl e
theorem check_ring_aux {N B : D} (e : fn_is_row [.val B, .val (.int 0), .val (.int 60), .val (.int 1), .val N] = some (.bool true, [.no, .no, .no, .no, .no])) : fn_check_ring_bells [.val N, .val B] = some (.none, [.no, .no]) := by
  simp [fn_check_ring_bells, sx_check_ring_bells, e]
theorem check_ring_eq {n : Nat} {bs : List Int} (hl : bs.length ≤ 60) (h : ∀ b ∈ bs, 1 ≤ b ∧ b ≤ (n : Int)) : fn_check_ring_bells [.val (.int (n : Nat)), .val (tJ bs)] = some (.none, [.no, .no]) := by
  have e := is_row_eq bs 0 60 1 (n : Nat)
  have a1 : (bs.all fun x => decide (1 ≤ x) && decide (x ≤ ((n : Nat) : Int))) = true := by
    rw [List.all_eq_true]
    intro x hx
    have := h x hx
    simp
    omega
  rw [a1, decide_eq_true (by omega), decide_eq_true (by omega)] at e
  exact check_ring_aux e
theorem size_nat {n : Nat} (hn : 2 ≤ n ∧ n ≤ 8) : (2 : Int) ≤ (n : Nat) ∧ ((n : Nat) : Int) ≤ 8 := by omega
theorem lift_aux {N B Z : D} (e1 : fn_check_size [.val N] = some (.none, [.no])) (e2 : fn_check_ring_bells [.val N, .val B] = some (.none, [.no, .no])) (e3 : fn_lifted [.val N, .val B] = some (Z, [.no, .no])) : fn_lift [.val N, .val B] = some (Z, [.no, .no]) := by
  simp [fn_lift, sx_lift, e1, e2, e3]
theorem lift_eq {n : Nat} {bs : List Int} (hn : 2 ≤ n ∧ n ≤ 8) (hl : bs.length ≤ 60) (h : ∀ b ∈ bs, 1 ≤ b ∧ b ≤ (n : Int)) : fn_lift [.val (.int (n : Nat)), .val (tJ bs)] = some (tJ (liftsI (firstI n) bs), [.no, .no]) :=
  lift_aux (check_size_eq (size_nat hn)) (check_ring_eq hl h) (lifted_eq hn h)
/-! ### checks of lifts -/
theorem mono_zip {r : List Int} (h : ∀ j, j + 1 < r.length → r.getD j 0 ≤ r.getD (j + 1) 0) : ((r.zip (r.drop 1)).all fun q => decide (q.1 ≤ q.2)) = true := by
  rw [List.all_eq_true]
  intro q hq
  obtain ⟨j, hj, e⟩ := List.mem_iff_getElem.mp hq
  rw [List.getElem_zip] at e
  simp only [List.length_zip, List.length_drop] at hj
  have h1 := h j (by omega)
  rw [List.getD_eq_getElem?_getD, List.getElem?_eq_getElem (by omega), List.getD_eq_getElem?_getD, List.getElem?_eq_getElem (by omega)] at h1
  subst e
  simp only [List.getElem_drop, decide_eq_true_eq]
  have e2 : r[1 + j]'(by omega) = r[j + 1]'(by omega) := by congr 1; omega
  rw [e2]
  exact h1
theorem hi_num {r : List Int} (h : ∀ j, j < r.length → r.getD j 0 ≤ (j : Int) + 1) : ((numI 1 r).all fun q => decide (q.2 ≤ q.1)) = true := by
  rw [List.all_eq_true]
  intro q hq
  obtain ⟨j, hj, e⟩ := List.mem_iff_getElem.mp hq
  rw [numI_len] at hj
  have g := numI_get (k0 := 1) (List.getElem?_eq_getElem hj)
  rw [List.getElem?_eq_getElem (by rw [numI_len]; exact hj)] at g
  cases g.symm.trans (congrArg some e)
  have h1 := h j hj
  rw [List.getD_eq_getElem?_getD, List.getElem?_eq_getElem hj] at h1
  simp only [decide_eq_true_eq]
  simp only [Option.getD_some] at h1
  omega
theorem is_lift_aux {A : D} {x y m : Int} {c : Bool} (e1 : fn_is_row [.val A, .val (.int 2), .val (.int 8), .val (.int (-200)), .val (.int 8)] = some (.bool true, [.no, .no, .no, .no, .no])) (e2 : fn_never_falls [.val A] = some (.bool true, [.no]))
    (e3 : gIx A (.int (-1)) = some (.int x)) (e4 : gIx A (.int 0) = some (.int y)) (e5 : gLen [A] = some (.int m)) (h : ¬ (y + m < x)) (e6 : xAllE (fun i j => decide (j ≤ i)) (yCons (xV 0) (yCons (xC (PyData.int 1)) yNil)) [.val A] = some (.bool c, [.val A])) : fn_is_lift [.val A] = some (.bool c, [.no]) := by
  simp [fn_is_lift, sx_is_lift, e1, e2, e3, e4, e5, h, e6, -xAllE_eq]
theorem check_lift_aux {A : D} (e : fn_is_lift [.val A] = some (.bool true, [.no])) : fn_check_lift [.val A] = some (.none, [.no]) := by
  simp [fn_check_lift, sx_check_lift, e]
theorem allE_tJ (r : List Int) (pb : Int → Int → Bool) : xAllE pb (yCons (xV 0) (yCons (xC (PyData.int 1)) yNil)) [.val (tJ r)] = some (.bool ((numI 1 r).all fun q => pb q.1 q.2), [.val (tJ r)]) := by
  simp only [tJ, tI]
  rw [xAllE_eq]
  simp only [yCons_eq, yNil_eq, xV_eq, xC_eq, List.getElem?_cons_zero, Option.bind_some, Option.map_some]
  rw [if_pos (by decide), intsOf_map, Option.map_some]
theorem check_lift_eq {n t : Nat} {r : List Int} (hn : 2 ≤ n ∧ n ≤ 8) (s : Li n t r) (ht : t ≤ 150) : fn_check_lift [.val (tJ r)] = some (.none, [.no]) := by
  have l := s.len
  have e1 := is_row_eq r 2 8 (-200) 8
  have a1 : (r.all fun x => decide (-200 ≤ x) && decide (x ≤ 8)) = true := by
    rw [List.all_eq_true]
    intro x hx
    obtain ⟨j, hj, rfl⟩ := mem_getD hx
    have h1 := s.lo j (by omega)
    have h2 := s.hi j (by omega)
    simp only [Bool.and_eq_true, decide_eq_true_eq]
    omega
  rw [a1, decide_eq_true (by omega), decide_eq_true (by omega)] at e1
  have e2 := never_falls_eq r
  rw [mono_zip (fun j hj => s.mono j (by omega))] at e2
  have e3 := gIx_last (r := r) (by omega)
  have e4 := gIx_tJ (r := r) (k := 0) ⟨by omega, by omega⟩
  have e6 := allE_tJ r (fun i j => decide (j ≤ i))
  rw [hi_num (fun j hj => s.hi j (by omega))] at e6
  refine check_lift_aux (is_lift_aux e1 e2 e3 e4 (len_tJ r) ?_ e6)
  have := s.span
  rw [l]
  have z : (0 : Int).toNat = 0 := rfl
  rw [z]
  omega
theorem check_pair_nat {a b : List Int} (h : a.length = b.length) : fn_check_pair [.val (tJ a), .val (tJ b)] = some (.none, [.no, .no]) := check_pair_eq h
/-! ### one lift and then another -/
def afterBody : SX := sSeq (sAsg (setV2 5 6) (xCall gDivmod (yCons (x2 gSub (xV 4) (xC (PyData.int 1))) (yCons (xV 2) yNil)))) (sApp 3 (x2 gAdd (x2 gIx (xV 0) (xV 6)) (x2 gMul (xV 5) (xV 2))))
theorem after_loop (c1 : Slot) {a : List Int} {N : Int} (hN : N = (a.length : Nat)) (ha : 2 ≤ a.length ∧ a.length ≤ 8) : ∀ (ps : List Int) (acc : List D) (v4 v5 v6 : Slot), acc.length + ps.length ≤ 1000 →
    ∃ v4' v5' v6', runFor (setV 4) afterBody (ps.map PyData.int) [.val (tJ a), c1, .val (.int N), .own (.lst acc), v4, v5, v6] = some (.nx [.val (tJ a), c1, .val (.int N), .own (.lst (acc ++ (ps.map (unI a)).map PyData.int)), v4', v5', v6'])
  | [], acc, v4, v5, v6, _ => ⟨v4, v5, v6, by simp⟩
  | p :: ps, acc, v4, v5, v6, hl => by
    simp only [List.length_cons] at hl
    obtain ⟨v4', v5', v6', e⟩ := after_loop c1 hN ha ps (acc ++ [.int (unI a p)]) (.val (.int p)) (.val (.int ((p - 1) / N))) (.val (.int ((p - 1) % N))) (by simp; omega)
    refine ⟨v4', v5', v6', ?_⟩
    have h1 := Int.emod_nonneg (p - 1) (show N ≠ 0 by omega)
    have h2 := Int.emod_lt_of_pos (p - 1) (show 0 < N by omega)
    have q := gIx_tJ (r := a) (k := (p - 1) % N) ⟨h1, by omega⟩
    have m := gMul_r (i := (p - 1) / N) (j := N) (by omega)
    have u : a.getD ((p - 1) % N).toNat 0 + (p - 1) / N * N = unI a p := by rw [hN]; rfl
    have dv : 0 < N ∧ N < 1073741824 := by omega
    have fit : acc.length < 100000 := by omega
    rw [List.map_cons, List.map_cons, List.map_cons]
    have z : acc ++ PyData.int (unI a p) :: (ps.map (unI a)).map PyData.int = acc ++ [.int (unI a p)] ++ (ps.map (unI a)).map PyData.int := by simp
    rw [z, ← e]
    generalize a.getD ((p - 1) % N).toNat 0 = y at q u
    generalize tJ a = A at q ⊢
    simp [runFor, afterBody, dv, q, m, u, fit, -gMul_ii]
theorem after_aux {A B Z : D} {N w : Int} {ds rs : List D} {v4 v5 v6 : Slot} (e1 : fn_check_lift [.val A] = some (.none, [.no])) (e2 : fn_check_lift [.val B] = some (.none, [.no])) (e3 : fn_check_pair [.val A, .val B] = some (.none, [.no, .no])) (e4 : gLen [A] = some (.int N))
    (i : iSeq (xV 1) [.val A, .val B, .val (.int N), .own (.lst []), .no, .no, .no] = some (ds, [.val A, .val B, .val (.int N), .own (.lst []), .no, .no, .no]))
    (e5 : runFor (setV 4) afterBody ds [.val A, .val B, .val (.int N), .own (.lst []), .no, .no, .no] = some (.nx [.val A, .val B, .val (.int N), .own (.lst rs), v4, v5, v6]))
    (e6 : gMinL [.list rs] = some (.int w)) (h : ¬ (w < -200)) (e7 : gTupOf [.list rs] = some Z) : fn_lift_after [.val A, .val B] = some (Z, [.no, .no]) := by
  unfold afterBody at e5
  simp [fn_lift_after, sx_lift_after, e1, e2, e3, e4, i, e5, e6, h, e7, -iSeq_eq, -gTupOf_l, -gMinL_l]
theorem lift_after_eq {n t t' : Nat} {a b : List Int} (hn : 2 ≤ n ∧ n ≤ 8) (s : Li n t a) (s' : Li n t' b) (ht : t ≤ 150 ∧ t' ≤ 150) (hm : ∀ x ∈ b.map (unI a), -200 ≤ x) : fn_lift_after [.val (tJ a), .val (tJ b)] = some (tJ (b.map (unI a)), [.no, .no]) := by
  obtain ⟨v4, v5, v6, e⟩ := after_loop (.val (tJ b)) (a := a) rfl (by rw [s.len]; omega) b [] .no .no .no (by simp; rw [s'.len]; omega)
  have e6 : ∃ w, gMinL [.list ((b.map (unI a)).map PyData.int)] = some (.int w) ∧ w ∈ b.map (unI a) := by
    have hb : b.map (unI a) ≠ [] := by
      intro h
      have := congrArg List.length h
      rw [List.length_map, s'.len] at this
      simp at this
      omega
    generalize b.map (unI a) = l at hb ⊢
    cases l with
    | nil => exact absurd rfl hb
    | cons x l =>
      refine ⟨leastI x l, ?_, (leastI_spec l x).1⟩
      rw [gMinL_l, intsOf_map]
      rfl
  obtain ⟨w, e6, hw⟩ := e6
  have := hm w hw
  exact after_aux (check_lift_eq hn s ht.1) (check_lift_eq hn s' ht.2) (check_pair_eq (s.len.trans s'.len.symm)) (len_tJ a) rfl e e6 (by omega) rfl
/-! ### whether two rows of ring bells do the same -/
theorem check_two_aux {N A B : D} (e1 : fn_check_size [.val N] = some (.none, [.no])) (e2 : fn_check_ring_bells [.val N, .val A] = some (.none, [.no, .no])) (e3 : fn_check_ring_bells [.val N, .val B] = some (.none, [.no, .no])) : fn_check_two_ring_bells [.val N, .val A, .val B] = some (.none, [.no, .no, .no]) := by
  simp [fn_check_two_ring_bells, sx_check_two_ring_bells, e1, e2, e3]
theorem same_ring_aux {N A B Y Z : D} {c : Bool} (e1 : fn_check_two_ring_bells [.val N, .val A, .val B] = some (.none, [.no, .no, .no])) (e2 : fn_lifted [.val N, .val A] = some (Y, [.no, .no])) (e3 : fn_lifted [.val N, .val B] = some (Z, [.no, .no])) (e4 : gEq Y Z = some (.bool c)) : fn_same_in_ring [.val N, .val A, .val B] = some (.bool c, [.no, .no, .no]) := by
  simp [fn_same_in_ring, sx_same_in_ring, e1, e2, e3, e4]
theorem same_ring_eq {n : Nat} {a b : List Int} (hn : 2 ≤ n ∧ n ≤ 8) (la : a.length ≤ 60) (ha : ∀ x ∈ a, 1 ≤ x ∧ x ≤ (n : Int)) (lb : b.length ≤ 60) (hb : ∀ x ∈ b, 1 ≤ x ∧ x ≤ (n : Int)) :
    fn_same_in_ring [.val (.int (n : Nat)), .val (tJ a), .val (tJ b)] = some (.bool (decide (liftsI (firstI n) a = liftsI (firstI n) b)), [.no, .no, .no]) :=
  same_ring_aux (check_two_aux (check_size_eq (size_nat hn)) (check_ring_eq la ha) (check_ring_eq lb hb)) (lifted_eq hn ha) (lifted_eq hn hb) (gEq_tJ _ _)
theorem people_comp {A : D} {r : List Int} {m : Int} (hm : 0 < m) (hA : A = tJ r) (hl : r.length ≤ 100) : yLc (iSeq (xV 0)) (setV 2) yesT (x2 gAdd (x2 gMod (x2 gSub (xV 2) (xC (PyData.int 1))) (xV 1)) (xC (PyData.int 1))) [2] [.val A, .val (.int m), .no] = some (r.map (fun x => PyData.int ((x - 1) % m + 1)), [.val A, .val (.int m), .no]) := by
  refine yLc_map (l := r) ?_ (by simp) rfl (by omega) fun x hx => ?_
  · rw [hA]; rfl
  · simp [hm]
theorem people_aux {A Z : D} {m : Int} {ls : List D} (e1 : gLen [A] = some (.int m)) (e2 : yLc (iSeq (xV 0)) (setV 2) yesT (x2 gAdd (x2 gMod (x2 gSub (xV 2) (xC (PyData.int 1))) (xV 1)) (xC (PyData.int 1))) [2] [.val A, .val (.int m), .no] = some (ls, [.val A, .val (.int m), .no])) (e3 : gTupOf [.list ls] = some Z) : fn_people_of [.val A] = some (Z, [.no]) := by
  simp [fn_people_of, sx_people_of, e1, e2, e3, -yLc_eq, -gTupOf_l]
def peopleI (n : Nat) (r : List Int) : List Int := r.map fun x => (x - 1) % (n : Int) + 1
theorem people_eq {n : Nat} {r : List Int} (hn : 2 ≤ n ∧ n ≤ 8) (hr : r.length = n) : fn_people_of [.val (tJ r)] = some (tJ (peopleI n r), [.no]) := by
  have e1 := len_tJ r
  rw [hr] at e1
  refine people_aux e1 (people_comp (by omega) rfl (by omega)) ?_
  show some (PyData.tuple _) = some (PyData.tuple _)
  unfold peopleI
  rw [List.map_map]
  rfl
theorem same_signs_aux {N A B Y Z Y' Z' : D} {c : Bool} (e1 : fn_check_two_ring_bells [.val N, .val A, .val B] = some (.none, [.no, .no, .no])) (e2 : fn_lifted [.val N, .val A] = some (Y, [.no, .no])) (e3 : fn_lifted [.val N, .val B] = some (Z, [.no, .no])) (p1 : fn_people_of [.val Y] = some (Y', [.no])) (p2 : fn_people_of [.val Z] = some (Z', [.no])) (e4 : gEq Y' Z' = some (.bool c)) : fn_same_signs [.val N, .val A, .val B] = some (.bool c, [.no, .no, .no]) := by
  simp [fn_same_signs, sx_same_signs, e1, e2, e3, p1, p2, e4]
theorem same_signs_eq {n : Nat} {a b : List Int} (hn : 2 ≤ n ∧ n ≤ 8) (la : a.length ≤ 60) (ha : ∀ x ∈ a, 1 ≤ x ∧ x ≤ (n : Int)) (lb : b.length ≤ 60) (hb : ∀ x ∈ b, 1 ≤ x ∧ x ≤ (n : Int)) :
    fn_same_signs [.val (.int (n : Nat)), .val (tJ a), .val (tJ b)] = some (.bool (decide (peopleI n (liftsI (firstI n) a) = peopleI n (liftsI (firstI n) b))), [.no, .no, .no]) :=
  same_signs_aux (check_two_aux (check_size_eq (size_nat hn)) (check_ring_eq la ha) (check_ring_eq lb hb)) (lifted_eq hn ha) (lifted_eq hn hb) (people_eq hn (by rw [liftsI_len, firstI_len])) (people_eq hn (by rw [liftsI_len, firstI_len])) (gEq_tJ _ _)
/-! ### the winner -/
theorem winner_aux {N B Y : D} {ds : List D} {P Z : D} (e1 : fn_check_size [.val N] = some (.none, [.no])) (e2 : fn_check_ring_bells [.val N, .val B] = some (.none, [.no, .no])) (e3 : fn_lifted [.val N, .val B] = some (Y, [.no, .no])) (e4 : fn_people_of [.val Y] = some (.tuple ds, [.no]))
    (e5 : gMul (.tuple (cutD ds none (some 1))) N = some Z) (e6 : gEq (.tuple ds) Z = some (.bool true)) (e7 : gIx (.tuple ds) (.int 0) = some P) : fn_ring_winner [.val N, .val B] = some (P, [.no, .no]) := by
  simp [fn_ring_winner, sx_ring_winner, e1, e2, e3, e4, e5, e6, e7, -gIx_ti]
theorem rep_tJ {p : Int} {n : Nat} (hn : 2 ≤ n ∧ n ≤ 8) : gMul (.tuple [.int p]) (.int (n : Nat)) = some (tJ (List.replicate n p)) := by
  rw [gMul_ti, if_pos ⟨by simp, by omega, by omega, by simp⟩, Int.toNat_natCast]
  congr 1
  show PyData.tuple _ = PyData.tuple _
  congr 1
  clear hn
  induction n with
  | zero => rfl
  | succ n ih => rw [List.replicate_succ, List.flatten_cons, ih, List.replicate_succ, List.map_cons]; rfl
theorem ring_winner_eq {n : Nat} {bs : List Int} {d : Int} (hn : 2 ≤ n ∧ n ≤ 8) (hl : bs.length ≤ 60) (h : ∀ b ∈ bs, 1 ≤ b ∧ b ≤ (n : Int)) (hd : liftsI (firstI n) bs = List.replicate n d) : fn_ring_winner [.val (.int (n : Nat)), .val (tJ bs)] = some (.int ((d - 1) % (n : Int) + 1), [.no, .no]) := by
  have e3 := lifted_eq hn h
  rw [hd] at e3
  have e4 := people_eq (r := List.replicate n d) hn (List.length_replicate ..)
  have pe : peopleI n (List.replicate n d) = List.replicate n ((d - 1) % (n : Int) + 1) := by
    unfold peopleI
    rw [List.map_replicate]
  rw [pe] at e4
  have cu : cutD ((List.replicate n ((d - 1) % (n : Int) + 1)).map PyData.int) none (some 1) = [.int ((d - 1) % (n : Int) + 1)] := by
    rw [cutD_lo (by omega)]
    obtain ⟨m, rfl⟩ : ∃ m, n = m + 1 := ⟨n - 1, by omega⟩
    rw [List.replicate_succ, List.map_cons]
    rfl
  have e7 := gIx_tJ (r := List.replicate n ((d - 1) % (n : Int) + 1)) (k := 0) ⟨by omega, by rw [List.length_replicate]; omega⟩
  have z : (List.replicate n ((d - 1) % (n : Int) + 1)).getD (0 : Int).toNat 0 = (d - 1) % (n : Int) + 1 := by
    rw [List.getD_eq_getElem?_getD, List.getElem?_replicate, if_pos (by show 0 < n; omega)]
    rfl
  rw [z] at e7
  refine winner_aux (check_size_eq (size_nat hn)) (check_ring_eq hl h) e3 e4 (by rw [cu]; exact rep_tJ hn) ?_ e7
  show gEq (tJ _) (tJ _) = _
  rw [gEq_tJ, decide_eq_true rfl]
end BC
set_option Elab.async false
set_option linter.all false
set_option maxRecDepth 100000
set_option maxHeartbeats 4000000
namespace BC
open PySem PySem.Spec PyProof.Rows L2 GxR
/-! ### whole turns -/
theorem enum_pairs (r : List Int) : enumD 1 (r.map PyData.int) = (numI 1 r).map pairD := by
  refine List.ext_getElem (by rw [enumD_len, List.length_map, List.length_map, numI_len]) fun i h0 h2 => ?_
  have h1 := h0
  rw [enumD_len, List.length_map] at h1
  obtain ⟨x, e1, e2⟩ := enumD_get (k0 := 1) (ds := r.map PyData.int) (i := i) (d := (enumD 1 (r.map PyData.int))[i]) (List.getElem?_eq_getElem h0)
  rw [List.getElem?_map, List.getElem?_eq_getElem h1] at e1
  cases e1
  rw [e2, List.getElem_map]
  have g := numI_get (k0 := 1) (List.getElem?_eq_getElem h1)
  rw [List.getElem?_eq_getElem (by rw [numI_len]; exact h1)] at g
  rw [Option.some.inj g]
  rfl
theorem turns_loop (c1 : Slot) {N : Int} (hN : 0 < N ∧ N < 1073741824) : ∀ (ps : List (Int × Int)) (acc : List D), acc.length + ps.length ≤ 1000 →
    runLc (setV2 2 3) yesT (x2 gDiv (x2 gSub (xV 2) (xV 3)) (xV 0)) [2, 3] (ps.map pairD) acc [.val (.int N), c1, .no, .no] = some (acc ++ ps.map (fun q => PyData.int ((q.1 - q.2) / N)), [.val (.int N), c1, .no, .no])
  | [], acc, _ => by simp
  | q :: ps, acc, hl => by
    simp only [List.length_cons] at hl
    have ih := turns_loop c1 hN ps (acc ++ [.int ((q.1 - q.2) / N)]) (by simp; omega)
    have fit : acc.length < 100000 := by omega
    simp [runLc, wipeS, pairD, hN, fit, ih]
theorem turns_aux {N B Z : D} {ls : List D} (e1 : fn_check_size [.val N] = some (.none, [.no])) (e2 : fn_check_ring_bells [.val N, .val B] = some (.none, [.no, .no]))
    (e4 : yLc (iEn2 (yCons (xFn fn_lifted (yCons (xV 0) (yCons (xV 1) yNil))) (yCons (xC (PyData.int 1)) yNil))) (setV2 2 3) yesT (x2 gDiv (x2 gSub (xV 2) (xV 3)) (xV 0)) [2, 3] [.val N, .val B, .no, .no] = some (ls, [.val N, .val B, .no, .no])) (e5 : gTupOf [.list ls] = some Z) : fn_turns_back [.val N, .val B] = some (Z, [.no, .no]) := by
  simp [fn_turns_back, sx_turns_back, e1, e2, e4, e5, -yLc_eq, -gTupOf_l]
theorem turns_comp {B : D} {N : Int} {r : List Int} (hN : 0 < N ∧ N < 1073741824) (hr : r.length ≤ 100) (e : fn_lifted [.val (.int N), .val B] = some (tJ r, [.no, .no])) :
    yLc (iEn2 (yCons (xFn fn_lifted (yCons (xV 0) (yCons (xV 1) yNil))) (yCons (xC (PyData.int 1)) yNil))) (setV2 2 3) yesT (x2 gDiv (x2 gSub (xV 2) (xV 3)) (xV 0)) [2, 3] [.val (.int N), .val B, .no, .no] = some ((numI 1 r).map (fun q => PyData.int ((q.1 - q.2) / N)), [.val (.int N), .val B, .no, .no]) := by
  have lp := turns_loop (.val B) hN (numI 1 r) [] (by rw [numI_len]; simp; omega)
  have i : iEn2 (yCons (xFn fn_lifted (yCons (xV 0) (yCons (xV 1) yNil))) (yCons (xC (PyData.int 1)) yNil)) [.val (.int N), .val B, .no, .no] = some (enumD 1 (r.map PyData.int), [.val (.int N), .val B, .no, .no]) := by
    rw [iEn2_eq]
    simp only [yCons_eq, yNil_eq, xV_eq, xC_eq, xFn_eq, List.getElem?_cons_zero, List.getElem?_cons_succ, Option.bind_some, Option.map_some, List.map_cons, List.map_nil, e]
    simp only [tJ, tI]
    rw [if_pos (by decide)]
  rw [yLc_eq, i, Option.bind_some]
  have w : wipeS [Slot.val (.int N), .val B, .no, .no] [2, 3] = [.val (.int N), .val B, .no, .no] := rfl
  show (runLc _ _ _ _ (enumD 1 (r.map PyData.int)) [] (wipeS [Slot.val (.int N), .val B, .no, .no] [2, 3])).map _ = _
  rw [w, enum_pairs, lp, Option.map_some]
  rfl
/-! ### the law's ring bells -/
def ringBody : SX := sSeq (sSet 4 (xIf (yAnd (xT (x2 gGt (xV 5) (xC (PyData.int 0)))) (xT (x2 gGt (xFnO fn_law_taken 0 (yCons (xC (PyData.int 4)) yNil)) (xC (PyData.int 0))))) (x2 gAdd (x2 gMod (xV 4) (xV 1)) (xC (PyData.int 1))) (x2 gAdd (xC (PyData.int 1)) (xFnO fn_law_taken 0 (yCons (xV 1) yNil))))) (sApp 3 (xV 4))
theorem ring_loop (ns : List Int) {N : Int} (hN : 2 ≤ N ∧ N ≤ 8) (c2 : Slot) (way : Int) : ∀ (ts : List D) (fd : List Int) (last : Int) (t0 : Slot) (i sd rs : Int), 0 ≤ i → fd.length + ts.length ≤ 1000 → 1 ≤ last ∧ last ≤ N → (∀ b ∈ fd, 1 ≤ b ∧ b ≤ N) →
    ∃ (fd' : List Int) (last' : Int) (t' : Slot) (i' sd' rs' : Int), runFor (setV 6) ringBody ts [.own (rowC ns i sd rs), .val (.int N), c2, .own (.lst (fd.map PyData.int)), .val (.int last), .val (.int way), t0] =
      some (.nx [.own (rowC ns i' sd' rs'), .val (.int N), c2, .own (.lst (fd'.map PyData.int)), .val (.int last'), .val (.int way), t']) ∧ 0 ≤ i' ∧ fd'.length = fd.length + ts.length ∧ ∀ b ∈ fd', 1 ≤ b ∧ b ≤ N
  | [], fd, last, t0, i, sd, rs, hi, hl, hla, hf => ⟨fd, last, t0, i, sd, rs, rfl, hi, by simp, hf⟩
  | t :: ts, fd, last, t0, i, sd, rs, hi, hl, hla, hf => by
    simp only [List.length_cons] at hl
    have go : ∀ (b : Int) (i2 sd2 rs2 : Int), 0 ≤ i2 → 1 ≤ b ∧ b ≤ N → ∃ (fd' : List Int) (last' : Int) (t' : Slot) (i' sd' rs' : Int), runFor (setV 6) ringBody ts [.own (rowC ns i2 sd2 rs2), .val (.int N), c2, .own (.lst ((fd ++ [b]).map PyData.int)), .val (.int b), .val (.int way), .val t] =
      some (.nx [.own (rowC ns i' sd' rs'), .val (.int N), c2, .own (.lst (fd'.map PyData.int)), .val (.int last'), .val (.int way), t']) ∧ 0 ≤ i' ∧ fd'.length = fd.length + (t :: ts).length ∧ ∀ b ∈ fd', 1 ≤ b ∧ b ≤ N := fun b i2 sd2 rs2 h2 hb => by
        obtain ⟨fd', last', t', i', sd', rs', e, h3, h4, h5⟩ := ring_loop ns hN c2 way ts (fd ++ [b]) b (.val t) i2 sd2 rs2 h2 (by simp; omega) hb (fun x hx => by
          rcases List.mem_append.mp hx with z | z
          · exact hf x z
          · rw [List.mem_singleton.mp z]; exact hb)
        exact ⟨fd', last', t', i', sd', rs', e, h3, by rw [h4]; simp; omega, h5⟩
    have fit : fd.length < 100000 := by omega
    have turn : 1 ≤ last % N + 1 ∧ last % N + 1 ≤ N := by
      have h1 := Int.emod_nonneg last (show N ≠ 0 by omega)
      have h2 := Int.emod_lt_of_pos last (show 0 < N by omega)
      omega
    have pN : 0 < N := by omega
    by_cases hw : 0 < way
    · obtain ⟨v, i1, sd1, rs1, e1, v0, v1, g1⟩ := taken_eq ns i sd rs 4 hi ⟨by omega, by omega⟩
      by_cases hv : 0 < v
      · obtain ⟨fd', last', t', i', sd', rs', e, h3, h4, h5⟩ := go (last % N + 1) i1 sd1 rs1 g1 turn
        refine ⟨fd', last', t', i', sd', rs', ?_, h3, h4, h5⟩
        rw [← e]
        simp [runFor, ringBody, hw, e1, hv, pN, fit]
      · obtain ⟨u, i2, sd2, rs2, e2, u0, u1, g2⟩ := taken_eq ns i1 sd1 rs1 N g1 ⟨by omega, by omega⟩
        obtain ⟨fd', last', t', i', sd', rs', e, h3, h4, h5⟩ := go (1 + u) i2 sd2 rs2 g2 (by omega)
        refine ⟨fd', last', t', i', sd', rs', ?_, h3, h4, h5⟩
        rw [← e]
        simp [runFor, ringBody, hw, e1, hv, e2, fit]
    · obtain ⟨u, i2, sd2, rs2, e2, u0, u1, g2⟩ := taken_eq ns i sd rs N hi ⟨by omega, by omega⟩
      obtain ⟨fd', last', t', i', sd', rs', e, h3, h4, h5⟩ := go (1 + u) i2 sd2 rs2 g2 (by omega)
      refine ⟨fd', last', t', i', sd', rs', ?_, h3, h4, h5⟩
      rw [← e]
      simp [runFor, ringBody, hw, e2, fit]
theorem law_ring_aux {R R1 R2 R3 R4 : Cell} {N m a w v : Int} {ls : List D} {last t' : Slot} {Z : D} (e1 : fn_law_taken [.own R, .val (.int N)] = some (.int a, [.own R1, .no])) (e2 : fn_law_taken [.own R1, .val (.int 3)] = some (.int w, [.own R2, .no])) (e3 : fn_law_taken [.own R2, .val (.int m)] = some (.int v, [.own R3, .no])) (hv : -4611686018427387904 ≤ v ∧ v < 4611686018427387904)
    (e4 : runFor (setV 6) ringBody (rangeD 0 v.toNat) [.own R3, .val (.int N), .val (.int m), .own (.lst []), .val (.int (1 + a)), .val (.int w), .no] = some (.nx [.own R4, .val (.int N), .val (.int m), .own (.lst ls), last, .val (.int w), t'])) (e5 : gTupOf [.list ls] = some Z) : fn_law_ring [.own R, .val (.int N), .val (.int m)] = some (Z, [.own R4, .no, .no]) := by
  unfold ringBody at e4
  simp [fn_law_ring, sx_law_ring, e1, e2, e3, hv, e4, e5, -gTupOf_l]
theorem law_ring_eq (ns : List Int) (i sd rs m : Int) {n : Nat} (hn : 2 ≤ n ∧ n ≤ 8) (hi : 0 ≤ i) (hm : 0 < m ∧ m ≤ 60) : ∃ (bs : List Int) (i' sd' rs' : Int), fn_law_ring [.own (rowC ns i sd rs), .val (.int (n : Nat)), .val (.int m)] = some (tJ bs, [.own (rowC ns i' sd' rs'), .no, .no]) ∧ (∀ b ∈ bs, 1 ≤ b ∧ b ≤ (n : Int)) ∧ (bs.length : Int) < m ∧ 0 ≤ i' := by
  obtain ⟨a, i1, sd1, rs1, e1, a0, a1, g1⟩ := taken_eq ns i sd rs (n : Nat) hi ⟨by omega, by omega⟩
  obtain ⟨w, i2, sd2, rs2, e2, w0, w1, g2⟩ := taken_eq ns i1 sd1 rs1 3 g1 ⟨by omega, by omega⟩
  obtain ⟨v, i3, sd3, rs3, e3, v0, v1, g3⟩ := taken_eq ns i2 sd2 rs2 m g2 ⟨by omega, by omega⟩
  obtain ⟨fd', last', t', i', sd', rs', e4, h1, h2, h3⟩ := ring_loop ns (N := (n : Nat)) (by omega) (.val (.int m)) w (rangeD 0 v.toNat) [] (1 + a) .no i3 sd3 rs3 g3 (by simp [rangeD]; omega) (by omega) (by simp)
  exact ⟨fd', i', sd', rs', law_ring_aux e1 e2 e3 (by omega) e4 rfl, h3, by rw [h2]; simp [rangeD]; omega, h1⟩
theorem winner_none {N B Y Z : D} {ds : List D} (e1 : fn_check_size [.val N] = some (.none, [.no])) (e2 : fn_check_ring_bells [.val N, .val B] = some (.none, [.no, .no])) (e3 : fn_lifted [.val N, .val B] = some (Y, [.no, .no])) (e4 : fn_people_of [.val Y] = some (.tuple ds, [.no]))
    (e5 : gMul (.tuple (cutD ds none (some 1))) N = some Z) (e6 : gEq (.tuple ds) Z = some (.bool false)) : fn_ring_winner [.val N, .val B] = some (.none, [.no, .no]) := by
  simp [fn_ring_winner, sx_ring_winner, e1, e2, e3, e4, e5, e6]
theorem cut_one {p : List Int} (h : 0 < p.length) : cutD (p.map PyData.int) none (some 1) = [.int (p.getD 0 0)] := by
  rw [cutD_lo (by omega)]
  cases p with
  | nil => simp at h
  | cons x p => rfl
theorem winner_all {n : Nat} {bs : List Int} (hn : 2 ≤ n ∧ n ≤ 8) (hl : bs.length ≤ 60) (h : ∀ b ∈ bs, 1 ≤ b ∧ b ≤ (n : Int)) :
    fn_ring_winner [.val (.int (n : Nat)), .val (tJ bs)] = some (if peopleI n (liftsI (firstI n) bs) = List.replicate n ((peopleI n (liftsI (firstI n) bs)).getD 0 0) then .int ((peopleI n (liftsI (firstI n) bs)).getD 0 0) else .none, [.no, .no]) := by
  have e3 := lifted_eq hn h
  have e4 := people_eq (r := liftsI (firstI n) bs) hn (by rw [liftsI_len, firstI_len])
  have lp : (peopleI n (liftsI (firstI n) bs)).length = n := by simp [peopleI, liftsI_len, firstI_len]
  generalize peopleI n (liftsI (firstI n) bs) = p at e4 lp ⊢
  have cu := cut_one (p := p) (by omega)
  have m : gMul (.tuple (cutD (p.map PyData.int) none (some 1))) (.int (n : Nat)) = some (tJ (List.replicate n (p.getD 0 0))) := by rw [cu]; exact rep_tJ hn
  have q := gEq_tJ p (List.replicate n (p.getD 0 0))
  by_cases c : p = List.replicate n (p.getD 0 0)
  · rw [if_pos c]
    rw [decide_eq_true c] at q
    have g := gIx_tJ (r := p) (k := 0) ⟨by omega, by omega⟩
    exact winner_aux (check_size_eq (size_nat hn)) (check_ring_eq hl h) e3 e4 m q g
  · rw [if_neg c]
    rw [decide_eq_false c] at q
    exact winner_none (check_size_eq (size_nat hn)) (check_ring_eq hl h) e3 e4 m q
/-- whole turns -/
def turnsI (n : Nat) (r : List Int) : List Int := (numI 1 r).map fun q => (q.1 - q.2) / (n : Int)
theorem turns_all {n : Nat} {bs : List Int} (hn : 2 ≤ n ∧ n ≤ 8) (hl : bs.length ≤ 60) (h : ∀ b ∈ bs, 1 ≤ b ∧ b ≤ (n : Int)) : fn_turns_back [.val (.int (n : Nat)), .val (tJ bs)] = some (tJ (turnsI n (liftsI (firstI n) bs)), [.no, .no]) := by
  have e3 := lifted_eq hn h
  have tc := turns_comp (B := tJ bs) (N := (n : Nat)) (by omega) (by rw [liftsI_len, firstI_len]; omega) e3
  refine turns_aux (check_size_eq (size_nat hn)) (check_ring_eq hl h) tc ?_
  show some (PyData.tuple _) = some (PyData.tuple _)
  unfold turnsI
  rw [List.map_map]
  rfl
theorem turns_range {n : Nat} {r : List Int} (hr : r.length = n) : turnsI n r = (List.range n).map fun (k : Nat) => ((k : Int) + 1 - r.getD k 0) / (n : Int) := by
  unfold turnsI
  refine List.ext_getElem (by simp [numI_len, hr]) fun i h1 h2 => ?_
  rw [List.length_map, numI_len] at h1
  have g := numI_get (k0 := 1) (List.getElem?_eq_getElem h1)
  rw [List.getElem?_eq_getElem (by rw [numI_len]; exact h1)] at g
  rw [List.getElem_map, Option.some.inj g, List.getElem_map, List.getElem_range, List.getD_eq_getElem?_getD, List.getElem?_eq_getElem h1]
  show (1 + (i : Int) - r[i]) / (n : Int) = ((i : Int) + 1 - r[i]) / (n : Int)
  congr 2
  omega
end BC
set_option Elab.async false
set_option linter.all false
set_option maxRecDepth 100000
set_option maxHeartbeats 4000000
namespace BC
open PySem PySem.Spec PyProof.Rows L2 GxR
end BC
set_option Elab.async false
set_option linter.all false
set_option maxRecDepth 100000
set_option maxHeartbeats 4000000
namespace BC
open PySem PySem.Spec PyProof.Rows L2 GxR
/-! ### comprehensions with any target -/
theorem runLc_gen {α : Type} {enc : α → D} {st : D → SS → Option SS} {vs : List Nat} {tt : DT} {te : DX} {p : α → Bool} {g : α → D} {W : SS} {V : α → SS} : ∀ (l : List α) (acc : List D), acc.length + l.length ≤ 100000 →
    (∀ x ∈ l, st (enc x) W = some (V x) ∧ tt (V x) = some (p x, V x) ∧ (p x = true → te (V x) = some (g x, V x)) ∧ wipeS (V x) vs = W) →
    runLc st tt te vs (l.map enc) acc W = some (acc ++ (l.filter p).map g, W)
  | [], acc, _, _ => by simp [runLc]
  | x :: l, acc, hl, h => by
    simp only [List.length_cons] at hl
    obtain ⟨h1, h2, h3, h4⟩ := h x List.mem_cons_self
    simp only [List.map_cons, runLc, h1, Option.bind_some, h2]
    by_cases c : p x = true
    · have fit : acc.length < 100000 := by omega
      rw [if_pos c, h3 c, Option.bind_some, if_pos fit, h4, runLc_gen l (acc ++ [g x]) (by simp; omega) fun y hy => h y (List.mem_cons_of_mem _ hy)]
      rw [List.filter_cons_of_pos c, List.map_cons, List.append_assoc]
      rfl
    · rw [if_neg c, h4, runLc_gen l acc (by omega) fun y hy => h y (List.mem_cons_of_mem _ hy)]
      rw [List.filter_cons_of_neg c]
theorem yLc_gen {α : Type} {enc : α → D} {st : D → SS → Option SS} {vs : List Nat} {fs : DA} {tt : DT} {te : DX} {p : α → Bool} {g : α → D} {S W : SS} {V : α → SS} {l : List α} (hf : fs S = some (l.map enc, S)) (hW : wipeS S vs = W) (hS : restS S W vs = S) (hl : l.length ≤ 100000)
    (h : ∀ x ∈ l, st (enc x) W = some (V x) ∧ tt (V x) = some (p x, V x) ∧ (p x = true → te (V x) = some (g x, V x)) ∧ wipeS (V x) vs = W) :
    yLc fs st tt te vs S = some ((l.filter p).map g, S) := by
  rw [yLc_eq, hf, Option.bind_some]
  show (runLc st tt te vs (l.map enc) [] (wipeS S vs)).map _ = _
  rw [hW, runLc_gen l [] (by simpa using hl) h, Option.map_some]
  simp only [hS, List.nil_append]
/-! ### places and entries -/
theorem enum_num : ∀ (r : List Int) (k : Int), enumD k (r.map PyData.int) = (numI k r).map pairD
  | [], k => by rw [List.map_nil, enumD_nil]; rfl
  | x :: r, k => by rw [List.map_cons, enumD_cons, enum_num r (k + 1), numI_cons, List.map_cons]; rfl
theorem num_first (r : List Int) : numI 1 r = (firstI r.length).map fun k => (k, atI r k) := by
  refine List.ext_getElem? fun i => ?_
  rw [List.getElem?_map]
  by_cases h : i < r.length
  · rw [numI_get (n := r.getD i 0) (by rw [List.getElem?_eq_getElem h, List.getD_eq_getElem?_getD, List.getElem?_eq_getElem h]; rfl)]
    unfold firstI
    rw [List.getElem?_map, List.getElem?_range h]
    simp only [Option.map_some]
    congr 2
    unfold atI
    congr 1
    omega
  · rw [List.getElem?_eq_none (by rw [numI_len]; omega), List.getElem?_eq_none (by rw [firstI_len]; omega)]
    rfl
def singleI (r : List Int) : List Int := (firstI r.length).filter fun k => decide (atI r k < k)
def ownI (r : List Int) : List Int := (firstI r.length).filter fun k => decide (atI r k = k)
def lostI (r : List Int) : List Int := (firstI r.length).filter fun k => !decide (k ∈ r)
theorem en_places {r : List Int} {S : SS} (h : S[0]? = some (.val (tJ r))) : iEn2A (yCons (xV 0) (yCons (xC (PyData.int 1)) yNil)) S = some ((numI 1 r).map pairD, S) := by
  rw [iEn2A_eq, yCons_eq, xV_eq, h]
  simp only [Option.bind_some, yCons_eq, xC_eq, yNil_eq, Option.map_some]
  show (if _ then some (enumD 1 (r.map PyData.int), S) else none) = _
  rw [if_pos (by omega), enum_num]
theorem places_comp {r : List Int} {tt : DT} {q : Int → Int → Bool} (hl : r.length ≤ 100) (h : ∀ k x : Int, tt [.val (tJ r), .val (.int k), .val (.int x)] = some (q k x, [.val (tJ r), .val (.int k), .val (.int x)])) :
    xCall gTupOf (yCons (xL (yLc (iEn2A (yCons (xV 0) (yCons (xC (PyData.int 1)) yNil))) (setV2 1 2) tt (xV 1) [1, 2])) yNil) [.val (tJ r), .no, .no] = some (tJ ((firstI r.length).filter fun k => q k (atI r k)), [.val (tJ r), .no, .no]) := by
  have e := yLc_gen (enc := pairD) (st := setV2 1 2) (vs := [1, 2]) (tt := tt) (te := xV 1) (p := fun z : Int × Int => q z.1 z.2) (g := fun z : Int × Int => PyData.int z.1) (S := [.val (tJ r), .no, .no]) (W := [.val (tJ r), .no, .no]) (V := fun z => [.val (tJ r), .val (.int z.1), .val (.int z.2)]) (l := numI 1 r)
    (en_places rfl) rfl rfl (by rw [numI_len]; omega) fun z _ => ⟨rfl, h z.1 z.2, fun _ => rfl, rfl⟩
  rw [xCall_eq, yCons_eq, xL_eq, e, num_first, List.filter_map, List.map_map]
  rfl
/-! ### stairs below others -/
def belB (a b : List Int) : Bool := (a.zip b).all fun q => decide (q.1 ≤ q.2)
theorem belB_of {a b : List Int} (h : Bel a b) : belB a b = true := below_all h
theorem belB_iff {a b : List Int} (hl : a.length = b.length) : belB a b = true ↔ Bel a b := by
  refine ⟨fun h => Bel.of hl fun j hj => ?_, belB_of⟩
  have hz : j < (a.zip b).length := by rw [List.length_zip]; omega
  have := List.all_eq_true.mp h (a.zip b)[j] (List.getElem_mem hz)
  rw [List.getElem_zip] at this
  have h1 := of_decide_eq_true this
  rw [List.getD_eq_getElem?_getD, List.getD_eq_getElem?_getD, List.getElem?_eq_getElem hj, List.getElem?_eq_getElem (by omega)]
  exact h1
def betweenI (n : Nat) (a b : List Int) : List (List Int) := (stairsOf n).filter fun r => belB b r && belB r a
end BC
set_option Elab.async false
set_option linter.all false
set_option maxRecDepth 100000
set_option maxHeartbeats 4000000
namespace BC
open PySem PySem.Spec PyProof.Rows L2 GxR
/-! ### rows in their order -/
theorem lex_rows : ∀ a b : List Int, PyProof.Rows.lexLt PyProof.Rows.itemOrd (PySem.W.keyToksAll (a.map PyData.int)) (PySem.W.keyToksAll (b.map PyData.int)) = ltR a b
  | [], [] => by
    show PyProof.Rows.lexLt PyProof.Rows.itemOrd [.inl 0] [.inl 0] = false
    rw [lex_self]; rfl
  | [], y :: t => by
    show PyProof.Rows.lexLt PyProof.Rows.itemOrd [.inl 0] (.inl 1 :: _) = true
    rw [lex_diff (by simp)]; rfl
  | x :: r, [] => by
    show PyProof.Rows.lexLt PyProof.Rows.itemOrd (.inl 1 :: _) [.inl 0] = false
    rw [lex_diff (by simp)]; rfl
  | x :: r, y :: t => by
    show PyProof.Rows.lexLt PyProof.Rows.itemOrd (.inl 1 :: .inl x :: PySem.W.keyToksAll (r.map PyData.int)) (.inl 1 :: .inl y :: PySem.W.keyToksAll (t.map PyData.int)) = ltR (x :: r) (y :: t)
    rw [lex_self, lex_cons, lex_rows r t]
    show (decide (x < y) || (!decide (y < x) && ltR r t)) = _
    rw [show ltR (x :: r) (y :: t) = if x < y then true else if y < x then false else ltR r t from rfl]
    by_cases h1 : x < y
    · rw [if_pos h1, decide_eq_true h1, Bool.true_or]
    · rw [if_neg h1, decide_eq_false h1, Bool.false_or]
      by_cases h2 : y < x
      · rw [if_pos h2, decide_eq_true h2]; rfl
      · rw [if_neg h2, decide_eq_false h2]; rfl
theorem le_rows (a b : List Int) : PySem.W.dataLe false id (tJ a) (tJ b) = !ltR b a := by
  show (!PyProof.Rows.lexLt PyProof.Rows.itemOrd (PySem.W.keyToksAll (b.map PyData.int)) (PySem.W.keyToksAll (a.map PyData.int))) = _
  rw [lex_rows]
theorem ltR_at : ∀ (a b : List Int) (j : Nat), j < a.length → j < b.length → (∀ i, i < j → a.getD i 0 = b.getD i 0) → a.getD j 0 < b.getD j 0 → ltR b a = false
  | [], _, _, h, _, _, _ => by simp at h
  | _ :: _, [], _, _, h, _, _ => by simp at h
  | x :: r, y :: t, 0, _, _, _, h => by
    have h : x < y := by simpa using h
    unfold ltR
    rw [if_neg (by omega), if_pos h]
  | x :: r, y :: t, j + 1, h1, h2, h3, h4 => by
    have e : x = y := by simpa using h3 0 (by omega)
    subst e
    unfold ltR
    rw [if_neg (by omega), if_neg (by omega)]
    exact ltR_at r t j (by simpa using h1) (by simpa using h2) (fun i hi => by simpa using h3 (i + 1) (by omega)) (by simpa using h4)
theorem sort_rows {l : List (List Int)} (ne : ∀ r ∈ l, r ≠ []) (h : l.Pairwise fun a b => ltR b a = false) : gSortD [.list (l.map tJ)] = some (.list (l.map tJ)) := by
  have ok : okSort (l.map tJ) = true := by
    unfold okSort
    rw [Bool.or_eq_true]
    refine .inr (List.all_eq_true.mpr fun d hd => ?_)
    obtain ⟨r, hr, rfl⟩ := List.mem_map.mp hd
    cases r with
    | nil => exact absurd rfl (ne _ hr)
    | cons x r =>
      show (((x :: r).map PyData.int).all isIntD && true) = true
      rw [Bool.and_eq_true]
      refine ⟨?_, rfl⟩
      exact List.all_eq_true.mpr fun e he => by
        obtain ⟨z, _, rfl⟩ := List.mem_map.mp he
        rfl
  unfold gSortD
  dsimp only
  rw [if_pos ok, isort_same]
  rw [List.pairwise_map]
  exact h.imp fun {a b} h => by rw [le_rows, h]; rfl
/-! ### the stairs just below -/
def coverAt (r : List Int) (j : Nat) : Option (List Int) := if r.getD (j - 1) 0 < r.getD j 0 then some (r.set j (r.getD j 0 - 1)) else none
def coverI (r : List Int) : List (List Int) := (List.range' 1 (r.length - 1)).filterMap (coverAt r)
theorem cover_sorted {r : List Int} : ∀ (cnt j : Nat), j + cnt ≤ r.length → ((List.range' j cnt).filterMap (coverAt r)).Pairwise fun a b => ltR b a = false
  | 0, _, _ => List.Pairwise.nil
  | cnt + 1, j, h => by
    rw [List.range'_succ, List.filterMap_cons]
    have ih := cover_sorted (r := r) cnt (j + 1) (by omega)
    unfold coverAt
    split
    · exact ih
    · rename_i a ha
      split at ha
      · cases ha
        refine List.pairwise_cons.mpr ⟨fun b hb => ?_, ih⟩
        obtain ⟨i, hi, e⟩ := List.mem_filterMap.mp hb
        have hi := List.mem_range'_1.mp hi
        split at e
        · cases e
          have g1 : (r.set i (r.getD i 0 - 1)).getD j 0 = r.getD j 0 := getD_set_ne (by omega)
          have g2 : (r.set j (r.getD j 0 - 1)).getD j 0 = r.getD j 0 - 1 := getD_set_self (by omega)
          refine ltR_at (r.set j (r.getD j 0 - 1)) (r.set i (r.getD i 0 - 1)) j (by rw [List.length_set]; omega) (by rw [List.length_set]; omega) (fun k hk => ?_) (by omega)
          rw [getD_set_ne (r := r) (i := j) (by omega), getD_set_ne (r := r) (i := i) (by omega)]
        · cases e
      · cases ha
theorem cover_body {ds acc : List D} {p x y : Int} {j : Nat} (hp : p = (j : Int)) (hj : 1 ≤ j ∧ j < ds.length) (hl : ds.length ≤ 100) (ha : acc.length < 100000) (h1 : ds[j]? = some (.int x)) (h2 : ds[j - 1]? = some (.int y)) :
    sIf (xT (x2 gGt (x2 gIx (xV 0) (xV 2)) (x2 gIx (xV 0) (x2 gSub (xV 2) (xC (PyData.int 1)))))) (sApp 1 (x2 gAddA (x2 gAddA (xSl (xV 0) oNo (oSm (xV 2))) (xTup (yCons (x2 gSub (x2 gIx (xV 0) (xV 2)) (xC (PyData.int 1))) yNil))) (xSl (xV 0) (oSm (x2 gAddA (xV 2) (xC (PyData.int 1)))) oNo))) sNx [.val (.tuple ds), .own (.lst acc), .val (.int p)]
      = some (.nx [.val (.tuple ds), .own (.lst (if y < x then acc ++ [.tuple (ds.set j (.int (x - 1)))] else acc)), .val (.int p)]) := by
  subst hp
  have sp := set_split ds j (.int (x - 1)) hj.2
  have c1 : cutD ds none (some (j : Int)) = ds.take j := by rw [cutD_lo (by omega)]; congr 1
  have c2 : cutD ds (some ((j : Int) + 1)) none = ds.drop (j + 1) := by rw [cutD_hi (by omega)]; congr 1
  have e4 : min j ds.length + 1 ≤ 100000 := by omega
  have e5 : min j ds.length + 1 + (ds.length - (j + 1)) ≤ 100000 := by omega
  have i1 : ixN ds.length (j : Int) = some j := by rw [ixN_in (by omega) (by omega)]; congr 1
  have i2 : ixN ds.length ((j : Int) - 1) = some (j - 1) := by rw [ixN_in (by omega) (by omega)]; congr 1; omega
  by_cases c : y < x
  · simp [i1, i2, h1, h2, c, c1, c2, e4, e5, ha, sp]
  · simp [i1, i2, h1, h2, c]
theorem cover_loop {r : List Int} (hr : r.length ≤ 100) : ∀ (cnt j : Nat) (acc : List (List Int)) (v : Slot), 1 ≤ j → j + cnt ≤ r.length → acc.length + cnt ≤ 1000 →
    ∃ v', runFor (setV 2) (sIf (xT (x2 gGt (x2 gIx (xV 0) (xV 2)) (x2 gIx (xV 0) (x2 gSub (xV 2) (xC (PyData.int 1)))))) (sApp 1 (x2 gAddA (x2 gAddA (xSl (xV 0) oNo (oSm (xV 2))) (xTup (yCons (x2 gSub (x2 gIx (xV 0) (xV 2)) (xC (PyData.int 1))) yNil))) (xSl (xV 0) (oSm (x2 gAddA (xV 2) (xC (PyData.int 1)))) oNo))) sNx) (rangeD (j : Int) cnt) [.val (tJ r), .own (.lst (acc.map tJ)), v]
      = some (.nx [.val (tJ r), .own (.lst ((acc ++ (List.range' j cnt).filterMap (coverAt r)).map tJ)), v'])
  | 0, j, acc, v, _, _, _ => ⟨v, by rw [show rangeD (j : Int) 0 = [] from rfl, runFor_nil]; simp⟩
  | cnt + 1, j, acc, v, h1, h2, h3 => by
    have hm : (r.map PyData.int).length = r.length := List.length_map _
    have b := cover_body (ds := r.map PyData.int) (acc := acc.map tJ) (p := (j : Int)) (j := j) rfl ⟨h1, by rw [hm]; omega⟩ (by rw [hm]; exact hr) (by rw [List.length_map]; omega) (getN (r := r) (by omega)) (getN (r := r) (j := j - 1) (by omega))
    have e0 : (if r.getD (j - 1) 0 < r.getD j 0 then acc.map tJ ++ [.tuple ((r.map PyData.int).set j (.int (r.getD j 0 - 1)))] else acc.map tJ) = (acc ++ (coverAt r j).toList).map tJ := by
      unfold coverAt
      split
      · rw [List.map_append, ← List.map_set]; rfl
      · simp
    rw [e0] at b
    obtain ⟨v', e⟩ := cover_loop hr cnt (j + 1) (acc ++ (coverAt r j).toList) (.val (.int (j : Int))) (by omega) (by omega) (by
      rw [List.length_append]
      have : (coverAt r j).toList.length ≤ 1 := by cases coverAt r j <;> simp
      omega)
    refine ⟨v', ?_⟩
    rw [rangeD_succ, show ((j : Int) + 1) = ((j + 1 : Nat) : Int) by push_cast; rfl]
    show Option.bind (setV 2 _ _) _ = _
    rw [show setV 2 (.int (j : Int)) [.val (tJ r), .own (.lst (acc.map tJ)), v] = some [.val (tJ r), .own (.lst (acc.map tJ)), .val (.int (j : Int))] from rfl, Option.bind_some]
    have b : sIf _ _ _ [.val (tJ r), .own (.lst (acc.map tJ)), .val (.int (j : Int))] = some (.nx [.val (tJ r), .own (.lst ((acc ++ (coverAt r j).toList).map tJ)), .val (.int (j : Int))]) := b
    rw [b, Option.bind_some]
    dsimp only
    rw [e]
    congr 6
    rw [List.range'_succ, List.append_assoc, List.filterMap_cons]
    cases coverAt r j <;> rfl
end BC
set_option Elab.async false
set_option linter.all false
set_option maxRecDepth 100000
set_option maxHeartbeats 4000000
namespace BC
open PySem PySem.Spec PyProof.Rows L2 GxR
theorem St.ne {n : Nat} {r : List Int} (s : St n r) (hn : 1 ≤ n) : r ≠ [] := fun h => by
  have := s.len
  rw [h] at this
  simp at this
  omega
theorem cover_ne {r c : List Int} (h : c ∈ coverI r) : c.length = r.length := by
  obtain ⟨j, _, e⟩ := List.mem_filterMap.mp h
  unfold coverAt at e
  split at e
  · cases e; rw [List.length_set]
  · cases e
theorem range_one {A : D} {n : Nat} {s1 s2 : Slot} (hl : gLen [A] = some (.int (n : Nat))) (hn : 1 ≤ n ∧ n ≤ 8) : iR2 (yCons (xC (PyData.int 1)) (yCons (xCall gLen (yCons (xV 0) yNil)) yNil)) [.val A, s1, s2] = some (rangeD 1 (n - 1), [.val A, s1, s2]) := by
  have := iR2_upTo (fr := yCons (xC (PyData.int 1)) (yCons (xCall gLen (yCons (xV 0) yNil)) yNil)) (m := (n : Int)) (S := [.val A, s1, s2]) (by omega) (by simp [hl])
  rw [show ((n : Int) - 1).toNat = n - 1 by omega] at this
  exact this
/-! ### whose sign is lost -/
theorem inN_val {neg : Bool} {i : Nat} {fb : DX} {S : SS} {d e z : D} (h : S[i]? = some (.val d)) (hb : fb S = some (e, S)) (hz : gInA neg e d = some z) : xInN neg i fb S = some (z, S) := by
  unfold xInN
  rw [hb, Option.bind_some, h]
  dsimp only
  rw [hz]
  rfl
theorem range_all {A : D} {n : Nat} {s1 : Slot} (hl : gLen [A] = some (.int (n : Nat))) (hn : n ≤ 8) : iR2 (yCons (xC (PyData.int 1)) (yCons (x2 gAddA (xCall gLen (yCons (xV 0) yNil)) (xC (PyData.int 1))) yNil)) [.val A, s1] = some ((firstI n).map PyData.int, [.val A, s1]) :=
  iR2_first (by omega) (by simp [hl])
/-! ### steady ones below and above -/
end BC
set_option Elab.async false
set_option linter.all false
set_option maxRecDepth 100000
set_option maxHeartbeats 4000000
namespace BC
open PySem PySem.Spec PyProof.Rows L2 GxR
def stAboveI (n : Nat) (r : List Int) : List (List Int) := (stairsOf n).filter fun z => belB r z && decide (folI z z = z)
def leastU (L : List (List Int)) : List (List Int) := L.filter fun z => !L.any fun y => !decide (y = z) && belB y z
/-! ### how many stairs there are -/
end BC
set_option Elab.async false
set_option linter.all false
set_option maxRecDepth 100000
set_option maxHeartbeats 4000000
namespace BC
open PySem PySem.Spec PyProof.Rows L2 GxR
/-! ### each stair once -/
theorem upTo_nodup : ∀ (k : Nat) (lo : Int), (upTo lo k).Nodup
  | 0, _ => List.nodup_nil
  | k + 1, lo => List.nodup_cons.mpr ⟨fun h => by have := upTo_mem k (lo + 1) h; omega, upTo_nodup k (lo + 1)⟩
theorem stairs_once : ∀ n : Nat, (stairsOf n).Nodup
  | 0 => by decide
  | 1 => by decide
  | n + 2 => by
    rw [stairsOf_more (by omega)]
    unfold List.Nodup
    rw [List.pairwise_flatMap]
    refine ⟨fun r _ => ?_, ?_⟩
    · unfold moreI
      rw [List.pairwise_map]
      exact (upTo_nodup _ _).imp fun {a b} h z => h (by
        have := List.append_inj_right z rfl
        simpa using this)
    · refine (stairs_once (n + 1)).imp_of_mem fun {a b} ha hb h x hx y hy z => h ?_
      obtain ⟨e, _, rfl⟩ := List.mem_map.mp hx
      obtain ⟨f, _, rfl⟩ := List.mem_map.mp hy
      exact (List.append_inj z (by rw [stairsOf_len ha, stairsOf_len hb])).1
theorem mem_stairs {n : Nat} {r : List Int} : r ∈ stairsOf n ↔ St n r := ⟨stairsOf_St, fun s => s.mem_stairs⟩
/-! ### a list with just these members -/
theorem len_of_mem {α : Type} [DecidableEq α] {l m : List α} (hl : l.Nodup) (hm : m.Nodup) (h : ∀ x, x ∈ l ↔ x ∈ m) : l.length = m.length := Nat.le_antisymm (nodup_len l m hl fun x hx => (h x).mp hx) (nodup_len m l hm fun x hx => (h x).mpr hx)
theorem only_one {α : Type} [DecidableEq α] {l : List α} {a : α} (hl : l.Nodup) (h : ∀ x, x ∈ l ↔ x = a) : l = [a] := by
  have e := len_of_mem hl (m := [a]) (by simp) fun x => by rw [h, List.mem_singleton]
  match l, e with
  | [b], _ => rw [(h b).mp (List.mem_singleton.mpr rfl)]
theorem filter_nodup {α : Type} {l : List α} {p : α → Bool} (h : l.Nodup) : (l.filter p).Nodup := List.Pairwise.filter p h
/-! ### how many lie between -/
section
variable {n : Nat} {a b r : List Int}
theorem bel_anti (h : Bel a b) (g : Bel b a) : a = b := ext_getD h.len fun j _ => by have := h.le j; have := g.le j; omega
theorem belB_len (sa : St n a) (sb : St n b) : belB a b = true ↔ Bel a b := belB_iff (sa.len.trans sb.len.symm)
theorem mem_between (sa : St n a) (sb : St n b) : r ∈ betweenI n a b ↔ St n r ∧ Bel b r ∧ Bel r a := by
  unfold betweenI
  rw [List.mem_filter, mem_stairs, Bool.and_eq_true]
  constructor
  · rintro ⟨s, h1, h2⟩
    exact ⟨s, (belB_len sb s).mp h1, (belB_len s sa).mp h2⟩
  · rintro ⟨s, h1, h2⟩
    exact ⟨s, (belB_len sb s).mpr h1, (belB_len s sa).mpr h2⟩
theorem between_nodup : (betweenI n a b).Nodup := filter_nodup (stairs_once n)
theorem between_pos (sa : St n a) (sb : St n b) : decide ((0 : Int) < ((betweenI n a b).length : Nat)) = belB b a := by
  rw [Bool.eq_iff_iff, decide_eq_true_eq, belB_len sb sa]
  constructor
  · intro h
    obtain ⟨r, hr⟩ := List.exists_mem_of_length_pos (l := betweenI n a b) (by omega)
    obtain ⟨_, h1, h2⟩ := (mem_between sa sb).mp hr
    exact h1.trans h2
  · intro h
    have := List.length_pos_of_mem ((mem_between sa sb).mpr ⟨sa, h, Bel.refl a⟩)
    omega
theorem between_self (sa : St n a) : (betweenI n a a).length = 1 := by
  rw [only_one (l := betweenI n a a) (a := a) between_nodup fun x => ?_]
  · rfl
  · rw [mem_between sa sa]
    exact ⟨fun h => bel_anti h.2.2 h.2.1, fun h => by subst h; exact ⟨sa, Bel.refl _, Bel.refl _⟩⟩
theorem between_two (sa : St n a) (sb : St n b) (h : Bel b a) (ne : b ≠ a) : 2 ≤ (betweenI n a b).length :=
  nodup_len [a, b] (betweenI n a b) (by simp; exact fun z => ne z.symm) fun x hx => by
    rw [mem_between sa sb]
    rcases List.mem_cons.mp hx with e | e
    · subst e; exact ⟨sa, h, Bel.refl _⟩
    · have e := List.mem_singleton.mp e
      subst e; exact ⟨sb, Bel.refl _, h⟩
theorem between_just (sa : St n a) (sb : St n b) (h : Bel b a) (ne : b ≠ a) (j : ∀ r, St n r → Bel b r → Bel r a → r = a ∨ r = b) : (betweenI n a b).length = 2 := by
  refine len_of_mem (m := [a, b]) between_nodup (by simp; exact fun z => ne z.symm) fun x => ?_
  rw [mem_between sa sb]
  constructor
  · rintro ⟨s, h1, h2⟩
    rcases j x s h1 h2 with e | e <;> simp [e]
  · intro hx
    rcases List.mem_cons.mp hx with e | e
    · subst e; exact ⟨sa, h, Bel.refl _⟩
    · have e := List.mem_singleton.mp e
      subst e; exact ⟨sb, Bel.refl _, h⟩
theorem ones_St {n : Nat} : St n (List.replicate n 1) := ⟨by simp, fun j hj => by simp [List.getD_eq_getElem?_getD, List.getElem?_replicate, hj], fun j hj => by simp [List.getD_eq_getElem?_getD, List.getElem?_replicate, hj]; omega, fun j hj => by simp [List.getD_eq_getElem?_getD, List.getElem?_replicate, hj, show j < n by omega]⟩
theorem between_all : (betweenI n (firstI n) (List.replicate n 1)).length = (stairsOf n).length := by
  refine len_of_mem between_nodup (stairs_once n) fun r => ?_
  rw [mem_between St.first ones_St, mem_stairs]
  refine ⟨fun h => h.1, fun s => ⟨s, Bel.of (by simp [s.len]) fun j hj => ?_, Bel.of (by rw [s.len, firstI_len]) fun j hj => ?_⟩⟩
  · simp only [List.length_replicate] at hj
    rw [show (List.replicate n (1 : Int)).getD j 0 = 1 by simp [List.getD_eq_getElem?_getD, List.getElem?_replicate, hj]]
    exact s.lo j hj
  · rw [s.len] at hj
    rw [firstI_get hj]
    exact s.hi j hj
/-! ### just below -/
theorem cover_at {c : List Int} (h : c ∈ coverI a) : ∃ j, 1 ≤ j ∧ j < a.length ∧ a.getD (j - 1) 0 < a.getD j 0 ∧ c = a.set j (a.getD j 0 - 1) := by
  obtain ⟨j, hj, e⟩ := List.mem_filterMap.mp h
  have hj := List.mem_range'_1.mp hj
  unfold coverAt at e
  split at e
  · cases e; exact ⟨j, by omega, by omega, by assumption, rfl⟩
  · cases e
theorem cover_St (sa : St n a) {c : List Int} (h : c ∈ coverI a) : St n c := by
  obtain ⟨j, h1, h2, h3, rfl⟩ := cover_at h
  have hl := sa.len
  refine ⟨by rw [List.length_set, hl], fun i hi => ?_, fun i hi => ?_, fun i hi => ?_⟩
  · rw [getD_set]
    have a1 := sa.lo i hi
    have a2 := sa.lo (j - 1) (by omega)
    split <;> omega
  · rw [getD_set]
    have := sa.hi i hi
    split
    · rename_i z; obtain ⟨rfl, _⟩ := z; omega
    · exact this
  · rw [getD_set, getD_set]
    have := sa.mono i hi
    split
    · rename_i z
      obtain ⟨rfl, _⟩ := z
      split <;> omega
    · split
      · rename_i z
        obtain ⟨z, _⟩ := z
        subst z
        rw [show i + 1 - 1 = i by omega] at h3
        omega
      · exact this
theorem between_cover (sa : St n a) {c : List Int} (h : c ∈ coverI a) : (betweenI n a c).length = 2 := by
  have sc := cover_St sa h
  obtain ⟨j, h1, h2, h3, rfl⟩ := cover_at h
  have hl := sa.len
  have b : Bel (a.set j (a.getD j 0 - 1)) a := Bel.of (by simp) fun i hi => by
    rw [getD_set]
    split
    · rename_i z; obtain ⟨rfl, _⟩ := z; omega
    · exact Int.le_refl _
  refine between_just sa sc b (fun z => ?_) fun r sr g1 g2 => ?_
  · have := congrArg (fun l => l.getD j 0) z
    simp only [getD_set_self h2] at this
    omega
  · by_cases e : r.getD j 0 = a.getD j 0
    · refine .inl (ext_getD (sr.len.trans hl.symm) fun i hi => ?_)
      by_cases c : i = j
      · subst c; exact e
      · have u := g1.le i
        have v := g2.le i
        rw [getD_set_ne (fun z => c z.symm)] at u
        omega
    · refine .inr (ext_getD (by rw [sr.len, List.length_set, hl]) fun i hi => ?_)
      have u := g1.le i
      have v := g2.le i
      by_cases c : i = j
      · subst c
        rw [getD_set_self h2] at u ⊢
        omega
      · rw [getD_set_ne (fun z => c z.symm)] at u ⊢
        omega
end
end BC
set_option Elab.async false
set_option linter.all false
set_option maxRecDepth 100000
set_option maxHeartbeats 4000000
namespace BC
open PySem PySem.Spec PyProof.Rows L2 GxR
/-! ### rows of rows -/
theorem lay_rows : ∀ l : List (List Int), PyData.canLayAll0 (l.map tJ) = true
  | [] => rfl
  | x :: l => by
    show (PyData.canLayAll0 (x.map PyData.int) && PyData.canLayAll0 (l.map tJ)) = true
    rw [lay_ints, lay_rows l]; rfl
theorem depth_rows : ∀ l : List (List Int), PyData.depthAll (l.map tJ) ≤ 2
  | [] => by simp [PyData.depthAll]
  | x :: l => by
    have h1 := depth_rows l
    have h2 := depth_ints x
    simp only [List.map_cons, PyData.depthAll, tJ, tI, PyData.depth]
    omega
theorem shaped_rows (l : List (List Int)) : SeqAt.shaped (.tuple (l.map tJ)) = true ∧ SeqAt.shaped (.list (l.map tJ)) = true := by
  have h1 := lay_rows l
  have h2 := depth_rows l
  constructor
  · simp [SeqAt.shaped, PyData.canLay0, h1, PyData.depth]
    omega
  · simp [SeqAt.shaped, PyData.canLay0, h1, PyData.depth]
    omega
theorem eqvAll_rows : ∀ a b : List (List Int), PyData.eqvAll (a.map tJ) (b.map tJ) = decide (a = b)
  | [], [] => by simp [PyData.eqvAll]
  | [], _ :: _ => by simp [PyData.eqvAll]
  | _ :: _, [] => by simp [PyData.eqvAll]
  | x :: a, y :: b => by
    have e := eqv_tI x y
    show (PyData.eqv (tI x) (tI y) && PyData.eqvAll (a.map tJ) (b.map tJ)) = _
    rw [e, eqvAll_rows a b]
    simp only [List.cons.injEq, Bool.decide_and]
theorem gEq_rowsT (a b : List (List Int)) : gEq (.tuple (a.map tJ)) (.tuple (b.map tJ)) = some (.bool (decide (a = b))) := by
  unfold gEq
  rw [if_pos ⟨(shaped_rows a).1, (shaped_rows b).1⟩]
  simp only [PyData.eqv, eqvAll_rows]
theorem gNe_rowsT (a b : List (List Int)) : gNe (.tuple (a.map tJ)) (.tuple (b.map tJ)) = some (.bool (!decide (a = b))) := by
  unfold gNe
  rw [if_pos ⟨(shaped_rows a).1, (shaped_rows b).1⟩]
  simp only [PyData.eqv, eqvAll_rows]
theorem gEq_rowsL (a b : List (List Int)) : gEq (.list (a.map tJ)) (.list (b.map tJ)) = some (.bool (decide (a = b))) := by
  unfold gEq
  rw [if_pos ⟨(shaped_rows a).2, (shaped_rows b).2⟩]
  simp only [PyData.eqv, eqvAll_rows]
theorem gNe_rowsL (a b : List (List Int)) : gNe (.list (a.map tJ)) (.list (b.map tJ)) = some (.bool (!decide (a = b))) := by
  unfold gNe
  rw [if_pos ⟨(shaped_rows a).2, (shaped_rows b).2⟩]
  simp only [PyData.eqv, eqvAll_rows]
/-! ### steady ones -/
section
variable {n : Nat} {s r : List Int}
theorem pw_bel (h : St n s) {k : Nat} (e : pwI s (k + 1) = pwI s k) : Bel (pwI s k) s := by
  match k, e with
  | 0, e => rw [pw_one h] at e; rw [← e]; exact Bel.refl s
  | k + 1, _ => exact fol_right (h.pw k) h
theorem pw_steady (h : St n s) {k : Nat} (e : pwI s (k + 1) = pwI s k) : folI (pwI s k) (pwI s k) = pwI s k := by
  rw [pw_add h]
  exact pw_stays h e k
theorem steady_iff (h : St n s) {k : Nat} (e : pwI s (k + 1) = pwI s k) (ne : ∀ i, i < k → pwI s (i + 1) ≠ pwI s i) : folI s s = s ↔ pwI s k = s := by
  constructor
  · intro z
    have e2 : pwI s (1 + 1) = pwI s 1 := by
      show folI (pwI s 1) s = pwI s 1
      rw [pw_one h, z]
    have hk : k ≤ 1 := Nat.le_of_not_lt fun c => ne 1 c e2
    match k, hk, e with
    | 0, _, e => rw [pw_one h] at e; exact e.symm
    | 1, _, _ => exact pw_one h
  · intro z
    have := pw_steady h e
    rw [z] at this
    exact this
theorem mem_above (hs : St n s) : r ∈ stAboveI n s ↔ St n r ∧ Bel s r ∧ folI r r = r := by
  unfold stAboveI
  rw [List.mem_filter, mem_stairs, Bool.and_eq_true, decide_eq_true_eq]
  constructor
  · rintro ⟨a, b, c⟩
    exact ⟨a, (belB_len hs a).mp b, c⟩
  · rintro ⟨a, b, c⟩
    exact ⟨a, (belB_len hs a).mpr b, c⟩
theorem steady_above_iff (hs : St n s) : folI s s = s ↔ leastU (stAboveI n s) = [s] := by
  constructor
  · intro z
    have hm : s ∈ stAboveI n s := (mem_above hs).mpr ⟨hs, Bel.refl s, z⟩
    refine only_one (filter_nodup (filter_nodup (stairs_once n))) fun x => ?_
    unfold leastU
    rw [List.mem_filter, Bool.not_eq_true', ← Bool.not_eq_true, List.any_eq_true]
    constructor
    · rintro ⟨hx, hn⟩
      obtain ⟨sx, bx, _⟩ := (mem_above hs).mp hx
      refine Classical.byContradiction fun c => hn ⟨s, hm, ?_⟩
      rw [Bool.and_eq_true, belB_len hs sx, Bool.not_eq_true', decide_eq_false_iff_not]
      exact ⟨fun e => c e.symm, bx⟩
    · intro e
      subst e
      refine ⟨hm, fun ⟨y, hy, h⟩ => ?_⟩
      obtain ⟨sy, b, _⟩ := (mem_above hs).mp hy
      rw [Bool.and_eq_true, belB_len sy hs, Bool.not_eq_true', decide_eq_false_iff_not] at h
      exact h.1 (bel_anti h.2 b)
  · intro e
    have : s ∈ leastU (stAboveI n s) := by rw [e]; exact List.mem_singleton.mpr rfl
    exact ((mem_above hs).mp (List.mem_filter.mp this).1).2.2
/-! ### bells that rang -/
theorem rung_other (k : Int) (hk : 1 ≤ k) : ∀ (bs r : List Int), (∀ b ∈ bs, 2 ≤ b) → k ∉ bs → atI (rungI r bs) k = atI r k
  | [], _, _, _ => rfl
  | b :: bs, r, h, hn => by
    rw [rungI_cons, rung_other k hk bs _ (fun c hc => h c (List.mem_cons_of_mem _ hc)) fun z => hn (List.mem_cons_of_mem _ z)]
    unfold atI
    rw [behindI_get, if_neg fun z => hn (List.mem_cons.mpr (.inl (by have := h b List.mem_cons_self; omega)))]
theorem rung_low {k : Int} (hk : 1 ≤ k ∧ k ≤ n) : ∀ (bs : List Int) {r : List Int}, St n r → (∀ b ∈ bs, 2 ≤ b ∧ b ≤ (n : Int)) → (k ∈ bs ∨ atI r k < k) → atI (rungI r bs) k < k
  | [], r, _, _, h => by
    rcases h with h | h
    · cases h
    · exact h
  | b :: bs, r, sr, hb, h => by
    have hb0 := hb b List.mem_cons_self
    rw [rungI_cons]
    refine rung_low hk bs (sr.behind hb0) (fun c hc => hb c (List.mem_cons_of_mem _ hc)) ?_
    by_cases c : b = k
    · subst c
      refine .inr ?_
      unfold atI
      rw [behindI_get, if_pos ⟨rfl, by rw [sr.len]; omega⟩]
      have := sr.hi (b - 2).toNat (by omega)
      omega
    · rcases h with h | h
      · rcases List.mem_cons.mp h with e | e
        · exact absurd e.symm c
        · exact .inl e
      · refine .inr ?_
        unfold atI at h ⊢
        rw [behindI_get, if_neg fun z => c (by omega)]
        exact h
theorem atI_first {k : Int} (hk : 1 ≤ k ∧ k ≤ n) : atI (firstI n) k = k := by
  unfold atI
  rw [firstI_get (by omega)]
  omega
theorem rang_iff {k : Int} {bs : List Int} (hk : 1 ≤ k ∧ k ≤ n) (hb : ∀ b ∈ bs, 2 ≤ b ∧ b ≤ (n : Int)) : atI (rungI (firstI n) bs) k < k ↔ k ∈ bs := by
  constructor
  · intro h
    refine Classical.byContradiction fun c => ?_
    rw [rung_other k hk.1 bs _ (fun b h => (hb b h).1) c, atI_first hk] at h
    omega
  · intro h
    exact rung_low hk bs St.first hb (.inl h)
theorem first_up (n : Nat) : (firstI n).Pairwise (· < ·) := by
  unfold firstI
  rw [List.pairwise_map]
  exact List.pairwise_lt_range.imp fun h => by omega
theorem mem_first {k : Int} : k ∈ firstI n ↔ 1 ≤ k ∧ k ≤ n := ⟨firstI_mem, mem_firstI⟩
theorem mem_single (hs : St n s) {k : Int} : k ∈ singleI s ↔ (1 ≤ k ∧ k ≤ n) ∧ atI s k < k := by
  unfold singleI
  rw [List.mem_filter, mem_first, hs.len, decide_eq_true_eq]
theorem single_word (hs : St n s) (h8 : n ≤ 8) : singleI s = sortU (sb s) := by
  refine up_unique ((first_up _).filter _) (sortU_up _) fun k => ?_
  rw [sortU_mem, mem_single hs]
  have hb := sb_in hs h8
  constructor
  · rintro ⟨h1, h2⟩
    refine (rang_iff h1 hb).mp ?_
    rw [sb_ring hs h8]; exact h2
  · intro h
    have h1 : 1 ≤ k ∧ k ≤ (n : Int) := by have := hb k h; omega
    refine ⟨h1, ?_⟩
    have := (rang_iff h1 hb).mpr h
    rw [sb_ring hs h8] at this
    exact this
def fromTwo (n : Nat) : List Int := (List.range (n - 1)).map fun k => (2 : Int) + (k : Nat)
theorem mem_fromTwo {k : Int} : k ∈ fromTwo n ↔ 2 ≤ k ∧ k ≤ n := by
  unfold fromTwo
  rw [List.mem_map]
  constructor
  · rintro ⟨i, hi, rfl⟩
    have := List.mem_range.mp hi
    omega
  · intro h
    exact ⟨(k - 2).toNat, List.mem_range.mpr (by omega), by omega⟩
theorem fromTwo_up (n : Nat) : (fromTwo n).Pairwise (· < ·) := by
  unfold fromTwo
  rw [List.pairwise_map]
  exact List.pairwise_lt_range.imp fun h => by omega
theorem mem_own (hs : St n s) {k : Int} : k ∈ ownI s ↔ (1 ≤ k ∧ k ≤ n) ∧ atI s k = k := by
  unfold ownI
  rw [List.mem_filter, mem_first, hs.len, decide_eq_true_eq]
theorem single_own (hs : St n s) (hn : 1 ≤ n) : singleI s = (fromTwo n).filter fun k => !decide (k ∈ ownI s) := by
  refine up_unique ((first_up _).filter _) ((fromTwo_up n).filter _) fun k => ?_
  rw [mem_single hs, List.mem_filter, mem_fromTwo, Bool.not_eq_true', decide_eq_false_iff_not, mem_own hs]
  constructor
  · rintro ⟨h1, h2⟩
    have h3 := atI_le hs h1
    refine ⟨by omega, fun z => by omega⟩
  · rintro ⟨h1, h2⟩
    have h3 := atI_le hs (k := k) (by omega)
    refine ⟨by omega, ?_⟩
    by_cases c : atI s k = k
    · exact absurd ⟨by omega, c⟩ h2
    · omega
theorem mem_lost (hs : St n s) {k : Int} : k ∈ lostI s ↔ (1 ≤ k ∧ k ≤ n) ∧ k ∉ s := by
  unfold lostI
  rw [List.mem_filter, mem_first, hs.len, Bool.not_eq_true', decide_eq_false_iff_not]
theorem lost_len (hs : St n s) : (lostI s).length + (ddI s).length = n := by
  have h1 : (lostI s ++ ddI s).length = (firstI n).length := by
    refine len_of_mem (List.nodup_append.mpr ⟨filter_nodup ((first_up _).imp fun h => by omega), ddI_nodup s, fun x hx y hy z => ?_⟩) ((first_up _).imp fun h => by omega) fun x => ?_
    · subst z
      exact ((mem_lost hs).mp hx).2 ((ddI_mem x s).mp hy)
    · rw [List.mem_append, mem_lost hs, ddI_mem, mem_first]
      constructor
      · rintro (h | h)
        · exact h.1
        · exact hs.mem h
      · intro h
        by_cases c : x ∈ s
        · exact .inr c
        · exact .inl ⟨h, c⟩
  rw [List.length_append, firstI_len] at h1
  exact h1
theorem lost_own (hs : St n s) : (lostI s).filter (fun k => decide (k ∈ ownI s)) = [] := by
  rw [List.filter_eq_nil_iff]
  intro k hk h
  rw [decide_eq_true_eq, mem_own hs] at h
  refine ((mem_lost hs).mp hk).2 ?_
  have hm : atI s k ∈ s := getD_mem (by rw [hs.len]; omega)
  rw [h.2] at hm
  exact hm
theorem one_own (hs : St n s) (hn : 1 ≤ n) : (1 : Int) ∈ ownI s := by
  rw [mem_own hs]
  refine ⟨by omega, ?_⟩
  have := atI_le hs (k := 1) (by omega)
  omega
end
end BC
set_option Elab.async false
set_option linter.all false
set_option maxRecDepth 100000
set_option maxHeartbeats 4000000
namespace BC
open PySem PySem.Spec PyProof.Rows L2 GxR
/-! ### in a list of rows, == of rows -/
theorem any_eqv_rows (x : List Int) : ∀ l : List (List Int), ((l.map tJ).any fun z => PyData.eqv z (tJ x)) = decide (x ∈ l)
  | [] => by simp
  | y :: l => by
    rw [List.map_cons, List.any_cons, any_eqv_rows x l]
    have : PyData.eqv (tJ y) (tJ x) = decide (y = x) := eqv_tI y x
    rw [this]
    by_cases h : y = x
    · simp [h]
    · have h2 : ¬ x = y := fun z => h z.symm
      simp [h, h2]
theorem gInA_rowsL (neg : Bool) (x : List Int) (l : List (List Int)) : gInA neg (tJ x) (.list (l.map tJ)) = some (.bool (decide (x ∈ l) != neg)) := by
  show memD neg (tJ x) (l.map tJ) (.list (l.map tJ)) = _
  unfold memD
  rw [if_pos ⟨shaped_tI x, (shaped_rows l).2⟩, any_eqv_rows]
theorem gInA_rowsT (neg : Bool) (x : List Int) (l : List (List Int)) : gInA neg (tJ x) (.tuple (l.map tJ)) = some (.bool (decide (x ∈ l) != neg)) := by
  show memD neg (tJ x) (l.map tJ) (.tuple (l.map tJ)) = _
  unfold memD
  rw [if_pos ⟨shaped_tI x, (shaped_rows l).1⟩, any_eqv_rows]
theorem gEq_rnil (l : List (List Int)) : gEq (.list (l.map tJ)) (.list []) = some (.bool l.isEmpty) := by
  have e := gEq_rowsL l []
  rw [List.map_nil] at e
  rw [e]
  cases l <;> simp
theorem gNe_rnil (l : List (List Int)) : gNe (.list (l.map tJ)) (.list []) = some (.bool !l.isEmpty) := by
  have e := gNe_rowsL l []
  rw [List.map_nil] at e
  rw [e]
  cases l <;> simp
/-! ### rows alike -/
/-! ### comprehensions: a range of places -/
theorem places_gen {i : Nat} {fs : DA} {tt : DT} {te : DX} {n : Nat} {p : Nat → Bool} {g : Nat → D} {S : SS} (hf : fs S = some (((List.range n).map fun k => (0 : Int) + (k : Nat)).map PyData.int, S)) (hi : i < S.length) (hS : S.set i (valOf S[i]?) = S) (hn : n ≤ 100)
    (h : ∀ j, j < n → tt (S.set i (.val (.int (j : Nat)))) = some (p j, S.set i (.val (.int (j : Nat)))) ∧ (p j = true → te (S.set i (.val (.int (j : Nat)))) = some (g j, S.set i (.val (.int (j : Nat)))))) :
    yLc fs (setV i) tt te [i] S = some (((List.range n).filter p).map g, S) := by
  refine yLc_enc (i := i) (enc := fun j : Nat => PyData.int (j : Nat)) (l := List.range n) (p := p) (g := g) ?_ hi hS (by simp; omega) fun j hj => h j (List.mem_range.mp hj)
  rw [hf, List.map_map]
  congr 2
  refine List.map_congr_left fun k _ => ?_
  show PyData.int (0 + (k : Int)) = PyData.int (k : Int)
  rw [Int.zero_add]
theorem range_getD {f : Nat → Int} {k j : Nat} (h : j < k) : ((List.range k).map f).getD j 0 = f j := by
  rw [List.getD_eq_getElem?_getD, List.getElem?_map, List.getElem?_range h]; rfl
theorem gIx_row {r : List Int} {j : Nat} (h : j < r.length) : gIx (tJ r) (.int (j : Nat)) = some (.int (r.getD j 0)) := by
  have e := gIxJ (r := r) (i := (j : Int)) (by omega)
  rw [Int.toNat_natCast] at e
  exact e
theorem len_at {A : D} {S : SS} {i n : Nat} (h : S[i]? = some (.val A)) (hl : gLen [A] = some (.int (n : Nat))) : xCall gLen (yCons (xV i) yNil) S = some (.int (n : Nat), S) := by
  rw [xCall_eq, yCons_eq, xV_eq, h]
  show Option.map _ (gLen [A]) = _
  rw [hl]
  rfl
/-! ### [k for k in range(len(one)) if one[k] > other[k]] == [] -/
theorem under_test {A B : D} {p x y : Int} {k : D} (h1 : gIx A k = some (.int x)) (h2 : gIx B k = some (.int y)) : xT (x2 gGt (x2 gIx (xV 0) (xV 2)) (x2 gIx (xV 1) (xV 2))) [.val A, .val B, .val k] = some (decide (y < x), [.val A, .val B, .val k]) := by
  simp [h1, h2]
end BC
set_option Elab.async false
set_option linter.all false
set_option maxRecDepth 100000
set_option maxHeartbeats 4000000
namespace BC
open PySem PySem.Spec PyProof.Rows L2 GxR
theorem under2 {Xa Y Za : D} {p q : Bool} {S : SS} {i j k : Nat} {f g : DX} (e1 : f S = some (.bool p, S)) (e2 : g S = some (.bool q, S)) : yAnd (xT f) (xT g) S = some (p && q, S) := by
  rw [yAnd_eq, xT_eq, e1]
  cases p
  · rfl
  · show xT g S = _
    rw [xT_eq, e2]
    rfl
theorem rows_comp {S : SS} {q : Nat} {fs : DA} {tt : DT} {l : List (List Int)} {p : List Int → Bool} (hf : fs S = some (l.map tJ, S)) (hq : S[q]? = some .no) (hl : l.length ≤ 100000) (h : ∀ r ∈ l, tt (S.set q (.val (tJ r))) = some (p r, S.set q (.val (tJ r)))) :
    yLc fs (setV q) tt (xV q) [q] S = some ((l.filter p).map tJ, S) := by
  have hql := (List.getElem?_eq_some_iff.mp hq).1
  exact yLc_enc (i := q) hf hql (set_same hq) hl fun r hr => ⟨h r hr, fun _ => by rw [xV_eq, List.getElem?_set_self hql]⟩
theorem iAny_tup {S : SS} {i : Nat} {ds : List D} (h : S[i]? = some (.val (.tuple ds))) : iAny (xV i) S = some (ds, S) := by
  rw [iAny_eq, xV_eq, h]; rfl
theorem iLst_val {S : SS} {i : Nat} {ds : List D} (h : S[i]? = some (.val (.list ds))) : iLst (xV i) S = some (ds, S) := by
  rw [iLst_eq, xV_eq, h]; rfl
theorem set_get {S : SS} {q : Nat} {x : Slot} (hq : S[q]? = some .no) : (S.set q x)[q]? = some x := List.getElem?_set_self (List.getElem?_eq_some_iff.mp hq).1
theorem set_other {S : SS} {q i : Nat} {x : Slot} (h : q ≠ i) : (S.set q x)[i]? = S[i]? := List.getElem?_set_ne h
theorem tup_at {S : SS} {y : DA} {es : List D} (h : y S = some (es, S)) : xCall gTupOf (yCons (xL y) yNil) S = some (.tuple es, S) := by
  rw [xCall_eq, yCons_eq, xL_eq, h]
  rfl
theorem eq_at {S : SS} {f g : DX} {x y : D} {q : Bool} (hf : f S = some (x, S)) (hg : g S = some (y, S)) (e : gEq x y = some (.bool q)) : xT (x2 gEq f g) S = some (q, S) := by
  rw [xT_eq, x2_eq, hf, Option.bind_some, hg, Option.bind_some]
  dsimp only
  rw [e]
  rfl
theorem steady_in {S : SS} {i q : Nat} {a : List Int} (hi : S[i]? = some (.val (tJ a))) (hq : S[q]? = some .no) (hiq : q ≠ i) (hl : a.length ≤ 1000) (h : ∀ x ∈ a, 1 ≤ x ∧ x ≤ a.length) :
    xT (x2 gEq (xCall gTupOf (yCons (xL (yLc (iAny (xV i)) (setV q) yesT (x2 gIx (xV i) (x2 gSub (xV q) (xC (PyData.int 1)))) [q])) yNil)) (xV i)) S = some (decide (folI a a = a), S) := by
  have e := tup_folG hi hi hiq hq hl h
  have z : iAny (xV i) S = iSeq (xV i) S := by rw [iAny_tup hi, iSeq_eq, xV_eq, hi]; rfl
  have z2 : yLc (iAny (xV i)) (setV q) yesT (x2 gIx (xV i) (x2 gSub (xV q) (xC (PyData.int 1)))) [q] S = yLc (iSeq (xV i)) (setV q) yesT (x2 gIx (xV i) (x2 gSub (xV q) (xC (PyData.int 1)))) [q] S := by rw [yLc_eq, yLc_eq, z]
  refine eq_at (x := tJ (folI a a)) ?_ (by rw [xV_eq, hi]) (gEq_tJ _ _)
  rw [xCall_eq, yCons_eq, xL_eq] at e ⊢
  rw [z2]
  exact e
theorem ne_at {S : SS} {f g : DX} {x y : D} {q : Bool} (hf : f S = some (x, S)) (hg : g S = some (y, S)) (e : gNe x y = some (.bool q)) : x2 gNe f g S = some (.bool q, S) := by
  rw [x2_eq, hf, Option.bind_some, hg, Option.bind_some]
  dsimp only
  rw [e]
  rfl
theorem ix_at {S : SS} {i q : Nat} {x y z : D} (h1 : S[i]? = some (.val x)) (h2 : S[q]? = some (.val y)) (e : gIx x y = some z) : x2 gIx (xV i) (xV q) S = some (z, S) := by
  simp [h1, h2, e]
def lowFs (h : List (List Int)) (z : List Int) : List (List Int) := h.filter fun y => !decide (y = z) && belB y z
section
variable {n : Nat} {a b t : List Int}
theorem pw_up (sa : St n a) (st : St n t) (h : Bel t a) : ∀ k, Bel (pwI t k) (pwI a k)
  | 0 => by rw [pwI, pwI, sa.len, st.len]; exact Bel.refl _
  | k + 1 => by
    show Bel (folI (pwI t k) t) (folI (pwI a k) a)
    exact (fol_mono2 (st.pw k) st sa h).trans (fol_mono1 sa (pw_up sa st h k))
theorem pw_own (st : St n t) (h : folI t t = t) : ∀ k, pwI t (k + 1) = t
  | 0 => pw_one st
  | k + 1 => by
    show folI (pwI t (k + 1)) t = t
    rw [pw_own st h k, h]
theorem bel_first (st : St n t) : Bel t (firstI n) := Bel.of (by rw [st.len, firstI_len]) fun j hj => by
  rw [st.len] at hj
  rw [firstI_get hj]
  exact st.hi j hj
theorem steady_low (sa : St n a) (st : St n t) (h : Bel t a) (e : folI t t = t) (k : Nat) : Bel t (pwI a k) := by
  match k with
  | 0 => rw [pwI, sa.len]; exact bel_first st
  | k + 1 => have := pw_up sa st h (k + 1); rw [pw_own st e] at this; exact this
theorem still_mem {r : List Int} : r ∈ (stairsOf n).filter (fun r => decide (folI r r = r)) ↔ St n r ∧ folI r r = r := by
  rw [List.mem_filter, mem_stairs, decide_eq_true_eq]
theorem high_eq : ((stairsOf n).filter fun r => decide (folI r r = r)).filter (fun r => belB a r) = stAboveI n a := by
  rw [List.filter_filter]
  rfl
theorem least_eq (h : List (List Int)) : (h.filter fun z => (lowFs h z).isEmpty) = leastU h := by
  unfold leastU lowFs
  congr 1
  funext z
  rw [Bool.eq_iff_iff, List.isEmpty_iff, List.filter_eq_nil_iff, Bool.not_eq_true', ← Bool.not_eq_true, List.any_eq_true]
  constructor
  · rintro h1 ⟨x, hx, h2⟩; exact h1 x hx h2
  · intro h1 x hx h2; exact h1 ⟨x, hx, h2⟩
theorem first_succ : firstI n = (List.range n).map fun j : Nat => (j : Int) + 1 := by
  unfold firstI
  exact List.map_congr_left fun j _ => Int.add_comm _ _
theorem at_succ (j : Nat) : atI a ((j : Int) + 1) = a.getD j 0 := by
  unfold atI
  congr 1
  omega
theorem stays_eq (la : a.length = n) : ((List.range n).filter fun j => decide (a.getD j 0 = (j : Int) + 1)).map (fun j : Nat => (j : Int) + 1) = ownI a := by
  unfold ownI
  rw [la, first_succ, List.filter_map]
  congr 2
  funext j
  show _ = decide (atI a ((j : Int) + 1) = (j : Int) + 1)
  rw [at_succ]
theorem gone_eq (la : a.length = n) : ((List.range n).filter fun j : Nat => !decide ((j : Int) + 1 ∈ a)).map (fun j : Nat => (j : Int) + 1) = lostI a := by
  unfold lostI
  rw [la, first_succ, List.filter_map]
  rfl
theorem one_bell {x : Int} (sa : St n a) (hx : 2 ≤ x ∧ x ≤ n) : belB a (behindI (firstI n) x) = true ↔ atI a x < x := by
  rw [belB_iff (by rw [sa.len, behindI_len, firstI_len])]
  have g := firstI_get (n := n) (j := (x - 2).toNat) (by omega)
  constructor
  · intro h
    have := h.le (x - 1).toNat
    rw [behindI_get, if_pos ⟨rfl, by rw [firstI_len]; omega⟩, g] at this
    unfold atI
    omega
  · intro h
    unfold atI at h
    refine Bel.of (by rw [sa.len, behindI_len, firstI_len]) fun j hj => ?_
    rw [sa.len] at hj
    rw [behindI_get]
    split
    · rename_i z
      obtain ⟨rfl, _⟩ := z
      omega
    · rw [firstI_get hj]
      exact sa.hi j hj
theorem bells_eq (sa : St n a) (hn : 1 ≤ n) : (fromTwo n).filter (fun x => belB a (behindI (firstI n) x)) = singleI a := by
  have u2 : (singleI a).Pairwise (· < ·) := (first_up _).filter _
  refine up_unique ((fromTwo_up n).filter _) u2 fun k => ?_
  rw [List.mem_filter, mem_fromTwo, mem_single sa]
  constructor
  · rintro ⟨h1, h2⟩
    exact ⟨by omega, (one_bell sa h1).mp h2⟩
  · rintro ⟨h1, h2⟩
    have h3 := atI_le sa h1
    exact ⟨by omega, (one_bell sa (by omega)).mpr h2⟩
end
end BC
set_option Elab.async false
set_option linter.all false
set_option maxRecDepth 100000
set_option maxHeartbeats 4000000
namespace BC
open PySem PySem.Spec PyProof.Rows L2 GxR
theorem and_at {S : SS} {y z : DT} {p q : Bool} (hy : y S = some (p, S)) (hz : p = true → z S = some (q, S)) : yAnd y z S = some (p && q, S) := by
  rw [yAnd_eq, hy]
  cases p
  · rfl
  · exact hz rfl
theorem or_at {S : SS} {y z : DT} {p q : Bool} (hy : y S = some (p, S)) (hz : p = false → z S = some (q, S)) : yOr y z S = some (p || q, S) := by
  rw [yOr_eq, hy]
  cases p
  · exact hz rfl
  · rfl
theorem not_at {S : SS} {y : DT} {p : Bool} (hy : y S = some (p, S)) : yNot y S = some (!p, S) := by
  rw [yNot_eq, hy]; rfl
theorem x2_at {S : SS} {g : D → D → Option D} {f h : DX} {x y z : D} (hf : f S = some (x, S)) (hh : h S = some (y, S)) (e : g x y = some z) : x2 g f h S = some (z, S) := by
  rw [x2_eq, hf, Option.bind_some, hh, Option.bind_some]
  dsimp only
  rw [e]
  rfl
theorem xT_of {S : SS} {f : DX} {q : Bool} (h : f S = some (.bool q, S)) : xT f S = some (q, S) := by
  rw [xT_eq, h]
  rfl
theorem outs1 (a : D) (S : SS) : outsOf [.val a] S = [.no] := by cases S <;> rfl
theorem outs2 (a b : D) (S : SS) : outsOf [.val a, .val b] S = [.no, .no] := by
  match S with
  | [] => rfl
  | [_] => rfl
  | _ :: _ :: _ => rfl
theorem outs3 (a b c : D) (S : SS) : outsOf [.val a, .val b, .val c] S = [.no, .no, .no] := by
  match S with
  | [] => rfl
  | [_] => rfl
  | [_, _] => rfl
  | _ :: _ :: _ :: _ => rfl
theorem bel_of_loss : ∀ {a b : List Int} {k : Int}, Bel a b → lossI k b = lossI k a → a = b
  | [], [], _, _, _ => rfl
  | [], _ :: _, _, h, _ => by have := h.len; simp at this
  | _ :: _, [], _, h, _ => by have := h.len; simp at this
  | x :: a, y :: b, k, h, e => by
    have t : Bel a b := ⟨by simpa using h.len, fun j => h.le (j + 1)⟩
    have ih := loss_mono a b (k + 1) t
    have h0 : x ≤ y := h.le 0
    simp only [lossI] at e
    rw [bel_of_loss (k := k + 1) t (by omega), show x = y by omega]
end BC
set_option Elab.async false
set_option linter.all false
set_option maxRecDepth 100000
set_option maxHeartbeats 4000000
namespace BC
open PySem PySem.Spec PyProof.Rows L2 GxR
/-! ### any over things of any kind -/
theorem runAny_gen {α : Type} {enc : α → D} {e : Bool} {st : D → SS → Option SS} {vs : List Nat} {te : DX} {q : α → Bool} {W : SS} {V : α → SS} : ∀ (l : List α), (∀ x ∈ l, st (enc x) W = some (V x) ∧ te (V x) = some (.bool (q x), V x) ∧ wipeS (V x) vs = W) →
    runAny e st te vs (l.map enc) W = some (if l.any (fun x => q x == e) then e else !e, W)
  | [], _ => rfl
  | x :: l, h => by
    obtain ⟨h1, h2, h3⟩ := h x List.mem_cons_self
    rw [List.map_cons]
    unfold runAny
    rw [h1, Option.bind_some, h2, Option.bind_some]
    dsimp only
    rw [h3, List.any_cons]
    by_cases c : q x = e
    · rw [if_pos c, c]; simp
    · rw [if_neg c, runAny_gen l fun y hy => h y (List.mem_cons_of_mem _ hy)]
      have : (q x == e) = false := beq_eq_false_iff_ne.mpr c
      rw [this, Bool.false_or]
theorem xAny_gen {α : Type} {enc : α → D} {st : D → SS → Option SS} {vs : List Nat} {fs : DA} {te : DX} {q : α → Bool} {S W : SS} {V : α → SS} {l : List α} (hf : fs S = some (l.map enc, S)) (hW : wipeS S vs = W) (hS : restS S W vs = S)
    (h : ∀ x ∈ l, st (enc x) W = some (V x) ∧ te (V x) = some (.bool (q x), V x) ∧ wipeS (V x) vs = W) : xAnyG true fs st te vs S = some (.bool (l.any q), S) := by
  rw [xAnyG_eq, hf, Option.bind_some]
  dsimp only
  rw [hW, runAny_gen l h, Option.map_some]
  dsimp only
  rw [hS]
  congr 2
  have : (l.any fun x => q x == true) = l.any q := by congr 1; funext x; simp
  rw [this]
  cases l.any q <;> rfl
/-! ### lifts that come -/
section
variable {n t : Nat} {r : List Int}
def cameI (n : Nat) (r : List Int) : Prop := r = firstI n ∨ ∃ j, j < n ∧ prevI r j = r.getD j 0
theorem came {n : Nat} (hn : 2 ≤ n) {bs : List Int} (h : ∀ b ∈ bs, 1 ≤ b ∧ b ≤ (n : Int)) : cameI n (liftsI (firstI n) bs) := by
  rcases List.eq_nil_or_concat bs with z | ⟨bs', b, z⟩
  · subst z; exact .inl rfl
  · rw [List.concat_eq_append] at z
    subst z
    right
    have hb := h b (by simp)
    rw [liftsI_app]
    generalize hx : liftsI (firstI n) bs' = x
    have lx : x.length = n := by rw [← hx, liftsI_len, firstI_len]
    rw [show liftsI x [b] = stepI x b from rfl]
    have hb' : 1 ≤ b ∧ b ≤ (x.length : Int) := by rw [lx]; exact hb
    have g := stepI_get hb'
    refine ⟨(b - 1).toNat, by omega, ?_⟩
    rw [g, if_pos rfl, un_prev hb']
    unfold prevI
    by_cases c : b = 1
    · subst c
      rw [if_pos rfl]
      show (stepI x 1).getD ((stepI x 1).length - 1) 0 - ((stepI x 1).length : Int) = _
      rw [stepI_len, g, if_neg (by omega)]
    · rw [if_neg c]
      obtain ⟨m, hm⟩ : ∃ m : Nat, (b - 1).toNat = m + 1 := ⟨(b - 2).toNat, by omega⟩
      rw [hm]
      show (stepI x b).getD m 0 = _
      rw [g, if_neg (by omega)]
      congr 1
      omega
theorem en_any {S : SS} (h : S[0]? = some (.val (tJ r))) : iEn2A (yCons (xV 0) (yCons (xC (PyData.int 1)) yNil)) S = some (((firstI r.length).map fun k => (k, atI r k)).map pairD, S) := by
  rw [iEn2A_eq, yCons_eq, xV_eq, h]
  simp only [Option.bind_some, yCons_eq, xC_eq, yNil_eq, Option.map_some]
  show (if _ then some (enumD 1 (r.map PyData.int), S) else none) = _
  rw [if_pos (by omega), enum_num, num_first]
theorem comes_test {R : D} {x k y : Int} (e : fn_entry_before [.val R, .val (.int k)] = some (.int y, [.no, .no])) : x2 gEq (xFn fn_entry_before (yCons (xV 0) (yCons (xV 1) yNil))) (xV 2) [.val R, .val (.int k), .val (.int x)] = some (.bool (decide (y = x)), [.val R, .val (.int k), .val (.int x)]) := by
  simp [e, gEq_int]
theorem comes_first {R F : D} {N : Int} (l : gLen [R] = some (.int N)) (af : fn_at_first [.val (.int N)] = some (F, [.no])) (q : gEq R F = some (.bool true)) : fn_comes [.val R] = some (.bool true, [.no]) := by
  simp [fn_comes, sx_comes, l, af, q]
theorem comes_next {R F : D} {N : Int} (l : gLen [R] = some (.int N)) (af : fn_at_first [.val (.int N)] = some (F, [.no])) (q : gEq R F = some (.bool false)) (y : xAnyG true (iEn2A (yCons (xV 0) (yCons (xC (PyData.int 1)) yNil))) (setT [(setV 1), (setV 2)]) (x2 gEq (xFn fn_entry_before (yCons (xV 0) (yCons (xV 1) yNil))) (xV 2)) [1, 2] [.val R, .no, .no] = some (.bool true, [.val R, .no, .no])) : fn_comes [.val R] = some (.bool true, [.no]) := by
  have t : xT (x2 gEq (xV 0) (xFn fn_at_first (yCons (xCall gLen (yCons (xV 0) yNil)) yNil))) [.val R, .no, .no] = some (false, [.val R, .no, .no]) := by simp [l, af, q]
  refine fn_of (m := 2) (sx := sx_comes) (as := [.val R]) (S' := [.val R, .no, .no]) ?_
  show sx_comes [.val R, .no, .no] = _
  unfold sx_comes
  rw [sSeq_nx (sIf_fn t), sRet_eq, y]
  rfl
theorem comes_eq (hn : 2 ≤ n ∧ n ≤ 8) (lr : r.length = n) (c : cameI n r) : fn_comes [.val (tJ r)] = some (.bool true, [.no]) := by
  have af : fn_at_first [.val (.int (n : Nat))] = some (tJ (firstI n), [.no]) := by
    have := at_first_eq (n := (n : Int)) (by omega)
    rwa [Int.toNat_natCast] at this
  have l := len_tJ r
  rw [lr] at l
  have q := gEq_tJ r (firstI n)
  by_cases e : r = firstI n
  · rw [decide_eq_true e] at q
    exact comes_first l af q
  · obtain ⟨j, hj, hp⟩ := c.resolve_left e
    rw [decide_eq_false e] at q
    have y := xAny_gen (enc := pairD) (st := setT [(setV 1), (setV 2)]) (vs := [1, 2]) (te := x2 gEq (xFn fn_entry_before (yCons (xV 0) (yCons (xV 1) yNil))) (xV 2)) (q := fun z : Int × Int => decide (prevI r (z.1 - 1).toNat = z.2)) (S := [.val (tJ r), .no, .no]) (W := [.val (tJ r), .no, .no]) (V := fun z => [.val (tJ r), .val (.int z.1), .val (.int z.2)]) (l := (firstI r.length).map fun k => (k, atI r k)) (en_any rfl) rfl rfl fun z hz => by
      obtain ⟨k, hk, rfl⟩ := List.mem_map.mp hz
      have hk := firstI_mem hk
      exact ⟨rfl, comes_test (entry_before_eq (r := r) (j := (k - 1).toNat) (by omega) (by omega)), rfl⟩
    have an : (((firstI r.length).map fun k => (k, atI r k)).any fun z : Int × Int => decide (prevI r (z.1 - 1).toNat = z.2)) = true := by
      refine List.any_eq_true.mpr ⟨((j : Int) + 1, atI r ((j : Int) + 1)), List.mem_map.mpr ⟨(j : Int) + 1, mem_firstI (by omega), rfl⟩, decide_eq_true ?_⟩
      show prevI r ((j : Int) + 1 - 1).toNat = r.getD ((j : Int) + 1 - 1).toNat 0
      rw [show ((j : Int) + 1 - 1).toNat = j by omega]
      exact hp
    rw [an] at y
    exact comes_next l af q y
theorem lift_count_aux {A : D} {k : Int} (e1 : fn_check_lift [.val A] = some (.none, [.no])) (e2 : fn_comes [.val A] = some (.bool true, [.no])) (e3 : fn_bells_needed [.val A] = some (.int k, [.no])) : fn_lift_count [.val A] = some (.int k, [.no]) := by
  simp [fn_lift_count, sx_lift_count, e1, e2, e3, xIf_eq]
theorem lift_count_eq (hn : 2 ≤ n ∧ n ≤ 8) (s : Li n t r) (ht : t ≤ 150) (c : cameI n r) : fn_lift_count [.val (tJ r)] = some (.int (needI r), [.no]) :=
  lift_count_aux (check_lift_eq hn s ht) (comes_eq hn s.len c) (bells_needed_eq (by rw [s.len]; omega))
/-! ### how many bells a lift needs -/
theorem need_pos (s : Li n t r) : ∀ m, m ≤ n → 0 ≤ needTo r m
  | 0, _ => Int.le_refl _
  | m + 1, h => by
    have ih := need_pos s m (by omega)
    have hi := s.hi m (by omega)
    show 0 ≤ needTo r m + (if nextI r m = r.getD m 0 then 0 else ((m : Int) + 1 - r.getD m 0))
    split <;> omega
theorem need_left (s : Li n t r) : ∀ m, m < n → r.getD m 0 ≠ r.getD 0 0 → 1 - r.getD 0 0 ≤ needTo r m
  | 0, _, h => absurd rfl h
  | m + 1, hm, h => by
    have hi := s.hi m (by omega)
    have p := need_pos s m (by omega)
    show _ ≤ needTo r m + (if nextI r m = r.getD m 0 then 0 else ((m : Int) + 1 - r.getD m 0))
    by_cases c : r.getD m 0 = r.getD 0 0
    · have nx : nextI r m = r.getD (m + 1) 0 := by
        unfold nextI
        rw [if_neg (by rw [s.len]; omega)]
      rw [if_neg (by rw [nx, c]; exact h), c]
      omega
    · have ih := need_left s m (by omega) c
      split <;> omega
theorem need_last (hn : 2 ≤ n) (s : Li n t r) : (n : Int) - r.getD (n - 1) 0 ≤ needI r := by
  obtain ⟨m, hm⟩ : ∃ m, n = m + 1 := ⟨n - 1, by omega⟩
  subst hm
  have p := need_pos s m (by omega)
  have hi := s.hi m (by omega)
  have sp := s.span
  show _ ≤ needTo r r.length
  rw [s.len]
  show _ ≤ needTo r m + (if nextI r m = r.getD m 0 then 0 else ((m : Int) + 1 - r.getD m 0))
  rw [Nat.add_sub_cancel] at *
  have nx : nextI r m = r.getD 0 0 + ((m + 1 : Nat) : Int) := by
    unfold nextI
    rw [if_pos s.len.symm, s.len]
  by_cases c : nextI r m = r.getD m 0
  · rw [if_pos c]
    have := need_left s m (by omega) (by rw [← c, nx]; push_cast; omega)
    rw [nx] at c
    push_cast at c ⊢
    omega
  · rw [if_neg c]
    push_cast
    omega
theorem rep_get {n j : Nat} {c : Int} (h : j < n) : (List.replicate n c).getD j 0 = c := by
  rw [List.getD_eq_getElem?_getD, List.getElem?_replicate, if_pos h]
  rfl
theorem need_rep {c : Int} (hn : 2 ≤ n) : needI (List.replicate n c) = n - c := by
  have z : ∀ m, m + 1 ≤ n → needTo (List.replicate n c) m = 0 := by
    intro m
    induction m with
    | zero => exact fun _ => rfl
    | succ m ih =>
      intro h
      show needTo _ m + (if nextI _ m = (List.replicate n c).getD m 0 then 0 else _) = 0
      have nx : nextI (List.replicate n c) m = (List.replicate n c).getD m 0 := by
        unfold nextI
        rw [if_neg (by rw [List.length_replicate]; omega), rep_get (by omega), rep_get (by omega)]
      rw [if_pos nx, ih (by omega)]
      rfl
  obtain ⟨m, hm⟩ : ∃ m, n = m + 1 := ⟨n - 1, by omega⟩
  subst hm
  show needTo _ (List.replicate (m + 1) c).length = _
  rw [List.length_replicate]
  show needTo _ m + (if nextI _ m = (List.replicate (m + 1) c).getD m 0 then 0 else ((m : Int) + 1 - (List.replicate (m + 1) c).getD m 0)) = _
  have nx : nextI (List.replicate (m + 1) c) m = c + ((m + 1 : Nat) : Int) := by
    unfold nextI
    rw [if_pos (by rw [List.length_replicate]), rep_get (by omega), List.length_replicate]
  rw [z m (by omega), nx, rep_get (by omega), if_neg (by push_cast; omega)]
  push_cast
  omega
theorem Li.mono_all (s : Li n t r) : ∀ {j k : Nat}, j ≤ k → k < n → r.getD j 0 ≤ r.getD k 0 := by
  intro j k h
  induction k with
  | zero => intro hk; rw [show j = 0 by omega]; exact Int.le_refl _
  | succ k ih =>
    intro hk
    by_cases c : j = k + 1
    · rw [c]; exact Int.le_refl _
    · exact Int.le_trans (ih (by omega) (by omega)) (s.mono k hk)
theorem turn_near (hn : 2 ≤ n ∧ n ≤ 7) (s : Li n t r) {j k : Nat} (hj : j < n) (hk : k < n) : ((j : Int) + 1 - r.getD j 0) / (n : Int) - ((k : Int) + 1 - r.getD k 0) / (n : Int) ≤ 1 := by
  have h0j := s.mono_all (Nat.zero_le j) hj
  have h0k := s.mono_all (Nat.zero_le k) hk
  have hjn := s.mono_all (show j ≤ n - 1 by omega) (by omega)
  have hkn := s.mono_all (show k ≤ n - 1 by omega) (by omega)
  have sp := s.span
  have hjk : k ≤ j → r.getD k 0 ≤ r.getD j 0 := fun h => s.mono_all h hj
  have hkj : j ≤ k → r.getD j 0 ≤ r.getD k 0 := fun h => s.mono_all h hk
  have : n = 2 ∨ n = 3 ∨ n = 4 ∨ n = 5 ∨ n = 6 ∨ n = 7 := by omega
  rcases this with rfl | rfl | rfl | rfl | rfl | rfl <;> omega
end
/-! ### the greatest and the least of some ints -/
theorem lt_int (a b : Int) : PySem.W.dataLt (.int a) (.int b) = decide (a < b) := by
  show PyProof.Rows.lexLt PyProof.Rows.itemOrd [.inl a] [.inl b] = _
  rw [lex_cons]
  show (decide (a < b) || (!decide (b < a) && PyProof.Rows.lexLt PyProof.Rows.itemOrd [] [])) = _
  rw [show PyProof.Rows.lexLt PyProof.Rows.itemOrd [] [] = false by simp [PyProof.Rows.lexLt], Bool.and_false, Bool.or_false]
theorem max_in : ∀ (l : List Int) (x : Int), ∃ m, PySem.W.maxD (.int x) (l.map PyData.int) = .int m ∧ m ∈ x :: l
  | [], x => ⟨x, rfl, by simp⟩
  | y :: l, x => by
    obtain ⟨m, e, h⟩ := max_in l (if decide (x < y) = true then y else x)
    refine ⟨m, ?_, ?_⟩
    · rw [← e]
      show List.foldl _ (if PySem.W.dataLt (.int x) (.int y) = true then PyData.int y else PyData.int x) _ = List.foldl _ _ _
      rw [lt_int]
      split <;> rfl
    · split at h
      · rcases List.mem_cons.mp h with z | z
        · simp [z]
        · simp [z]
      · rcases List.mem_cons.mp h with z | z
        · simp [z]
        · simp [z]
theorem min_in : ∀ (l : List Int) (x : Int), ∃ m, PySem.W.minD (.int x) (l.map PyData.int) = .int m ∧ m ∈ x :: l
  | [], x => ⟨x, rfl, by simp⟩
  | y :: l, x => by
    obtain ⟨m, e, h⟩ := min_in l (if decide (y < x) = true then y else x)
    refine ⟨m, ?_, ?_⟩
    · rw [← e]
      show List.foldl _ (if PySem.W.dataLt (.int y) (.int x) = true then PyData.int y else PyData.int x) _ = List.foldl _ _ _
      rw [lt_int]
      split <;> rfl
    · split at h
      · rcases List.mem_cons.mp h with z | z
        · simp [z]
        · simp [z]
      · rcases List.mem_cons.mp h with z | z
        · simp [z]
        · simp [z]
theorem best_in {l : List Int} (h : l ≠ []) : (∃ m, gBestA PySem.W.maxD [tJ l] = some (.int m) ∧ m ∈ l) ∧ ∃ m, gBestA PySem.W.minD [tJ l] = some (.int m) ∧ m ∈ l := by
  cases l with
  | nil => exact absurd rfl h
  | cons x l =>
    have al : alikeD (.int x :: l.map PyData.int) = true := by
      unfold alikeD
      rw [Bool.or_eq_true]
      exact .inl (List.all_eq_true.mpr fun d hd => by
        rcases List.mem_cons.mp hd with z | z
        · rw [z]; rfl
        · obtain ⟨y, _, rfl⟩ := List.mem_map.mp z
          rfl)
    obtain ⟨m, e, hm⟩ := max_in l x
    obtain ⟨m', e', hm'⟩ := min_in l x
    refine ⟨⟨m, ?_, hm⟩, m', ?_, hm'⟩
    · show (if alikeD (.int x :: l.map PyData.int) = true then some (PySem.W.maxD (.int x) (l.map PyData.int)) else none) = _
      rw [if_pos al, e]
    · show (if alikeD (.int x :: l.map PyData.int) = true then some (PySem.W.minD (.int x) (l.map PyData.int)) else none) = _
      rw [if_pos al, e']
end BC
set_option Elab.async false
set_option linter.all false
set_option maxRecDepth 100000
set_option maxHeartbeats 4000000
namespace BC
open PySem PySem.Spec PyProof.Rows L2 GxR
section
variable {L Bs F T O K Y : D} {R R' : Cell} {n m : Int}
theorem c0 : sx_law_s0 [.val L, .no, .no, .no, .no, .no, .no, .no, .no, .no, .no, .no] = some (.nx [.val L, .own (.lst [L, .int 0, .int 8072, .int 0]), .no, .no, .no, .no, .no, .no, .no, .no, .no, .no]) := by
  simp [sx_law_s0]
theorem c1 {v : Int} (hn : 2 + v = n) (e : fn_law_taken [.own R, .val (.int 6)] = some (.int v, [.own R', .no])) : sx_law_s1 [.val L, .own R, .no, .no, .no, .no, .no, .no, .no, .no, .no, .no] = some (.nx [.val L, .own R', .val (.int n), .no, .no, .no, .no, .no, .no, .no, .no, .no]) := by
  subst hn
  simp [sx_law_s1, e]
theorem c2 (e : fn_law_ring [.own R, .val (.int n), .val (.int 20)] = some (Bs, [.own R', .no, .no])) : sx_law_s2 [.val L, .own R, .val (.int n), .no, .no, .no, .no, .no, .no, .no, .no, .no] = some (.nx [.val L, .own R', .val (.int n), .val Bs, .no, .no, .no, .no, .no, .no, .no, .no]) := by
  simp [sx_law_s2, e]
theorem turn_at {n : Nat} (h : 2 ≤ n ∧ n ≤ 7) : xCall gTupOf (yCons (xL (yLc (iR1 (yCons (xV 2) yNil)) (setV 10) yesT (x2 gAddA (xV 10) (xC (PyData.int 1))) [10])) yNil) [.val L, .own R, .val (.int (n : Nat)), .val Bs, .no, .no, .no, .no, .no, .no, .no, .no] = some (tJ (firstI n), [.val L, .own R, .val (.int (n : Nat)), .val Bs, .no, .no, .no, .no, .no, .no, .no, .no]) := by
  have : n = 2 ∨ n = 3 ∨ n = 4 ∨ n = 5 ∨ n = 6 ∨ n = 7 := by omega
  rcases this with rfl | rfl | rfl | rfl | rfl | rfl <;> kernel_rfl
theorem c3 (e : fn_lift [.val (.int n), .val Bs] = some (F, [.no, .no])) (t : xCall gTupOf (yCons (xL (yLc (iR1 (yCons (xV 2) yNil)) (setV 10) yesT (x2 gAddA (xV 10) (xC (PyData.int 1))) [10])) yNil) [.val L, .own R, .val (.int n), .val Bs, .no, .no, .no, .no, .no, .no, .no, .no] = some (T, [.val L, .own R, .val (.int n), .val Bs, .no, .no, .no, .no, .no, .no, .no, .no])) : sx_law_s3 [.val L, .own R, .val (.int n), .val Bs, .no, .no, .no, .no, .no, .no, .no, .no] = some (.nx [.val L, .own R, .val (.int n), .val Bs, .val F, .val T, .no, .no, .no, .no, .no, .no]) := by
  have f : xFn fn_lift (yCons (xV 2) (yCons (xV 3) yNil)) [.val L, .own R, .val (.int n), .val Bs, .no, .no, .no, .no, .no, .no, .no, .no] = some (F, [.val L, .own R, .val (.int n), .val Bs, .no, .no, .no, .no, .no, .no, .no, .no]) := by
    show Option.map _ (fn_lift [.val (.int n), .val Bs]) = _
    rw [e]
    rfl
  unfold sx_law_s3 sPar
  rw [yCons_eq, f, Option.bind_some, yCons_eq, t]
  rfl
theorem c4 {n : Nat} (h : 2 ≤ n ∧ n ≤ 7) : sx_law_s4 [.val L, .own R, .val (.int (n : Nat)), .val Bs, .val F, .val (tJ (firstI n)), .no, .no, .no, .no, .no, .no] = some (.nx [.val L, .own R, .val (.int (n : Nat)), .val Bs, .val F, .val (tJ (firstI n)), .val (tJ (List.replicate n 0)), .no, .no, .no, .no, .no]) := by
  have : n = 2 ∨ n = 3 ∨ n = 4 ∨ n = 5 ∨ n = 6 ∨ n = 7 := by omega
  rcases this with rfl | rfl | rfl | rfl | rfl | rfl <;> kernel_rfl
theorem c5 {n : Nat} (h : 2 ≤ n ∧ n ≤ 7) : sx_law_s5 [.val L, .own R, .val (.int (n : Nat)), .val Bs, .val F, .val (tJ (firstI n)), .val (tJ (List.replicate n 0)), .no, .no, .no, .no, .no] = some (.nx [.val L, .own R, .val (.int (n : Nat)), .val Bs, .val F, .val (tJ (firstI n)), .val (tJ (List.replicate n 0)), .no, .no, .no, .no, .no]) := by
  have : n = 2 ∨ n = 3 ∨ n = 4 ∨ n = 5 ∨ n = 6 ∨ n = 7 := by omega
  rcases this with rfl | rfl | rfl | rfl | rfl | rfl <;> kernel_rfl
theorem c6 {v : Int} (hm : 1 + v = m) (e : fn_law_taken [.own R, .val (.int 6)] = some (.int v, [.own R', .no])) : sx_law_s6 [.val L, .own R, .val (.int n), .val Bs, .val F, .val T, .val O, .no, .no, .no, .no, .no] = some (.nx [.val L, .own R', .val (.int n), .val Bs, .val F, .val T, .val O, .val (.int m), .no, .no, .no, .no]) := by
  subst hm
  simp [sx_law_s6, e]
theorem c7 {n m : Nat} (h : 2 ≤ n ∧ n ≤ 7) (hm : 1 ≤ m ∧ m ≤ 6) : sx_law_s7 [.val L, .own R, .val (.int (n : Nat)), .val Bs, .val F, .val (tJ (firstI n)), .val O, .val (.int (m : Nat)), .no, .no, .no, .no] = some (.nx [.val L, .own R, .val (.int (n : Nat)), .val Bs, .val F, .val (tJ (firstI n)), .val O, .val (.int (m : Nat)), .no, .no, .no, .no]) := by
  have : n = 2 ∨ n = 3 ∨ n = 4 ∨ n = 5 ∨ n = 6 ∨ n = 7 := by omega
  have : m = 1 ∨ m = 2 ∨ m = 3 ∨ m = 4 ∨ m = 5 ∨ m = 6 := by omega
  rcases ‹n = 2 ∨ _› with rfl | rfl | rfl | rfl | rfl | rfl <;> rcases ‹m = 1 ∨ _› with rfl | rfl | rfl | rfl | rfl | rfl <;> kernel_rfl
theorem c8 {n m : Nat} (h : 2 ≤ n ∧ n ≤ 7) (hm : 1 ≤ m ∧ m ≤ 6) : sx_law_s8 [.val L, .own R, .val (.int (n : Nat)), .val Bs, .val F, .val (tJ (firstI n)), .val O, .val (.int (m : Nat)), .no, .no, .no, .no] = some (.nx [.val L, .own R, .val (.int (n : Nat)), .val Bs, .val F, .val (tJ (firstI n)), .val O, .val (.int (m : Nat)), .no, .no, .no, .no]) := by
  have : n = 2 ∨ n = 3 ∨ n = 4 ∨ n = 5 ∨ n = 6 ∨ n = 7 := by omega
  have : m = 1 ∨ m = 2 ∨ m = 3 ∨ m = 4 ∨ m = 5 ∨ m = 6 := by omega
  rcases ‹n = 2 ∨ _› with rfl | rfl | rfl | rfl | rfl | rfl <;> rcases ‹m = 1 ∨ _› with rfl | rfl | rfl | rfl | rfl | rfl <;> kernel_rfl
theorem c9 {X1 X2 TB : D} {x : Int} (e1 : fn_lift_after [.val F, .val O] = some (X1, [.no, .no])) (g : gIx F (.int (-1)) = some (.int x)) (u : gMulA (.tuple [.int (x - n)]) (.int n) = some X1) (q1 : gNe X1 X1 = some (.bool false)) (e2 : fn_lift_after [.val O, .val F] = some (X2, [.no, .no])) (a : gAddA T Bs = some TB) (e3 : fn_lift [.val (.int n), .val TB] = some (X2, [.no, .no])) (q2 : gNe X2 X2 = some (.bool false)) : sx_law_s9 [.val L, .own R, .val (.int n), .val Bs, .val F, .val T, .val O, .val (.int m), .no, .no, .no, .no] = some (.nx [.val L, .own R, .val (.int n), .val Bs, .val F, .val T, .val O, .val (.int m), .no, .no, .no, .no]) := by
  simp [sx_law_s9, e1, g, u, q1, e2, a, e3, q2]
theorem c10 (e : fn_turns_back [.val (.int n), .val Bs] = some (K, [.no, .no])) : sx_law_s10 [.val L, .own R, .val (.int n), .val Bs, .val F, .val T, .val O, .val (.int m), .no, .no, .no, .no] = some (.nx [.val L, .own R, .val (.int n), .val Bs, .val F, .val T, .val O, .val (.int m), .val K, .no, .no, .no]) := by
  simp [sx_law_s10, e]
theorem neg_at {j : Nat} {x : Int} (g : gIx K (.int (0 + (j : Int))) = some (.int x)) (h : ¬ x < 0) : xT (x2 gLt (x2 gIx (xV 8) (xV 10)) (xC (PyData.int 0))) [.val L, .own R, .val (.int n), .val Bs, .val F, .val T, .val O, .val (.int m), .val K, .no, .val (.int (0 + (j : Int))), .no] = some (false, [.val L, .own R, .val (.int n), .val Bs, .val F, .val T, .val O, .val (.int m), .val K, .no, .val (.int (0 + (j : Int))), .no]) := by
  refine xT_of (x2_at (x2_at rfl rfl g) rfl ?_)
  show gLt (.int x) (.int 0) = some (.bool false)
  simp [h]
theorem c11 {l : List Int} {k : Nat} {a b : Int} (hl : l.length = k) (hk : k ≤ 100) (hn : n = (k : Int)) (hK : K = tJ l) (h : ∀ x ∈ l, ¬ x < 0) (g1 : gBestA PySem.W.maxD [K] = some (.int a)) (g2 : gBestA PySem.W.minD [K] = some (.int b)) (d : ¬ 1 < a - b) : sx_law_s11 [.val L, .own R, .val (.int n), .val Bs, .val F, .val T, .val O, .val (.int m), .val K, .no, .no, .no] = some (.nx [.val L, .own R, .val (.int n), .val Bs, .val F, .val T, .val O, .val (.int m), .val K, .no, .no, .no]) := by
  have hi : iR1 (yCons (xV 2) yNil) [.val L, .own R, .val (.int n), .val Bs, .val F, .val T, .val O, .val (.int m), .val K, .no, .no, .no] = some ((List.range k).map (fun j : Nat => PyData.int (0 + (j : Int))), [.val L, .own R, .val (.int n), .val Bs, .val F, .val T, .val O, .val (.int m), .val K, .no, .no, .no]) := by
    have e := iR1_below (S := [.val L, .own R, .val (.int n), .val Bs, .val F, .val T, .val O, .val (.int m), .val K, .no, .no, .no]) (e := xV 2) (n := k) (by rw [xV_eq]; show some (PyData.int n, _) = _; rw [hn]) hk
    rw [List.map_map] at e
    exact e
  have y := yLc_enc (i := 10) (S := [.val L, .own R, .val (.int n), .val Bs, .val F, .val T, .val O, .val (.int m), .val K, .no, .no, .no]) (l := List.range k) (enc := fun j : Nat => PyData.int (0 + (j : Int))) (tt := xT (x2 gLt (x2 gIx (xV 8) (xV 10)) (xC (PyData.int 0)))) (te := xV 10) (p := fun _ => false) (g := fun j : Nat => PyData.int (0 + (j : Int))) hi (by show 10 < 12; decide) rfl (by rw [List.length_range]; omega) fun j hj => ⟨by
    have hj := List.mem_range.mp hj
    refine neg_at (x := l.getD j 0) ?_ (h _ (getD_mem (by omega)))
    rw [hK, gIx_tJ ⟨by omega, by omega⟩]
    congr 3
    omega, fun z => by cases z⟩
  rw [List.filter_eq_nil_iff.mpr fun _ _ => Bool.false_ne_true] at y
  have t1 : xT (x2 gNe (xL (yLc (iR1 (yCons (xV 2) yNil)) (setV 10) (xT (x2 gLt (x2 gIx (xV 8) (xV 10)) (xC (PyData.int 0)))) (xV 10) [10])) (xLst yNil)) [.val L, .own R, .val (.int n), .val Bs, .val F, .val T, .val O, .val (.int m), .val K, .no, .no, .no] = some (false, [.val L, .own R, .val (.int n), .val Bs, .val F, .val T, .val O, .val (.int m), .val K, .no, .no, .no]) := xT_of (x2_at (by rw [xL_eq, y]; rfl) rfl (by rfl))
  have t2 : xT (x2 gGt (x2 gSub (xCall (gBestA PySem.W.maxD) (yCons (xV 8) yNil)) (xCall (gBestA PySem.W.minD) (yCons (xV 8) yNil))) (xC (PyData.int 1))) [.val L, .own R, .val (.int n), .val Bs, .val F, .val T, .val O, .val (.int m), .val K, .no, .no, .no] = some (false, [.val L, .own R, .val (.int n), .val Bs, .val F, .val T, .val O, .val (.int m), .val K, .no, .no, .no]) := by
    clear hi y t1 hK
    simp [g1, g2, d]
  unfold sx_law_s11
  exact sIf_fn (or_at (p := false) (q := false) t1 fun _ => t2)
theorem c12 (e : fn_ring_winner [.val (.int n), .val Bs] = some (Y, [.no, .no])) : sx_law_s12 [.val L, .own R, .val (.int n), .val Bs, .val F, .val T, .val O, .val (.int m), .val K, .no, .no, .no] = some (.nx [.val L, .own R, .val (.int n), .val Bs, .val F, .val T, .val O, .val (.int m), .val K, .val Y, .no, .no]) := by
  simp [sx_law_s12, e]
theorem c13_none : sx_law_s13 [.val L, .own R, .val (.int n), .val Bs, .val F, .val T, .val O, .val (.int m), .val K, .val .none, .no, .no] = some (.nx [.val L, .own R, .val (.int n), .val Bs, .val F, .val T, .val O, .val (.int m), .val K, .val .none, .no, .no]) := rfl
theorem mod_at {x w : Int} (pn : 0 < n) : x2 gMod (x2 gSub (xV 11) (xV 9)) (xV 2) [.val L, .own R, .val (.int n), .val Bs, .val F, .val T, .val O, .val (.int m), .val K, .val (.int w), .no, .val (.int x)] = some (.int ((x - w) % n), [.val L, .own R, .val (.int n), .val Bs, .val F, .val T, .val O, .val (.int m), .val K, .val (.int w), .no, .val (.int x)]) := by
  simp [pn]
theorem c13_some {l : List Int} {w : Int} (pn : 0 < n) (hl : 0 < l.length ∧ l.length ≤ 50) (hF : F = tJ l) (h : ∀ x ∈ l, (x - w) % n = 0) : sx_law_s13 [.val L, .own R, .val (.int n), .val Bs, .val F, .val T, .val O, .val (.int m), .val K, .val (.int w), .no, .no] = some (.nx [.val L, .own R, .val (.int n), .val Bs, .val F, .val T, .val O, .val (.int m), .val K, .val (.int w), .no, .no]) := by
  subst hF
  have y := yLc_enc (i := 11) (S := [.val L, .own R, .val (.int n), .val Bs, .val (tJ l), .val T, .val O, .val (.int m), .val K, .val (.int w), .no, .no]) (l := l) (enc := PyData.int) (fs := iAny (xV 4)) (tt := yesT) (te := x2 gMod (x2 gSub (xV 11) (xV 9)) (xV 2)) (p := fun _ => true) (g := fun x => PyData.int ((x - w) % n)) (iAny_tup rfl) (by show 11 < 12; decide) rfl (by omega) fun x _ => ⟨rfl, fun _ => mod_at pn⟩
  rw [List.filter_eq_self.mpr fun _ _ => rfl] at y
  have ml : l.map (fun x => PyData.int ((x - w) % n)) = (List.replicate l.length (0 : Int)).map PyData.int := by
    rw [List.map_replicate]
    exact List.eq_replicate_iff.mpr ⟨List.length_map _, fun d hd => by
      obtain ⟨x, hx, rfl⟩ := List.mem_map.mp hd
      rw [h x hx]⟩
  rw [ml] at y
  have dd : (ddI (List.replicate l.length (0 : Int))).length = 1 := by
    have e : ddI (List.replicate l.length (0 : Int)) = [0] := only_one (ddI_nodup _) fun x => by
      rw [ddI_mem, List.mem_replicate]
      exact ⟨fun z => z.2, fun z => ⟨by omega, z⟩⟩
    rw [e]
    rfl
  have x : xLenSetL (xL (yLc (iAny (xV 4)) (setV 11) yesT (x2 gMod (x2 gSub (xV 11) (xV 9)) (xV 2)) [11])) [.val L, .own R, .val (.int n), .val Bs, .val (tJ l), .val T, .val O, .val (.int m), .val K, .val (.int w), .no, .no] = some (.int 1, [.val L, .own R, .val (.int n), .val Bs, .val (tJ l), .val T, .val O, .val (.int m), .val K, .val (.int w), .no, .no]) := by
    unfold xLenSetL
    rw [xL_eq, y, Option.map_some, Option.bind_some]
    dsimp only
    rw [intsOf_map, Option.bind_some, if_pos (by rw [List.length_replicate]; omega), dd]
    rfl
  unfold sx_law_s13
  refine sIf_fn (and_at (p := true) (q := false) rfl fun _ => xT_of (x2_at x rfl ?_))
  rfl
theorem c14 {X TB : D} {a b : Int} (u : gAddA Bs T = some TB) (e1 : fn_lift [.val (.int n), .val TB] = some (X, [.no, .no])) (e2 : fn_lift_count [.val X] = some (.int a, [.no])) (e3 : fn_lift_count [.val F] = some (.int b, [.no])) (h : a ≤ b + n) : sx_law_s14 [.val L, .own R, .val (.int n), .val Bs, .val F, .val T, .val O, .val (.int m), .val K, .val Y, .no, .no] = some (.rt (.bool true) [.val L, .own R, .val (.int n), .val Bs, .val F, .val T, .val O, .val (.int m), .val K, .val Y, .no, .no]) := by
  simp [sx_law_s14, u, e1, e2, e3, h]
theorem law_aux {R1 R2 R3 : Cell} (p1 : sx_law_s1 [.val L, .own (.lst [L, .int 0, .int 8072, .int 0]), .no, .no, .no, .no, .no, .no, .no, .no, .no, .no] = some (.nx [.val L, .own R1, .val (.int n), .no, .no, .no, .no, .no, .no, .no, .no, .no])) (p2 : sx_law_s2 [.val L, .own R1, .val (.int n), .no, .no, .no, .no, .no, .no, .no, .no, .no] = some (.nx [.val L, .own R2, .val (.int n), .val Bs, .no, .no, .no, .no, .no, .no, .no, .no])) (p3 : sx_law_s3 [.val L, .own R2, .val (.int n), .val Bs, .no, .no, .no, .no, .no, .no, .no, .no] = some (.nx [.val L, .own R2, .val (.int n), .val Bs, .val F, .val T, .no, .no, .no, .no, .no, .no])) (p4 : sx_law_s4 [.val L, .own R2, .val (.int n), .val Bs, .val F, .val T, .no, .no, .no, .no, .no, .no] = some (.nx [.val L, .own R2, .val (.int n), .val Bs, .val F, .val T, .val O, .no, .no, .no, .no, .no])) (p5 : sx_law_s5 [.val L, .own R2, .val (.int n), .val Bs, .val F, .val T, .val O, .no, .no, .no, .no, .no] = some (.nx [.val L, .own R2, .val (.int n), .val Bs, .val F, .val T, .val O, .no, .no, .no, .no, .no])) (p6 : sx_law_s6 [.val L, .own R2, .val (.int n), .val Bs, .val F, .val T, .val O, .no, .no, .no, .no, .no] = some (.nx [.val L, .own R3, .val (.int n), .val Bs, .val F, .val T, .val O, .val (.int m), .no, .no, .no, .no])) (p7 : sx_law_s7 [.val L, .own R3, .val (.int n), .val Bs, .val F, .val T, .val O, .val (.int m), .no, .no, .no, .no] = some (.nx [.val L, .own R3, .val (.int n), .val Bs, .val F, .val T, .val O, .val (.int m), .no, .no, .no, .no])) (p8 : sx_law_s8 [.val L, .own R3, .val (.int n), .val Bs, .val F, .val T, .val O, .val (.int m), .no, .no, .no, .no] = some (.nx [.val L, .own R3, .val (.int n), .val Bs, .val F, .val T, .val O, .val (.int m), .no, .no, .no, .no])) (p9 : sx_law_s9 [.val L, .own R3, .val (.int n), .val Bs, .val F, .val T, .val O, .val (.int m), .no, .no, .no, .no] = some (.nx [.val L, .own R3, .val (.int n), .val Bs, .val F, .val T, .val O, .val (.int m), .no, .no, .no, .no]))
    (p10 : sx_law_s10 [.val L, .own R3, .val (.int n), .val Bs, .val F, .val T, .val O, .val (.int m), .no, .no, .no, .no] = some (.nx [.val L, .own R3, .val (.int n), .val Bs, .val F, .val T, .val O, .val (.int m), .val K, .no, .no, .no])) (p11 : sx_law_s11 [.val L, .own R3, .val (.int n), .val Bs, .val F, .val T, .val O, .val (.int m), .val K, .no, .no, .no] = some (.nx [.val L, .own R3, .val (.int n), .val Bs, .val F, .val T, .val O, .val (.int m), .val K, .no, .no, .no])) (p12 : sx_law_s12 [.val L, .own R3, .val (.int n), .val Bs, .val F, .val T, .val O, .val (.int m), .val K, .no, .no, .no] = some (.nx [.val L, .own R3, .val (.int n), .val Bs, .val F, .val T, .val O, .val (.int m), .val K, .val Y, .no, .no])) (p13 : sx_law_s13 [.val L, .own R3, .val (.int n), .val Bs, .val F, .val T, .val O, .val (.int m), .val K, .val Y, .no, .no] = some (.nx [.val L, .own R3, .val (.int n), .val Bs, .val F, .val T, .val O, .val (.int m), .val K, .val Y, .no, .no])) (p14 : sx_law_s14 [.val L, .own R3, .val (.int n), .val Bs, .val F, .val T, .val O, .val (.int m), .val K, .val Y, .no, .no] = some (.rt (.bool true) [.val L, .own R3, .val (.int n), .val Bs, .val F, .val T, .val O, .val (.int m), .val K, .val Y, .no, .no])) : ∃ outs, fn_law [.val L] = some (.bool true, outs) := by
  have p : sx_law_T0 [.val L, .no, .no, .no, .no, .no, .no, .no, .no, .no, .no, .no] = some (.rt (.bool true) [.val L, .own R3, .val (.int n), .val Bs, .val F, .val T, .val O, .val (.int m), .val K, .val Y, .no, .no]) :=
    (sSeq_nx (g := sx_law_T1) c0).trans ((sSeq_nx (g := sx_law_T2) p1).trans ((sSeq_nx (g := sx_law_T3) p2).trans ((sSeq_nx (g := sx_law_T4) p3).trans ((sSeq_nx (g := sx_law_T5) p4).trans ((sSeq_nx (g := sx_law_T6) p5).trans ((sSeq_nx (g := sx_law_T7) p6).trans ((sSeq_nx (g := sx_law_T8) p7).trans
    ((sSeq_nx (g := sx_law_T9) p8).trans ((sSeq_nx (g := sx_law_T10) p9).trans ((sSeq_nx (g := sx_law_T11) p10).trans ((sSeq_nx (g := sx_law_T12) p11).trans ((sSeq_nx (g := sx_law_T13) p12).trans ((sSeq_nx (g := sx_law_T14) p13).trans p14)))))))))))))
  exact ⟨_, fn_of (m := 11) (as := [.val L]) p⟩
end
theorem mulA_seven {x : Int} {n : Nat} (hn : 2 ≤ n ∧ n ≤ 7) : gMulA (.tuple [.int x]) (.int n) = some (tJ (List.replicate n x)) := by
  have : n = 2 ∨ n = 3 ∨ n = 4 ∨ n = 5 ∨ n = 6 ∨ n = 7 := by omega
  rcases this with rfl | rfl | rfl | rfl | rfl | rfl <;> rfl
theorem law_all : ∀ ns : List Int, ns.length ≤ 63 → ∃ outs, fn_law [.val (.list (ns.map PyData.int))] = some (.bool true, outs) := fun ns _ => by
  obtain ⟨v, i1, sd1, rs1, e1, v0, v1, g1⟩ := taken_eq ns 0 8072 0 6 (by omega) ⟨by omega, by omega⟩
  obtain ⟨n, hN⟩ : ∃ n : Nat, 2 + v = (n : Int) := ⟨(2 + v).toNat, by omega⟩
  have K : 2 ≤ n ∧ n ≤ 7 := by omega
  have K8 : 2 ≤ n ∧ n ≤ 8 := by omega
  obtain ⟨bs, i2, sd2, rs2, e2, hb, lb, g2⟩ := law_ring_eq ns i1 sd1 rs1 20 K8 g1 ⟨by omega, by omega⟩
  obtain ⟨w, i3, sd3, rs3, e6, w0, w1, g3⟩ := taken_eq ns i2 sd2 rs2 6 g2 ⟨by omega, by omega⟩
  obtain ⟨m, hM⟩ : ∃ m : Nat, 1 + w = (m : Int) := ⟨(1 + w).toNat, by omega⟩
  have M : 1 ≤ m ∧ m ≤ 6 := by omega
  have hf : ∀ b ∈ firstI n, 1 ≤ b ∧ b ≤ (n : Int) := fun b h => firstI_mem h
  have lf := firstI_len n
  have Lf := (Li.first (n := n) K.1).lifts K.1 bs hb
  have Lo := (Li.first (n := n) K.1).lifts K.1 (firstI n) hf
  rw [Nat.zero_add] at Lf Lo
  have ho : liftsI (firstI n) (firstI n) = List.replicate n 0 := by
    rw [lift_round K.1 lf, firstI_get (by omega)]
    congr 1
    omega
  rw [ho, lf] at Lo
  generalize hF : liftsI (firstI n) bs = f at Lf
  have lif := lift_eq K8 (by omega) hb
  rw [hF] at lif
  have p3 := c3 (L := .list (ns.map PyData.int)) (Bs := tJ bs) (R := rowC ns i2 sd2 rs2) lif (turn_at K)
  -- lifts one after another
  have gl : gIx (tJ f) (.int (-1)) = some (.int (f.getD (n - 1) 0)) := by
    have := gIx_last (r := f) (by rw [Lf.len]; omega)
    rwa [Lf.len] at this
  have lo1 := Lf.lo (n - 1) (by omega)
  have hi1 := Lf.hi (n - 1) (by omega)
  have r1 : (List.replicate n (0 : Int)).map (unI f) = List.replicate n (f.getD (n - 1) 0 - n) := by
    rw [List.map_replicate]
    congr 1
    have := un_zero (r := f) (by rw [Lf.len]; omega)
    rwa [Lf.len] at this
  have a1 := lift_after_eq K8 Lf Lo ⟨by omega, by omega⟩ (fun x hx => by
    rw [r1] at hx
    rw [(List.mem_replicate.mp hx).2]
    omega)
  rw [r1] at a1
  have r2 : f.map (unI (List.replicate n 0)) = liftsI (List.replicate n 0) bs := by
    have := lift_join (a := List.replicate n (0 : Int)) (bs := bs) (by rw [List.length_replicate]; omega)
    rw [List.length_replicate, hF] at this
    exact this
  have Lj := Lo.lifts K.1 bs hb
  have a2 := lift_after_eq K8 Lo Lf ⟨by omega, by omega⟩ (fun x hx => by
    rw [r2] at hx
    obtain ⟨j, hj, rfl⟩ := mem_getD hx
    have := Lj.lo j (by rw [← Lj.len]; exact hj)
    omega)
  rw [r2] at a2
  have ub : gAddA (tJ (firstI n)) (tJ bs) = some (tJ (firstI n ++ bs)) := tJ_add (by omega) (by omega)
  have bu : gAddA (tJ bs) (tJ (firstI n)) = some (tJ (bs ++ firstI n)) := tJ_add (by omega) (by omega)
  have l3 := lift_eq (n := n) (bs := firstI n ++ bs) K8 (by rw [List.length_append]; omega) (fun b h => by
    rcases List.mem_append.mp h with z | z
    · exact hf b z
    · exact hb b z)
  rw [liftsI_app, ho] at l3
  have l4 := lift_eq (n := n) (bs := bs ++ firstI n) K8 (by rw [List.length_append]; omega) (fun b h => by
    rcases List.mem_append.mp h with z | z
    · exact hb b z
    · exact hf b z)
  have hc : liftsI (firstI n) (bs ++ firstI n) = List.replicate n (f.getD (n - 1) 0 - n) := by
    rw [liftsI_app, hF, lift_round K.1 Lf.len]
  rw [hc] at l4
  have q : ∀ l : List Int, gNe (tJ l) (tJ l) = some (.bool false) := fun l => by rw [gNe_tJ, decide_eq_true rfl]; rfl
  have p9 := c9 (L := .list (ns.map PyData.int)) (m := (m : Nat)) (R := rowC ns i3 sd3 rs3) a1 gl (mulA_seven K) (q _) a2 ub l3 (q _)
  -- whole turns
  have tb := turns_all K8 (by omega) hb
  rw [hF, turns_range Lf.len] at tb
  have tl : ((List.range n).map fun (k : Nat) => ((k : Int) + 1 - f.getD k 0) / (n : Int)).length = n := by rw [List.length_map, List.length_range]
  have tm : ∀ x ∈ (List.range n).map fun (k : Nat) => ((k : Int) + 1 - f.getD k 0) / (n : Int), ∃ k, k < n ∧ x = ((k : Int) + 1 - f.getD k 0) / (n : Int) := fun x hx => by
    obtain ⟨k, hk, rfl⟩ := List.mem_map.mp hx
    exact ⟨k, List.mem_range.mp hk, rfl⟩
  obtain ⟨⟨x, gx, mx⟩, y, gy, my⟩ := best_in (l := (List.range n).map fun (k : Nat) => ((k : Int) + 1 - f.getD k 0) / (n : Int)) (fun z => by rw [z] at tl; simp at tl; omega)
  have p11 := c11 (L := .list (ns.map PyData.int)) (Bs := tJ bs) (F := tJ f) (T := tJ (firstI n)) (O := tJ (List.replicate n 0)) (m := (m : Nat)) (n := (n : Nat)) (R := rowC ns i3 sd3 rs3) tl (by omega) rfl rfl (fun z hz => by
    obtain ⟨k, hk, rfl⟩ := tm z hz
    have := Lf.hi k hk
    have := Int.ediv_nonneg (a := (k : Int) + 1 - f.getD k 0) (b := (n : Int)) (by omega) (by omega)
    omega) gx gy (by
    obtain ⟨j, hj, rfl⟩ := tm x mx
    obtain ⟨k, hk, rfl⟩ := tm y my
    have := turn_near K Lf hj hk
    omega)
  -- the winner
  have wa := winner_all K8 (by omega) hb
  rw [hF] at wa
  have needF := lift_count_eq K8 Lf (by omega) (hF ▸ came K.1 hb)
  have Lc := (Li.first (n := n) K.1).lifts K.1 (bs ++ firstI n) (fun b h => by
    rcases List.mem_append.mp h with z | z
    · exact hb b z
    · exact hf b z)
  have cc := came (n := n) K.1 (bs := bs ++ firstI n) (fun b h => by
    rcases List.mem_append.mp h with z | z
    · exact hb b z
    · exact hf b z)
  rw [hc] at Lc cc
  have needC := lift_count_eq K8 Lc (by rw [List.length_append]; omega) cc
  rw [need_rep K.1] at needC
  have low := need_last K.1 Lf
  have p14 : ∀ Y : D, _ := fun Y => c14 (L := .list (ns.map PyData.int)) (O := tJ (List.replicate n 0)) (K := tJ ((List.range n).map fun (k : Nat) => ((k : Int) + 1 - f.getD k 0) / (n : Int))) (Y := Y) (m := (m : Nat)) (R := rowC ns i3 sd3 rs3) bu l4 needC needF (by omega)
  by_cases c : peopleI n f = List.replicate n ((peopleI n f).getD 0 0)
  · rw [if_pos c] at wa
    have p13 := c13_some (L := .list (ns.map PyData.int)) (Bs := tJ bs) (T := tJ (firstI n)) (O := tJ (List.replicate n 0)) (K := tJ ((List.range n).map fun (k : Nat) => ((k : Int) + 1 - f.getD k 0) / (n : Int))) (m := (m : Nat)) (n := (n : Nat)) (R := rowC ns i3 sd3 rs3) (l := f) (w := (peopleI n f).getD 0 0) (by omega) (by rw [Lf.len]; omega) rfl (fun x hx => by
      have : (x - 1) % (n : Int) + 1 ∈ peopleI n f := List.mem_map.mpr ⟨x, hx, rfl⟩
      rw [c] at this
      have e := (List.mem_replicate.mp this).2
      rw [← e]
      have d := Int.emod_emod_of_dvd (x - 1) (Int.dvd_refl (n : Int))
      have := Int.emod_add_mul_ediv (x - 1) (n : Int)
      rw [show x - ((x - 1) % (n : Int) + 1) = (n : Int) * ((x - 1) / (n : Int)) by omega]
      exact Int.mul_emod_right _ _)
    exact law_aux (c1 hN e1) (c2 e2) p3 (c4 K) (c5 K) (c6 hM e6) (c7 K M) (c8 K M) p9 (c10 tb) p11 (c12 wa) p13 (p14 _)
  · rw [if_neg c] at wa
    exact law_aux (c1 hN e1) (c2 e2) p3 (c4 K) (c5 K) (c6 hM e6) (c7 K M) (c8 K M) p9 (c10 tb) p11 (c12 wa) c13_none (p14 _)
end BC
set_option Elab.async false
set_option linter.all false
set_option maxRecDepth 100000
set_option maxHeartbeats 4000000
namespace BC
open PySem PySem.Spec PyProof.Rows L2 GxR
theorem all_mk {l : PySem.W.OpenLaw} {q : Program} {w : World} {K : PySem.W.Frag} {h : Heap} {mg : Str → Option Value} {fa : Addr} (X : K.In h) (G : h.Ns mainGlobals mg) (hfa : mg "law" = some (.ref fa)) (tab : TabAll K q h)
    {f0 : Addr} {od0 an0 : Option Addr} {sl0 : Array (Option Value)} {oc0 kV0 dc0 pm0 cd0 ct0 : Value}
    {f1 : Addr} {od1 an1 : Option Addr} {sl1 : Array (Option Value)} {oc1 kV1 dc1 pm1 cd1 ct1 : Value}
    {f2 : Addr} {od2 an2 : Option Addr} {sl2 : Array (Option Value)} {oc2 kV2 dc2 pm2 cd2 ct2 : Value}
    {f3 : Addr} {od3 an3 : Option Addr} {sl3 : Array (Option Value)} {oc3 kV3 dc3 pm3 cd3 ct3 : Value}
    {y3 p3 : Addr} {e3 : Value} {dd3 : Option Addr} {vs3 : Array Value} {ws3 : Array (Option Value)}
    {f4 : Addr} {od4 an4 : Option Addr} {sl4 : Array (Option Value)} {oc4 kV4 dc4 pm4 cd4 ct4 : Value}
    {f5 : Addr} {od5 an5 : Option Addr} {sl5 : Array (Option Value)} {oc5 kV5 dc5 pm5 cd5 ct5 : Value}
    {f6 : Addr} {od6 an6 : Option Addr} {sl6 : Array (Option Value)} {oc6 kV6 dc6 pm6 cd6 ct6 : Value}
    {f7 : Addr} {od7 an7 : Option Addr} {sl7 : Array (Option Value)} {oc7 kV7 dc7 pm7 cd7 ct7 : Value}
    {f8 : Addr} {od8 an8 : Option Addr} {sl8 : Array (Option Value)} {oc8 kV8 dc8 pm8 cd8 ct8 : Value}
    {f9 : Addr} {od9 an9 : Option Addr} {sl9 : Array (Option Value)} {oc9 kV9 dc9 pm9 cd9 ct9 : Value}
    {f10 : Addr} {od10 an10 : Option Addr} {sl10 : Array (Option Value)} {oc10 kV10 dc10 pm10 cd10 ct10 : Value}
    {f11 : Addr} {od11 an11 : Option Addr} {sl11 : Array (Option Value)} {oc11 kV11 dc11 pm11 cd11 ct11 : Value}
    {f12 : Addr} {od12 an12 : Option Addr} {sl12 : Array (Option Value)} {oc12 kV12 dc12 pm12 cd12 ct12 : Value}
    {y12 p12 : Addr} {e12 : Value} {dd12 : Option Addr} {vs12 : Array Value} {ws12 : Array (Option Value)}
    {f13 : Addr} {od13 an13 : Option Addr} {sl13 : Array (Option Value)} {oc13 kV13 dc13 pm13 cd13 ct13 : Value}
    {y13 p13 : Addr} {e13 : Value} {dd13 : Option Addr} {vs13 : Array Value} {ws13 : Array (Option Value)}
    {f14 : Addr} {od14 an14 : Option Addr} {sl14 : Array (Option Value)} {oc14 kV14 dc14 pm14 cd14 ct14 : Value}
    {f15 : Addr} {od15 an15 : Option Addr} {sl15 : Array (Option Value)} {oc15 kV15 dc15 pm15 cd15 ct15 : Value}
    {y15 p15 : Addr} {e15 : Value} {dd15 : Option Addr} {vs15 : Array Value} {ws15 : Array (Option Value)}
    {f16 : Addr} {od16 an16 : Option Addr} {sl16 : Array (Option Value)} {oc16 kV16 dc16 pm16 cd16 ct16 : Value}
    {f17 : Addr} {od17 an17 : Option Addr} {sl17 : Array (Option Value)} {oc17 kV17 dc17 pm17 cd17 ct17 : Value}
    {f18 : Addr} {od18 an18 : Option Addr} {sl18 : Array (Option Value)} {oc18 kV18 dc18 pm18 cd18 ct18 : Value}
    {f19 : Addr} {od19 an19 : Option Addr} {sl19 : Array (Option Value)} {oc19 kV19 dc19 pm19 cd19 ct19 : Value}
    {f20 : Addr} {od20 an20 : Option Addr} {sl20 : Array (Option Value)} {oc20 kV20 dc20 pm20 cd20 ct20 : Value}
    {f21 : Addr} {od21 an21 : Option Addr} {sl21 : Array (Option Value)} {oc21 kV21 dc21 pm21 cd21 ct21 : Value}
    {f22 : Addr} {od22 an22 : Option Addr} {sl22 : Array (Option Value)} {oc22 kV22 dc22 pm22 cd22 ct22 : Value}
    {f23 : Addr} {od23 an23 : Option Addr} {sl23 : Array (Option Value)} {oc23 kV23 dc23 pm23 cd23 ct23 : Value}
    {f24 : Addr} {od24 an24 : Option Addr} {sl24 : Array (Option Value)} {oc24 kV24 dc24 pm24 cd24 ct24 : Value}
    {f25 : Addr} {od25 an25 : Option Addr} {sl25 : Array (Option Value)} {oc25 kV25 dc25 pm25 cd25 ct25 : Value}
    {f26 : Addr} {od26 an26 : Option Addr} {sl26 : Array (Option Value)} {oc26 kV26 dc26 pm26 cd26 ct26 : Value}
    {f27 : Addr} {od27 an27 : Option Addr} {sl27 : Array (Option Value)} {oc27 kV27 dc27 pm27 cd27 ct27 : Value}
    (a0 : PySem.W.nsIn K mainGlobals "is_number" = some (some (.ref f0))) (l0 : K.lookup f0 = some ⟨oc0, od0, .func (PySem.W.fnOf "is_number" "is_number" (defArgs st_is_number) (defBody st_is_number) (defScope st_is_number) .none kV0 dc0 pm0 an0 cd0 ct0), sl0⟩) (c0 : PySem.W.codeIn K cd0 "is_number" = true) (k0 : PySem.W.keepIn K (.ref f0) = true)
    (a1 : PySem.W.nsIn K mainGlobals "is_whole" = some (some (.ref f1))) (l1 : K.lookup f1 = some ⟨oc1, od1, .func (PySem.W.fnOf "is_whole" "is_whole" (defArgs st_is_whole) (defBody st_is_whole) (defScope st_is_whole) .none kV1 dc1 pm1 an1 cd1 ct1), sl1⟩) (c1 : PySem.W.codeIn K cd1 "is_whole" = true) (k1 : PySem.W.keepIn K (.ref f1) = true)
    (a2 : PySem.W.nsIn K mainGlobals "check_size" = some (some (.ref f2))) (l2 : K.lookup f2 = some ⟨oc2, od2, .func (PySem.W.fnOf "check_size" "check_size" (defArgs st_check_size) (defBody st_check_size) (defScope st_check_size) .none kV2 dc2 pm2 an2 cd2 ct2), sl2⟩) (c2 : PySem.W.codeIn K cd2 "check_size" = true) (k2 : PySem.W.keepIn K (.ref f2) = true)
    (a3 : PySem.W.nsIn K mainGlobals "is_row" = some (some (.ref f3))) (l3 : K.lookup f3 = some ⟨oc3, od3, .func (PySem.W.fnOf "is_row" "is_row" (defArgs st_is_row) (defBody st_is_row) (defScope st_is_row) .none kV3 dc3 pm3 an3 cd3 ct3), sl3⟩) (c3 : PySem.W.codeIn K cd3 "is_row" = true) (k3 : PySem.W.keepIn K (.ref f3) = true)
    (q3 : cd3 = .ref y3) (r3 : K.lookup y3 = some ⟨e3, dd3, .fields vs3, ws3⟩) (s3 : (vs3[11]? : Option Value) = some (.ref p3)) (u3 : K.lookup p3 = none) (v3 : ((recsOf q).any fun e => e.name == ("is_row" : Str)) = true)
    (a4 : PySem.W.nsIn K mainGlobals "check_ring_bells" = some (some (.ref f4))) (l4 : K.lookup f4 = some ⟨oc4, od4, .func (PySem.W.fnOf "check_ring_bells" "check_ring_bells" (defArgs st_check_ring_bells) (defBody st_check_ring_bells) (defScope st_check_ring_bells) .none kV4 dc4 pm4 an4 cd4 ct4), sl4⟩) (c4 : PySem.W.codeIn K cd4 "check_ring_bells" = true) (k4 : PySem.W.keepIn K (.ref f4) = true)
    (a5 : PySem.W.nsIn K mainGlobals "at_first" = some (some (.ref f5))) (l5 : K.lookup f5 = some ⟨oc5, od5, .func (PySem.W.fnOf "at_first" "at_first" (defArgs st_at_first) (defBody st_at_first) (defScope st_at_first) .none kV5 dc5 pm5 an5 cd5 ct5), sl5⟩) (c5 : PySem.W.codeIn K cd5 "at_first" = true) (k5 : PySem.W.keepIn K (.ref f5) = true)
    (a6 : PySem.W.nsIn K mainGlobals "entry_before" = some (some (.ref f6))) (l6 : K.lookup f6 = some ⟨oc6, od6, .func (PySem.W.fnOf "entry_before" "entry_before" (defArgs st_entry_before) (defBody st_entry_before) (defScope st_entry_before) .none kV6 dc6 pm6 an6 cd6 ct6), sl6⟩) (c6 : PySem.W.codeIn K cd6 "entry_before" = true) (k6 : PySem.W.keepIn K (.ref f6) = true)
    (a7 : PySem.W.nsIn K mainGlobals "behind_in_ring" = some (some (.ref f7))) (l7 : K.lookup f7 = some ⟨oc7, od7, .func (PySem.W.fnOf "behind_in_ring" "behind_in_ring" (defArgs st_behind_in_ring) (defBody st_behind_in_ring) (defScope st_behind_in_ring) .none kV7 dc7 pm7 an7 cd7 ct7), sl7⟩) (c7 : PySem.W.codeIn K cd7 "behind_in_ring" = true) (k7 : PySem.W.keepIn K (.ref f7) = true)
    (a8 : PySem.W.nsIn K mainGlobals "lifted" = some (some (.ref f8))) (l8 : K.lookup f8 = some ⟨oc8, od8, .func (PySem.W.fnOf "lifted" "lifted" (defArgs st_lifted) (defBody st_lifted) (defScope st_lifted) .none kV8 dc8 pm8 an8 cd8 ct8), sl8⟩) (c8 : PySem.W.codeIn K cd8 "lifted" = true) (k8 : PySem.W.keepIn K (.ref f8) = true)
    (a9 : PySem.W.nsIn K mainGlobals "lift" = some (some (.ref f9))) (l9 : K.lookup f9 = some ⟨oc9, od9, .func (PySem.W.fnOf "lift" "lift" (defArgs st_lift) (defBody st_lift) (defScope st_lift) .none kV9 dc9 pm9 an9 cd9 ct9), sl9⟩) (c9 : PySem.W.codeIn K cd9 "lift" = true) (k9 : PySem.W.keepIn K (.ref f9) = true)
    (a10 : PySem.W.nsIn K mainGlobals "entry_behind" = some (some (.ref f10))) (l10 : K.lookup f10 = some ⟨oc10, od10, .func (PySem.W.fnOf "entry_behind" "entry_behind" (defArgs st_entry_behind) (defBody st_entry_behind) (defScope st_entry_behind) .none kV10 dc10 pm10 an10 cd10 ct10), sl10⟩) (c10 : PySem.W.codeIn K cd10 "entry_behind" = true) (k10 : PySem.W.keepIn K (.ref f10) = true)
    (a11 : PySem.W.nsIn K mainGlobals "bells_needed" = some (some (.ref f11))) (l11 : K.lookup f11 = some ⟨oc11, od11, .func (PySem.W.fnOf "bells_needed" "bells_needed" (defArgs st_bells_needed) (defBody st_bells_needed) (defScope st_bells_needed) .none kV11 dc11 pm11 an11 cd11 ct11), sl11⟩) (c11 : PySem.W.codeIn K cd11 "bells_needed" = true) (k11 : PySem.W.keepIn K (.ref f11) = true)
    (a12 : PySem.W.nsIn K mainGlobals "never_falls" = some (some (.ref f12))) (l12 : K.lookup f12 = some ⟨oc12, od12, .func (PySem.W.fnOf "never_falls" "never_falls" (defArgs st_never_falls) (defBody st_never_falls) (defScope st_never_falls) .none kV12 dc12 pm12 an12 cd12 ct12), sl12⟩) (c12 : PySem.W.codeIn K cd12 "never_falls" = true) (k12 : PySem.W.keepIn K (.ref f12) = true)
    (q12 : cd12 = .ref y12) (r12 : K.lookup y12 = some ⟨e12, dd12, .fields vs12, ws12⟩) (s12 : (vs12[11]? : Option Value) = some (.ref p12)) (u12 : K.lookup p12 = none) (v12 : ((recsOf q).any fun e => e.name == ("never_falls" : Str)) = true)
    (a13 : PySem.W.nsIn K mainGlobals "is_lift" = some (some (.ref f13))) (l13 : K.lookup f13 = some ⟨oc13, od13, .func (PySem.W.fnOf "is_lift" "is_lift" (defArgs st_is_lift) (defBody st_is_lift) (defScope st_is_lift) .none kV13 dc13 pm13 an13 cd13 ct13), sl13⟩) (c13 : PySem.W.codeIn K cd13 "is_lift" = true) (k13 : PySem.W.keepIn K (.ref f13) = true)
    (q13 : cd13 = .ref y13) (r13 : K.lookup y13 = some ⟨e13, dd13, .fields vs13, ws13⟩) (s13 : (vs13[11]? : Option Value) = some (.ref p13)) (u13 : K.lookup p13 = none) (v13 : ((recsOf q).any fun e => e.name == ("is_lift" : Str)) = true)
    (a14 : PySem.W.nsIn K mainGlobals "check_lift" = some (some (.ref f14))) (l14 : K.lookup f14 = some ⟨oc14, od14, .func (PySem.W.fnOf "check_lift" "check_lift" (defArgs st_check_lift) (defBody st_check_lift) (defScope st_check_lift) .none kV14 dc14 pm14 an14 cd14 ct14), sl14⟩) (c14 : PySem.W.codeIn K cd14 "check_lift" = true) (k14 : PySem.W.keepIn K (.ref f14) = true)
    (a15 : PySem.W.nsIn K mainGlobals "comes" = some (some (.ref f15))) (l15 : K.lookup f15 = some ⟨oc15, od15, .func (PySem.W.fnOf "comes" "comes" (defArgs st_comes) (defBody st_comes) (defScope st_comes) .none kV15 dc15 pm15 an15 cd15 ct15), sl15⟩) (c15 : PySem.W.codeIn K cd15 "comes" = true) (k15 : PySem.W.keepIn K (.ref f15) = true)
    (q15 : cd15 = .ref y15) (r15 : K.lookup y15 = some ⟨e15, dd15, .fields vs15, ws15⟩) (s15 : (vs15[11]? : Option Value) = some (.ref p15)) (u15 : K.lookup p15 = none) (v15 : ((recsOf q).any fun e => e.name == ("comes" : Str)) = true)
    (a16 : PySem.W.nsIn K mainGlobals "lift_count" = some (some (.ref f16))) (l16 : K.lookup f16 = some ⟨oc16, od16, .func (PySem.W.fnOf "lift_count" "lift_count" (defArgs st_lift_count) (defBody st_lift_count) (defScope st_lift_count) .none kV16 dc16 pm16 an16 cd16 ct16), sl16⟩) (c16 : PySem.W.codeIn K cd16 "lift_count" = true) (k16 : PySem.W.keepIn K (.ref f16) = true)
    (a17 : PySem.W.nsIn K mainGlobals "check_pair" = some (some (.ref f17))) (l17 : K.lookup f17 = some ⟨oc17, od17, .func (PySem.W.fnOf "check_pair" "check_pair" (defArgs st_check_pair) (defBody st_check_pair) (defScope st_check_pair) .none kV17 dc17 pm17 an17 cd17 ct17), sl17⟩) (c17 : PySem.W.codeIn K cd17 "check_pair" = true) (k17 : PySem.W.keepIn K (.ref f17) = true)
    (a18 : PySem.W.nsIn K mainGlobals "lift_after" = some (some (.ref f18))) (l18 : K.lookup f18 = some ⟨oc18, od18, .func (PySem.W.fnOf "lift_after" "lift_after" (defArgs st_lift_after) (defBody st_lift_after) (defScope st_lift_after) .none kV18 dc18 pm18 an18 cd18 ct18), sl18⟩) (c18 : PySem.W.codeIn K cd18 "lift_after" = true) (k18 : PySem.W.keepIn K (.ref f18) = true)
    (a19 : PySem.W.nsIn K mainGlobals "check_two_ring_bells" = some (some (.ref f19))) (l19 : K.lookup f19 = some ⟨oc19, od19, .func (PySem.W.fnOf "check_two_ring_bells" "check_two_ring_bells" (defArgs st_check_two_ring_bells) (defBody st_check_two_ring_bells) (defScope st_check_two_ring_bells) .none kV19 dc19 pm19 an19 cd19 ct19), sl19⟩) (c19 : PySem.W.codeIn K cd19 "check_two_ring_bells" = true) (k19 : PySem.W.keepIn K (.ref f19) = true)
    (a20 : PySem.W.nsIn K mainGlobals "same_in_ring" = some (some (.ref f20))) (l20 : K.lookup f20 = some ⟨oc20, od20, .func (PySem.W.fnOf "same_in_ring" "same_in_ring" (defArgs st_same_in_ring) (defBody st_same_in_ring) (defScope st_same_in_ring) .none kV20 dc20 pm20 an20 cd20 ct20), sl20⟩) (c20 : PySem.W.codeIn K cd20 "same_in_ring" = true) (k20 : PySem.W.keepIn K (.ref f20) = true)
    (a21 : PySem.W.nsIn K mainGlobals "people_of" = some (some (.ref f21))) (l21 : K.lookup f21 = some ⟨oc21, od21, .func (PySem.W.fnOf "people_of" "people_of" (defArgs st_people_of) (defBody st_people_of) (defScope st_people_of) .none kV21 dc21 pm21 an21 cd21 ct21), sl21⟩) (c21 : PySem.W.codeIn K cd21 "people_of" = true) (k21 : PySem.W.keepIn K (.ref f21) = true)
    (a22 : PySem.W.nsIn K mainGlobals "same_signs" = some (some (.ref f22))) (l22 : K.lookup f22 = some ⟨oc22, od22, .func (PySem.W.fnOf "same_signs" "same_signs" (defArgs st_same_signs) (defBody st_same_signs) (defScope st_same_signs) .none kV22 dc22 pm22 an22 cd22 ct22), sl22⟩) (c22 : PySem.W.codeIn K cd22 "same_signs" = true) (k22 : PySem.W.keepIn K (.ref f22) = true)
    (a23 : PySem.W.nsIn K mainGlobals "turns_back" = some (some (.ref f23))) (l23 : K.lookup f23 = some ⟨oc23, od23, .func (PySem.W.fnOf "turns_back" "turns_back" (defArgs st_turns_back) (defBody st_turns_back) (defScope st_turns_back) .none kV23 dc23 pm23 an23 cd23 ct23), sl23⟩) (c23 : PySem.W.codeIn K cd23 "turns_back" = true) (k23 : PySem.W.keepIn K (.ref f23) = true)
    (a24 : PySem.W.nsIn K mainGlobals "ring_winner" = some (some (.ref f24))) (l24 : K.lookup f24 = some ⟨oc24, od24, .func (PySem.W.fnOf "ring_winner" "ring_winner" (defArgs st_ring_winner) (defBody st_ring_winner) (defScope st_ring_winner) .none kV24 dc24 pm24 an24 cd24 ct24), sl24⟩) (c24 : PySem.W.codeIn K cd24 "ring_winner" = true) (k24 : PySem.W.keepIn K (.ref f24) = true)
    (a25 : PySem.W.nsIn K mainGlobals "_law_taken" = some (some (.ref f25))) (l25 : K.lookup f25 = some ⟨oc25, od25, .func (PySem.W.fnOf "_law_taken" "_law_taken" (defArgs st_law_taken) (defBody st_law_taken) (defScope st_law_taken) .none kV25 dc25 pm25 an25 cd25 ct25), sl25⟩) (c25 : PySem.W.codeIn K cd25 "_law_taken" = true) (k25 : PySem.W.keepIn K (.ref f25) = true)
    (a26 : PySem.W.nsIn K mainGlobals "_law_ring" = some (some (.ref f26))) (l26 : K.lookup f26 = some ⟨oc26, od26, .func (PySem.W.fnOf "_law_ring" "_law_ring" (defArgs st_law_ring) (defBody st_law_ring) (defScope st_law_ring) .none kV26 dc26 pm26 an26 cd26 ct26), sl26⟩) (c26 : PySem.W.codeIn K cd26 "_law_ring" = true) (k26 : PySem.W.keepIn K (.ref f26) = true)
    (a27 : PySem.W.nsIn K mainGlobals "law" = some (some (.ref f27))) (l27 : K.lookup f27 = some ⟨oc27, od27, .func (PySem.W.fnOf "law" "law" (defArgs st_law) (defBody st_law) (defScope st_law) .none kV27 dc27 pm27 an27 cd27 ct27), sl27⟩) (c27 : PySem.W.codeIn K cd27 "law" = true) (k27 : PySem.W.keepIn K (.ref f27) = true)
    (z_all : PySem.W.nsIn K mainGlobals "all" = some none)
    (z_any : PySem.W.nsIn K mainGlobals "any" = some none)
    (z_bool : PySem.W.nsIn K mainGlobals "bool" = some none)
    (z_divmod : PySem.W.nsIn K mainGlobals "divmod" = some none)
    (z_enumerate : PySem.W.nsIn K mainGlobals "enumerate" = some none)
    (z_int : PySem.W.nsIn K mainGlobals "int" = some none)
    (z_isinstance : PySem.W.nsIn K mainGlobals "isinstance" = some none)
    (z_len : PySem.W.nsIn K mainGlobals "len" = some none)
    (z_list : PySem.W.nsIn K mainGlobals "list" = some none)
    (z_max : PySem.W.nsIn K mainGlobals "max" = some none)
    (z_min : PySem.W.nsIn K mainGlobals "min" = some none)
    (z_range : PySem.W.nsIn K mainGlobals "range" = some none)
    (z_set : PySem.W.nsIn K mainGlobals "set" = some none)
    (z_str : PySem.W.nsIn K mainGlobals "str" = some none)
    (z_tuple : PySem.W.nsIn K mainGlobals "tuple" = some none)
    (z_zip : PySem.W.nsIn K mainGlobals "zip" = some none) :
    LamX.LawAtS l w K CX0 13 63 "script" mg fa h := by
  have e := hfa.symm.trans (PySem.W.mg_of X G a27)
  cases e
  subst q3
  obtain ⟨tA3, tB3⟩ := tab "is_row" f3 y3 p3 _ _ _ _ _ _ v3 a3 l3 rfl rfl r3 s3
  subst q12
  obtain ⟨tA12, tB12⟩ := tab "never_falls" f12 y12 p12 _ _ _ _ _ _ v12 a12 l12 rfl rfl r12 s12
  subst q13
  obtain ⟨tA13, tB13⟩ := tab "is_lift" f13 y13 p13 _ _ _ _ _ _ v13 a13 l13 rfl rfl r13 s13
  subst q15
  obtain ⟨tA15, tB15⟩ := tab "comes" f15 y15 p15 _ _ _ _ _ _ v15 a15 l15 rfl rfl r15 s15
  have F0 : FunC K "is_number" "is_number" st_is_number f0 _ _ := ⟨⟨oc0, od0, kV0, dc0, pm0, an0, ct0, sl0, rfl, l0, c0⟩, k0⟩
  have b0 := F0.fun.binds (ps := ["value"]) fun _ _ _ _ _ _ us hl => match us, hl with | [_], _ => rfl
  have F1 : FunC K "is_whole" "is_whole" st_is_whole f1 _ _ := ⟨⟨oc1, od1, kV1, dc1, pm1, an1, ct1, sl1, rfl, l1, c1⟩, k1⟩
  have b1 := F1.fun.binds (ps := ["value", "least", "most"]) fun _ _ _ _ _ _ us hl => match us, hl with | [_, _, _], _ => rfl
  have F2 : FunC K "check_size" "check_size" st_check_size f2 _ _ := ⟨⟨oc2, od2, kV2, dc2, pm2, an2, ct2, sl2, rfl, l2, c2⟩, k2⟩
  have b2 := F2.fun.binds (ps := ["size"]) fun _ _ _ _ _ _ us hl => match us, hl with | [_], _ => rfl
  have F3 : FunC K "is_row" "is_row" st_is_row f3 _ _ := ⟨⟨oc3, od3, kV3, dc3, pm3, an3, ct3, sl3, rfl, l3, c3⟩, k3⟩
  have b3 := F3.fun.binds (ps := ["value", "fewest", "longest", "least", "most"]) fun _ _ _ _ _ _ us hl => match us, hl with | [_, _, _, _, _], _ => rfl
  have F4 : FunC K "check_ring_bells" "check_ring_bells" st_check_ring_bells f4 _ _ := ⟨⟨oc4, od4, kV4, dc4, pm4, an4, ct4, sl4, rfl, l4, c4⟩, k4⟩
  have b4 := F4.fun.binds (ps := ["size", "bells"]) fun _ _ _ _ _ _ us hl => match us, hl with | [_, _], _ => rfl
  have F5 : FunC K "at_first" "at_first" st_at_first f5 _ _ := ⟨⟨oc5, od5, kV5, dc5, pm5, an5, ct5, sl5, rfl, l5, c5⟩, k5⟩
  have b5 := F5.fun.binds (ps := ["size"]) fun _ _ _ _ _ _ us hl => match us, hl with | [_], _ => rfl
  have F6 : FunC K "entry_before" "entry_before" st_entry_before f6 _ _ := ⟨⟨oc6, od6, kV6, dc6, pm6, an6, ct6, sl6, rfl, l6, c6⟩, k6⟩
  have b6 := F6.fun.binds (ps := ["row", "place"]) fun _ _ _ _ _ _ us hl => match us, hl with | [_, _], _ => rfl
  have F7 : FunC K "behind_in_ring" "behind_in_ring" st_behind_in_ring f7 _ _ := ⟨⟨oc7, od7, kV7, dc7, pm7, an7, ct7, sl7, rfl, l7, c7⟩, k7⟩
  have b7 := F7.fun.binds (ps := ["row", "bell"]) fun _ _ _ _ _ _ us hl => match us, hl with | [_, _], _ => rfl
  have F8 : FunC K "lifted" "lifted" st_lifted f8 _ _ := ⟨⟨oc8, od8, kV8, dc8, pm8, an8, ct8, sl8, rfl, l8, c8⟩, k8⟩
  have b8 := F8.fun.binds (ps := ["size", "bells"]) fun _ _ _ _ _ _ us hl => match us, hl with | [_, _], _ => rfl
  have F9 : FunC K "lift" "lift" st_lift f9 _ _ := ⟨⟨oc9, od9, kV9, dc9, pm9, an9, ct9, sl9, rfl, l9, c9⟩, k9⟩
  have b9 := F9.fun.binds (ps := ["size", "bells"]) fun _ _ _ _ _ _ us hl => match us, hl with | [_, _], _ => rfl
  have F10 : FunC K "entry_behind" "entry_behind" st_entry_behind f10 _ _ := ⟨⟨oc10, od10, kV10, dc10, pm10, an10, ct10, sl10, rfl, l10, c10⟩, k10⟩
  have b10 := F10.fun.binds (ps := ["row", "place"]) fun _ _ _ _ _ _ us hl => match us, hl with | [_, _], _ => rfl
  have F11 : FunC K "bells_needed" "bells_needed" st_bells_needed f11 _ _ := ⟨⟨oc11, od11, kV11, dc11, pm11, an11, ct11, sl11, rfl, l11, c11⟩, k11⟩
  have b11 := F11.fun.binds (ps := ["row"]) fun _ _ _ _ _ _ us hl => match us, hl with | [_], _ => rfl
  have F12 : FunC K "never_falls" "never_falls" st_never_falls f12 _ _ := ⟨⟨oc12, od12, kV12, dc12, pm12, an12, ct12, sl12, rfl, l12, c12⟩, k12⟩
  have b12 := F12.fun.binds (ps := ["row"]) fun _ _ _ _ _ _ us hl => match us, hl with | [_], _ => rfl
  have F13 : FunC K "is_lift" "is_lift" st_is_lift f13 _ _ := ⟨⟨oc13, od13, kV13, dc13, pm13, an13, ct13, sl13, rfl, l13, c13⟩, k13⟩
  have b13 := F13.fun.binds (ps := ["value"]) fun _ _ _ _ _ _ us hl => match us, hl with | [_], _ => rfl
  have F14 : FunC K "check_lift" "check_lift" st_check_lift f14 _ _ := ⟨⟨oc14, od14, kV14, dc14, pm14, an14, ct14, sl14, rfl, l14, c14⟩, k14⟩
  have b14 := F14.fun.binds (ps := ["lift"]) fun _ _ _ _ _ _ us hl => match us, hl with | [_], _ => rfl
  have F15 : FunC K "comes" "comes" st_comes f15 _ _ := ⟨⟨oc15, od15, kV15, dc15, pm15, an15, ct15, sl15, rfl, l15, c15⟩, k15⟩
  have b15 := F15.fun.binds (ps := ["row"]) fun _ _ _ _ _ _ us hl => match us, hl with | [_], _ => rfl
  have F16 : FunC K "lift_count" "lift_count" st_lift_count f16 _ _ := ⟨⟨oc16, od16, kV16, dc16, pm16, an16, ct16, sl16, rfl, l16, c16⟩, k16⟩
  have b16 := F16.fun.binds (ps := ["lift"]) fun _ _ _ _ _ _ us hl => match us, hl with | [_], _ => rfl
  have F17 : FunC K "check_pair" "check_pair" st_check_pair f17 _ _ := ⟨⟨oc17, od17, kV17, dc17, pm17, an17, ct17, sl17, rfl, l17, c17⟩, k17⟩
  have b17 := F17.fun.binds (ps := ["one", "other"]) fun _ _ _ _ _ _ us hl => match us, hl with | [_, _], _ => rfl
  have F18 : FunC K "lift_after" "lift_after" st_lift_after f18 _ _ := ⟨⟨oc18, od18, kV18, dc18, pm18, an18, ct18, sl18, rfl, l18, c18⟩, k18⟩
  have b18 := F18.fun.binds (ps := ["one", "other"]) fun _ _ _ _ _ _ us hl => match us, hl with | [_, _], _ => rfl
  have F19 : FunC K "check_two_ring_bells" "check_two_ring_bells" st_check_two_ring_bells f19 _ _ := ⟨⟨oc19, od19, kV19, dc19, pm19, an19, ct19, sl19, rfl, l19, c19⟩, k19⟩
  have b19 := F19.fun.binds (ps := ["size", "one", "other"]) fun _ _ _ _ _ _ us hl => match us, hl with | [_, _, _], _ => rfl
  have F20 : FunC K "same_in_ring" "same_in_ring" st_same_in_ring f20 _ _ := ⟨⟨oc20, od20, kV20, dc20, pm20, an20, ct20, sl20, rfl, l20, c20⟩, k20⟩
  have b20 := F20.fun.binds (ps := ["size", "one", "other"]) fun _ _ _ _ _ _ us hl => match us, hl with | [_, _, _], _ => rfl
  have F21 : FunC K "people_of" "people_of" st_people_of f21 _ _ := ⟨⟨oc21, od21, kV21, dc21, pm21, an21, ct21, sl21, rfl, l21, c21⟩, k21⟩
  have b21 := F21.fun.binds (ps := ["row"]) fun _ _ _ _ _ _ us hl => match us, hl with | [_], _ => rfl
  have F22 : FunC K "same_signs" "same_signs" st_same_signs f22 _ _ := ⟨⟨oc22, od22, kV22, dc22, pm22, an22, ct22, sl22, rfl, l22, c22⟩, k22⟩
  have b22 := F22.fun.binds (ps := ["size", "one", "other"]) fun _ _ _ _ _ _ us hl => match us, hl with | [_, _, _], _ => rfl
  have F23 : FunC K "turns_back" "turns_back" st_turns_back f23 _ _ := ⟨⟨oc23, od23, kV23, dc23, pm23, an23, ct23, sl23, rfl, l23, c23⟩, k23⟩
  have b23 := F23.fun.binds (ps := ["size", "bells"]) fun _ _ _ _ _ _ us hl => match us, hl with | [_, _], _ => rfl
  have F24 : FunC K "ring_winner" "ring_winner" st_ring_winner f24 _ _ := ⟨⟨oc24, od24, kV24, dc24, pm24, an24, ct24, sl24, rfl, l24, c24⟩, k24⟩
  have b24 := F24.fun.binds (ps := ["size", "bells"]) fun _ _ _ _ _ _ us hl => match us, hl with | [_, _], _ => rfl
  have F25 : FunC K "_law_taken" "_law_taken" st_law_taken f25 _ _ := ⟨⟨oc25, od25, kV25, dc25, pm25, an25, ct25, sl25, rfl, l25, c25⟩, k25⟩
  have b25 := F25.fun.binds (ps := ["row", "many"]) fun _ _ _ _ _ _ us hl => match us, hl with | [_, _], _ => rfl
  have F26 : FunC K "_law_ring" "_law_ring" st_law_ring f26 _ _ := ⟨⟨oc26, od26, kV26, dc26, pm26, an26, ct26, sl26, rfl, l26, c26⟩, k26⟩
  have b26 := F26.fun.binds (ps := ["row", "size", "most"]) fun _ _ _ _ _ _ us hl => match us, hl with | [_, _, _], _ => rfl
  have F27 : FunC K "law" "law" st_law fa _ _ := ⟨⟨oc27, od27, kV27, dc27, pm27, an27, ct27, sl27, rfl, l27, c27⟩, k27⟩
  have b27 := F27.fun.binds (ps := ["script"]) fun _ _ _ _ _ _ us hl => match us, hl with | [_], _ => rfl
  refine ⟨_, [(y3, p3), (y12, p12), (y13, p13), (y15, p15)], FnD K ([(y3, p3), (y12, p12), (y13, p13), (y15, p15)].map (·.2)) 1 [] fn_law, ?_, ?_, ?_, fun s v => .of_eq rfl, fun H a ns hl _ hT hS => law_sp law_all hl hT hS, fun base hb1 hb2 hb3 => ok_law (P := l.prog) (w := w) (K := K) (mg := mg) (base := base) {
      T := [(y3, p3), (y12, p12), (y13, p13), (y15, p15)].map (·.2)
      a_is_number := f0, d_is_number := _, c_is_number := _, F_is_number := F0, m_is_number := PySem.W.mg_of X G a0, b_is_number := b0
      a_is_whole := f1, d_is_whole := _, c_is_whole := _, F_is_whole := F1, m_is_whole := PySem.W.mg_of X G a1, b_is_whole := b1
      a_check_size := f2, d_check_size := _, c_check_size := _, F_check_size := F2, m_check_size := PySem.W.mg_of X G a2, b_check_size := b2
      a_is_row := f3, d_is_row := _, c_is_row := _, F_is_row := F3, m_is_row := PySem.W.mg_of X G a3, b_is_row := b3
      k_is_row := y3, P_is_row := p3, e_is_row := rfl, TB_is_row := tab_conv (hb3 (y3, p3) (by simp)), i_is_row := by simp
      a_check_ring_bells := f4, d_check_ring_bells := _, c_check_ring_bells := _, F_check_ring_bells := F4, m_check_ring_bells := PySem.W.mg_of X G a4, b_check_ring_bells := b4
      a_at_first := f5, d_at_first := _, c_at_first := _, F_at_first := F5, m_at_first := PySem.W.mg_of X G a5, b_at_first := b5
      a_entry_before := f6, d_entry_before := _, c_entry_before := _, F_entry_before := F6, m_entry_before := PySem.W.mg_of X G a6, b_entry_before := b6
      a_behind_in_ring := f7, d_behind_in_ring := _, c_behind_in_ring := _, F_behind_in_ring := F7, m_behind_in_ring := PySem.W.mg_of X G a7, b_behind_in_ring := b7
      a_lifted := f8, d_lifted := _, c_lifted := _, F_lifted := F8, m_lifted := PySem.W.mg_of X G a8, b_lifted := b8
      a_lift := f9, d_lift := _, c_lift := _, F_lift := F9, m_lift := PySem.W.mg_of X G a9, b_lift := b9
      a_entry_behind := f10, d_entry_behind := _, c_entry_behind := _, F_entry_behind := F10, m_entry_behind := PySem.W.mg_of X G a10, b_entry_behind := b10
      a_bells_needed := f11, d_bells_needed := _, c_bells_needed := _, F_bells_needed := F11, m_bells_needed := PySem.W.mg_of X G a11, b_bells_needed := b11
      a_never_falls := f12, d_never_falls := _, c_never_falls := _, F_never_falls := F12, m_never_falls := PySem.W.mg_of X G a12, b_never_falls := b12
      k_never_falls := y12, P_never_falls := p12, e_never_falls := rfl, TB_never_falls := tab_conv (hb3 (y12, p12) (by simp)), i_never_falls := by simp
      a_is_lift := f13, d_is_lift := _, c_is_lift := _, F_is_lift := F13, m_is_lift := PySem.W.mg_of X G a13, b_is_lift := b13
      k_is_lift := y13, P_is_lift := p13, e_is_lift := rfl, TB_is_lift := tab_conv (hb3 (y13, p13) (by simp)), i_is_lift := by simp
      a_check_lift := f14, d_check_lift := _, c_check_lift := _, F_check_lift := F14, m_check_lift := PySem.W.mg_of X G a14, b_check_lift := b14
      a_comes := f15, d_comes := _, c_comes := _, F_comes := F15, m_comes := PySem.W.mg_of X G a15, b_comes := b15
      k_comes := y15, P_comes := p15, e_comes := rfl, TB_comes := tab_conv (hb3 (y15, p15) (by simp)), i_comes := by simp
      a_lift_count := f16, d_lift_count := _, c_lift_count := _, F_lift_count := F16, m_lift_count := PySem.W.mg_of X G a16, b_lift_count := b16
      a_check_pair := f17, d_check_pair := _, c_check_pair := _, F_check_pair := F17, m_check_pair := PySem.W.mg_of X G a17, b_check_pair := b17
      a_lift_after := f18, d_lift_after := _, c_lift_after := _, F_lift_after := F18, m_lift_after := PySem.W.mg_of X G a18, b_lift_after := b18
      a_check_two_ring_bells := f19, d_check_two_ring_bells := _, c_check_two_ring_bells := _, F_check_two_ring_bells := F19, m_check_two_ring_bells := PySem.W.mg_of X G a19, b_check_two_ring_bells := b19
      a_same_in_ring := f20, d_same_in_ring := _, c_same_in_ring := _, F_same_in_ring := F20, m_same_in_ring := PySem.W.mg_of X G a20, b_same_in_ring := b20
      a_people_of := f21, d_people_of := _, c_people_of := _, F_people_of := F21, m_people_of := PySem.W.mg_of X G a21, b_people_of := b21
      a_same_signs := f22, d_same_signs := _, c_same_signs := _, F_same_signs := F22, m_same_signs := PySem.W.mg_of X G a22, b_same_signs := b22
      a_turns_back := f23, d_turns_back := _, c_turns_back := _, F_turns_back := F23, m_turns_back := PySem.W.mg_of X G a23, b_turns_back := b23
      a_ring_winner := f24, d_ring_winner := _, c_ring_winner := _, F_ring_winner := F24, m_ring_winner := PySem.W.mg_of X G a24, b_ring_winner := b24
      a_law_taken := f25, d_law_taken := _, c_law_taken := _, F_law_taken := F25, m_law_taken := PySem.W.mg_of X G a25, b_law_taken := b25
      a_law_ring := f26, d_law_ring := _, c_law_ring := _, F_law_ring := F26, m_law_ring := PySem.W.mg_of X G a26, b_law_ring := b26
      a_law := fa, d_law := _, c_law := _, F_law := F27, m_law := PySem.W.mg_of X G a27, b_law := b27
      z_all := PySem.W.mg_none_of X G z_all
      z_any := PySem.W.mg_none_of X G z_any
      z_bool := PySem.W.mg_none_of X G z_bool
      z_divmod := PySem.W.mg_none_of X G z_divmod
      z_enumerate := PySem.W.mg_none_of X G z_enumerate
      z_int := PySem.W.mg_none_of X G z_int
      z_isinstance := PySem.W.mg_none_of X G z_isinstance
      z_len := PySem.W.mg_none_of X G z_len
      z_list := PySem.W.mg_none_of X G z_list
      z_max := PySem.W.mg_none_of X G z_max
      z_min := PySem.W.mg_none_of X G z_min
      z_range := PySem.W.mg_none_of X G z_range
      z_set := PySem.W.mg_none_of X G z_set
      z_str := PySem.W.mg_none_of X G z_str
      z_tuple := PySem.W.mg_none_of X G z_tuple
      z_zip := PySem.W.mg_none_of X G z_zip
    }⟩
  · intro p hp
    simp only [List.mem_cons, List.not_mem_nil, or_false] at hp
    rcases hp with rfl | rfl | rfl | rfl
    · exact tA3
    · exact tA12
    · exact tA13
    · exact tA15
  · intro p hp
    simp only [List.mem_cons, List.not_mem_nil, or_false] at hp
    rcases hp with rfl | rfl | rfl | rfl
    · exact u3
    · exact u12
    · exact u13
    · exact u15
  · intro p hp
    simp only [List.mem_cons, List.not_mem_nil, or_false] at hp
    rcases hp with rfl | rfl | rfl | rfl
    · exact tB3
    · exact tB12
    · exact tB13
    · exact tB15
end BC
open PySem PySem.W PyProof.Rows
set_option maxRecDepth 100000 in
set_option maxHeartbeats 0 in
theorem PySem.Challenge.cw_bellcopies_k72_across_turned_rings_holds : PySem.Challenge.rw_bellcopies_k72_across_turned_rings.Holds := by
  w_on; o_law; k_head; (case hw => w_witness2)
  k_fill
  refine BC.walk_D (l := PySem.Challenge.rw_bellcopies_k72_across_turned_rings) (n := 63) (k := 13) (x := "script") rfl (by decide) rfl ⟨rfl, by decide, by decide⟩ (fun w h Y => PySem.W.kIn_of Y) ?F
  case F =>
    intro w mg fa h _ KX G hmg tab
    refine' BC.all_mk KX G hmg tab ?a0 ?l0 ?c0 ?k0 ?a1 ?l1 ?c1 ?k1 ?a2 ?l2 ?c2 ?k2 ?a3 ?l3 ?c3 ?k3 ?q3 ?r3 ?s3 ?u3 ?v3 ?a4 ?l4 ?c4 ?k4 ?a5 ?l5 ?c5 ?k5 ?a6 ?l6 ?c6 ?k6 ?a7 ?l7 ?c7 ?k7 ?a8 ?l8 ?c8 ?k8 ?a9 ?l9 ?c9 ?k9 ?a10 ?l10 ?c10 ?k10 ?a11 ?l11 ?c11 ?k11 ?a12 ?l12 ?c12 ?k12 ?q12 ?r12 ?s12 ?u12 ?v12 ?a13 ?l13 ?c13 ?k13 ?q13 ?r13 ?s13 ?u13 ?v13 ?a14 ?l14 ?c14 ?k14 ?a15 ?l15 ?c15 ?k15 ?q15 ?r15 ?s15 ?u15 ?v15 ?a16 ?l16 ?c16 ?k16 ?a17 ?l17 ?c17 ?k17 ?a18 ?l18 ?c18 ?k18 ?a19 ?l19 ?c19 ?k19 ?a20 ?l20 ?c20 ?k20 ?a21 ?l21 ?c21 ?k21 ?a22 ?l22 ?c22 ?k22 ?a23 ?l23 ?c23 ?k23 ?a24 ?l24 ?c24 ?k24 ?a25 ?l25 ?c25 ?k25 ?a26 ?l26 ?c26 ?k26 ?a27 ?l27 ?c27 ?k27 ?z_all ?z_any ?z_bool ?z_divmod ?z_enumerate ?z_int ?z_isinstance ?z_len ?z_list ?z_max ?z_min ?z_range ?z_set ?z_str ?z_tuple ?z_zip
    (case a0 => k_is)
    (case l0 => k_is)
    (case c0 => k_is)
    (case k0 => k_is)
    (case a1 => k_is)
    (case l1 => k_is)
    (case c1 => k_is)
    (case k1 => k_is)
    (case a2 => k_is)
    (case l2 => k_is)
    (case c2 => k_is)
    (case k2 => k_is)
    (case a3 => k_is)
    (case l3 => k_is)
    (case c3 => k_is)
    (case k3 => k_is)
    (case q3 => rfl)
    (case r3 => k_is)
    (case s3 => rfl)
    (case u3 => first | rfl | decide +kernel | kernel_rfl)
    (case v3 => first | rfl | decide +kernel)
    (case a4 => k_is)
    (case l4 => k_is)
    (case c4 => k_is)
    (case k4 => k_is)
    (case a5 => k_is)
    (case l5 => k_is)
    (case c5 => k_is)
    (case k5 => k_is)
    (case a6 => k_is)
    (case l6 => k_is)
    (case c6 => k_is)
    (case k6 => k_is)
    (case a7 => k_is)
    (case l7 => k_is)
    (case c7 => k_is)
    (case k7 => k_is)
    (case a8 => k_is)
    (case l8 => k_is)
    (case c8 => k_is)
    (case k8 => k_is)
    (case a9 => k_is)
    (case l9 => k_is)
    (case c9 => k_is)
    (case k9 => k_is)
    (case a10 => k_is)
    (case l10 => k_is)
    (case c10 => k_is)
    (case k10 => k_is)
    (case a11 => k_is)
    (case l11 => k_is)
    (case c11 => k_is)
    (case k11 => k_is)
    (case a12 => k_is)
    (case l12 => k_is)
    (case c12 => k_is)
    (case k12 => k_is)
    (case q12 => rfl)
    (case r12 => k_is)
    (case s12 => rfl)
    (case u12 => first | rfl | decide +kernel | kernel_rfl)
    (case v12 => first | rfl | decide +kernel)
    (case a13 => k_is)
    (case l13 => k_is)
    (case c13 => k_is)
    (case k13 => k_is)
    (case q13 => rfl)
    (case r13 => k_is)
    (case s13 => rfl)
    (case u13 => first | rfl | decide +kernel | kernel_rfl)
    (case v13 => first | rfl | decide +kernel)
    (case a14 => k_is)
    (case l14 => k_is)
    (case c14 => k_is)
    (case k14 => k_is)
    (case a15 => k_is)
    (case l15 => k_is)
    (case c15 => k_is)
    (case k15 => k_is)
    (case q15 => rfl)
    (case r15 => k_is)
    (case s15 => rfl)
    (case u15 => first | rfl | decide +kernel | kernel_rfl)
    (case v15 => first | rfl | decide +kernel)
    (case a16 => k_is)
    (case l16 => k_is)
    (case c16 => k_is)
    (case k16 => k_is)
    (case a17 => k_is)
    (case l17 => k_is)
    (case c17 => k_is)
    (case k17 => k_is)
    (case a18 => k_is)
    (case l18 => k_is)
    (case c18 => k_is)
    (case k18 => k_is)
    (case a19 => k_is)
    (case l19 => k_is)
    (case c19 => k_is)
    (case k19 => k_is)
    (case a20 => k_is)
    (case l20 => k_is)
    (case c20 => k_is)
    (case k20 => k_is)
    (case a21 => k_is)
    (case l21 => k_is)
    (case c21 => k_is)
    (case k21 => k_is)
    (case a22 => k_is)
    (case l22 => k_is)
    (case c22 => k_is)
    (case k22 => k_is)
    (case a23 => k_is)
    (case l23 => k_is)
    (case c23 => k_is)
    (case k23 => k_is)
    (case a24 => k_is)
    (case l24 => k_is)
    (case c24 => k_is)
    (case k24 => k_is)
    (case a25 => k_is)
    (case l25 => k_is)
    (case c25 => k_is)
    (case k25 => k_is)
    (case a26 => k_is)
    (case l26 => k_is)
    (case c26 => k_is)
    (case k26 => k_is)
    (case a27 => k_is)
    (case l27 => k_is)
    (case c27 => k_is)
    (case k27 => k_is)
    (case z_all => k_is)
    (case z_any => k_is)
    (case z_bool => k_is)
    (case z_divmod => k_is)
    (case z_enumerate => k_is)
    (case z_int => k_is)
    (case z_isinstance => k_is)
    (case z_len => k_is)
    (case z_list => k_is)
    (case z_max => k_is)
    (case z_min => k_is)
    (case z_range => k_is)
    (case z_set => k_is)
    (case z_str => k_is)
    (case z_tuple => k_is)
    (case z_zip => k_is)
