import PyProof.Rows.All
import Wide.All
import OpenK.AllK
import Wide.FinOn
import HandS.ForMost
import HandS.Walk
import HandS.Lambda
import HandS.IsInst
import HandS.Deep
import HandS.Wide
import HandS.TupAny
import HandS.TupMul
import HandS.Text
import HandS.RaiseMore
import HandS.Comp
import HandS.Conv
import HandS.Rev
import HandS.Property
import HandS.WordsExc
import PyProof.ReprLen
import HandS.ReplaceLit
import HandS.ReplaceDef
import HandS.Style
import HandS.NoneIn
import HandS.ReplaceList
import HandS.Gcd
import HandS.Star
import HandS.More
import HandS.Zip
import KE.GoesMore
import KE.GoesEnum
import KE.RegKIsAll
import HandS.SetFor
import PyProof.EqKinds
import PyProof.InstNe
import HandS.TupLe
import HandS.ClsMeth
import HandS.Strs
import HandS.MapSum
import HandS.TupLen
import HandS.TupSets
import HandS.DictTup
import KE.KDictCopyH
import HandS.DictComp
import KE.KDictPairs
import PyProof.FString3
import PyProof.Rows.StrBin
import HandS.FStr
import HandS.WideBits
import KE.KIntText
import HandS.IntHex
import KE.SortData
import HandS.DictEq
import KE.KDictWalk
import KE.KDictSum
import PySem.Challenge.RW_poleribbons_k42_tables_told
set_option Elab.async false
set_option linter.all false
set_option maxRecDepth 100000
/-! DL: a layer of data over the hand layer. Data are trees; lists that change are cells of a store. -/
namespace DL
open PySem PySem.Spec PyProof.Rows L2

/-- data: what a value is, without addresses; ref: a cell of the store; scr: the script -/
inductive Dat where
  | non | bl (b : Bool) | int (i : Int) | str (s : Str)
  | tup (ds : List Dat) | lst (ds : List Dat)
  | dct (kvs : List (Dat × Dat))
  | obj (C : Addr) (fs : List (Str × Dat))
  | ref (n : Nat)
  | scr (ns : List Int)
  | ktp (ds : List Dat)
  | dfK (kvs : List (Key × Dat)) | dfT (kvs : List (List Key × Dat))
/-- what a cell of the store holds -/
inductive Cell where
  | lst (ds : List Dat)
  | ins (C : Addr) (fs : List (Str × Dat))
  | dcK (kvs : List (Key × Dat))
  | dcT (kvs : List (List Key × Dat))
  | tab (q : Str)
abbrev Mu := Nat → Option Cell
def Mu.set (m : Mu) (n : Nat) (c : Cell) : Mu := fun k => if k = n then some c else m k
def Mu.del (m : Mu) (n : Nat) : Mu := fun k => if k = n then none else m k
theorem Mu.set_same (m : Mu) (n : Nat) (c : Cell) : (m.set n c) n = some c := by simp [Mu.set]
theorem Mu.set_ne (m : Mu) {n k : Nat} (c : Cell) (h : k ≠ n) : (m.set n c) k = m k := by simp [Mu.set, h]
theorem Mu.set_set (m : Mu) (n : Nat) (c d : Cell) : (m.set n c).set n d = m.set n d := by funext k; simp only [Mu.set]; split <;> rfl
theorem Mu.del_same (m : Mu) (n : Nat) : (m.del n) n = none := by simp [Mu.del]
theorem Mu.del_ne (m : Mu) {n k : Nat} (h : k ≠ n) : (m.del n) k = m k := by simp [Mu.del, h]
theorem Mu.set_del (m : Mu) (n : Nat) (c : Cell) (h : m n = none) : (m.set n c).del n = m := by
  funext k; simp only [Mu.set, Mu.del]; split
  · rename_i e; rw [e, h]
  · rfl

/-- a world: what is settled for good, where the cells stand, the heap -/
structure Wd where
  S : Addr → Prop
  io : Nat → Option Addr
  H : Hp

def datK : Key → Dat
  | .inl i => .int i
  | .inr x => .str x
def datT (ks : List Key) : Dat := .tup (ks.map datK)

/-- a tuple, a list of the module's own -/
def KTup (K : PySem.W.Frag) (a : Addr) (xs : List V) : Prop :=
  ∃ (o : Obj) (its : Array Value) (n : Nat), K.lookup a = some o ∧ o.cls = .type "tuple" ∧ o.data = .seq its n ∧ its.size ≤ sizeLine ∧ Vals xs its.toList
def KLst (K : PySem.W.Frag) (a : Addr) (xs : List V) : Prop :=
  ∃ (o : Obj) (its : Array Value) (n : Nat), K.lookup a = some o ∧ o.cls = .type "list" ∧ o.dict = none ∧ o.data = .seq its n ∧ its.size ≤ sizeLine ∧ Vals xs its.toList

mutual
inductive D (K : PySem.W.Frag) (W : Wd) : V → Dat → Prop
  | non : D K W .non .non
  | bl (b : Bool) : D K W (.bl b) (.bl b)
  | int (i : Int) : D K W (.int i) (.int i)
  | str (x : Str) : D K W (.str x) (.str x)
  | tup {a : Addr} {xs : List V} {ds : List Dat} : W.H a = some (.tup xs) → DAll K W xs ds → D K W (.ref a) (.tup ds)
  | ktup {a : Addr} {xs : List V} {ds : List Dat} : KTup K a xs → DAll K W xs ds → D K W (.ref a) (.ktp ds)
  | lst {a : Addr} {xs : List V} {ds : List Dat} : W.S a → W.H a = some (.lst xs) → DAll K W xs ds → D K W (.ref a) (.lst ds)
  | dctK {a : Addr} {kvs : List (Key × V)} {ds : List (Dat × Dat)} : W.S a → W.H a = some (.dK kvs) → kvs.map (fun p => datK p.1) = ds.map (·.1) → DAll K W (kvs.map (·.2)) (ds.map (·.2)) → D K W (.ref a) (.dct ds)
  | dctT {a : Addr} {kvs : List (List Key × V)} {ds : List (Dat × Dat)} : W.S a → W.H a = some (.dT kvs) → kvs.map (fun p => datT p.1) = ds.map (·.1) → DAll K W (kvs.map (·.2)) (ds.map (·.2)) → D K W (.ref a) (.dct ds)
  | obj {a C dx : Addr} {fs : List (Str × V)} {gs : List (Str × Dat)} : W.S a → W.H a = some (.ins C dx fs) → fs.map (·.1) = gs.map (·.1) → DAll K W (fs.map (·.2)) (gs.map (·.2)) → D K W (.ref a) (.obj C gs)
  | ref {a : Addr} {n : Nat} : W.io n = some a → D K W (.ref a) (.ref n)
  | dfK {a : Addr} {o : Obj} {kvs : List (Key × V)} {ds : List (Key × Dat)} : W.S a → W.H a = some (.frz o (.dK kvs)) → kvs.map (·.1) = ds.map (·.1) → DAll K W (kvs.map (·.2)) (ds.map (·.2)) → D K W (.ref a) (.dfK ds)
  | dfT {a : Addr} {o : Obj} {kvs : List (List Key × V)} {ds : List (List Key × Dat)} : W.S a → W.H a = some (.frz o (.dT kvs)) → kvs.map (·.1) = ds.map (·.1) → DAll K W (kvs.map (·.2)) (ds.map (·.2)) → D K W (.ref a) (.dfT ds)
  | scr {a : Addr} {o : Obj} {ns : List Int} : W.S a → W.H a = some (.frz o (.lst (ns.map V.int))) → D K W (.ref a) (.scr ns)
  | kscr {a : Addr} {ns : List Int} : KLst K a (ns.map V.int) → D K W (.ref a) (.scr ns)
inductive DAll (K : PySem.W.Frag) (W : Wd) : List V → List Dat → Prop
  | nil : DAll K W [] []
  | cons {v : V} {vs : List V} {d : Dat} {ds : List Dat} : D K W v d → DAll K W vs ds → DAll K W (v :: vs) (d :: ds)
end

/-- what a datum leans on stands as it stood -/
structure Up (W W' : Wd) : Prop where
  sS : ∀ a, W.S a → W'.S a
  sI : ∀ n a, W.io n = some a → W'.io n = some a
  kS : ∀ a o, W.S a → W.H a = some o → W'.H a = some o
  kT : ∀ a xs, W.H a = some (.tup xs) → W'.H a = some (.tup xs)
theorem Up.rd {W W' : Wd} (h : Up W W') {a : Addr} {u : HO} (s : W.S a) (r : Rd W.H a u) : Rd W'.H a u := by
  rcases r with r | ⟨o, r⟩
  · exact .inl (h.kS _ _ s r)
  · exact .inr ⟨o, h.kS _ _ s r⟩
section
variable {K : PySem.W.Frag} {W W' : Wd}
mutual
theorem D.up (h : Up W W') : ∀ {v : V} {d : Dat}, D K W v d → D K W' v d
  | _, _, .non => .non
  | _, _, .bl b => .bl b
  | _, _, .int i => .int i
  | _, _, .str x => .str x
  | _, _, .tup e a => .tup (h.kT _ _ e) (DAll.up h a)
  | _, _, .ktup t a => .ktup t (DAll.up h a)
  | _, _, .lst s e a => .lst (h.sS _ s) (h.kS _ _ s e) (DAll.up h a)
  | _, _, .dctK s e k a => .dctK (h.sS _ s) (h.kS _ _ s e) k (DAll.up h a)
  | _, _, .dctT s e k a => .dctT (h.sS _ s) (h.kS _ _ s e) k (DAll.up h a)
  | _, _, .dfK s e k a => .dfK (h.sS _ s) (h.kS _ _ s e) k (DAll.up h a)
  | _, _, .dfT s e k a => .dfT (h.sS _ s) (h.kS _ _ s e) k (DAll.up h a)
  | _, _, .obj s e k a => .obj (h.sS _ s) (h.kS _ _ s e) k (DAll.up h a)
  | _, _, .ref e => .ref (h.sI _ _ e)
  | _, _, .scr s e => .scr (h.sS _ s) (h.kS _ _ s e)
  | _, _, .kscr e => .kscr e
theorem DAll.up (h : Up W W') : ∀ {vs : List V} {ds : List Dat}, DAll K W vs ds → DAll K W' vs ds
  | _, _, .nil => .nil
  | _, _, .cons a b => .cons (D.up h a) (DAll.up h b)
end
theorem DAll.length : ∀ {vs : List V} {ds : List Dat}, DAll K W vs ds → vs.length = ds.length
  | _, _, .nil => rfl
  | _, _, .cons _ b => by simp [DAll.length b]
theorem DAll.append : ∀ {vs us : List V} {ds es : List Dat}, DAll K W vs ds → DAll K W us es → DAll K W (vs ++ us) (ds ++ es)
  | _, _, _, _, .nil, b => b
  | _, _, _, _, .cons x a, b => .cons x (DAll.append a b)
theorem DAll.get : ∀ {vs : List V} {ds : List Dat} {i : Nat} {d : Dat}, DAll K W vs ds → ds[i]? = some d → ∃ v, vs[i]? = some v ∧ D K W v d
  | _, _, _, _, .nil, e => by simp at e
  | _, _, 0, _, .cons x _, e => by simp at e; subst e; exact ⟨_, rfl, x⟩
  | _, _, i + 1, d, .cons _ b, e => by
    obtain ⟨v, h1, h2⟩ := DAll.get (i := i) (d := d) b (by simpa using e)
    exact ⟨v, by simpa using h1, h2⟩
theorem DAll.getV : ∀ {vs : List V} {ds : List Dat} {i : Nat} {v : V}, DAll K W vs ds → vs[i]? = some v → ∃ d, ds[i]? = some d ∧ D K W v d
  | _, _, _, _, .nil, e => by simp at e
  | _, _, 0, _, .cons x _, e => by simp at e; subst e; exact ⟨_, rfl, x⟩
  | _, _, i + 1, v, .cons _ b, e => by
    obtain ⟨d, h1, h2⟩ := DAll.getV (i := i) (v := v) b (by simpa using e)
    exact ⟨d, by simpa using h1, h2⟩
theorem DAll.take : ∀ {vs : List V} {ds : List Dat} (n : Nat), DAll K W vs ds → DAll K W (vs.take n) (ds.take n)
  | _, _, 0, _ => by simpa using .nil
  | _, _, _ + 1, .nil => .nil
  | _, _, n + 1, .cons a b => .cons a (DAll.take n b)
theorem DAll.drop : ∀ {vs : List V} {ds : List Dat} (n : Nat), DAll K W vs ds → DAll K W (vs.drop n) (ds.drop n)
  | _, _, 0, r => r
  | _, _, _ + 1, .nil => .nil
  | _, _, n + 1, .cons _ b => DAll.drop n b
theorem DAll.set {v : V} {d : Dat} (x : D K W v d) : ∀ {vs : List V} {ds : List Dat} (n : Nat), DAll K W vs ds → DAll K W (vs.set n v) (ds.set n d)
  | _, _, _, .nil => .nil
  | _, _, 0, .cons _ b => .cons x b
  | _, _, n + 1, .cons a b => .cons a (DAll.set x n b)
theorem DAll.reverse : ∀ {vs : List V} {ds : List Dat}, DAll K W vs ds → DAll K W vs.reverse ds.reverse
  | _, _, .nil => .nil
  | _, _, .cons a b => by simpa using (DAll.reverse b).append (.cons a .nil)
theorem DAll.rep {vs : List V} {ds : List Dat} (h : DAll K W vs ds) : ∀ k : Nat, DAll K W (List.replicate k vs).flatten (List.replicate k ds).flatten
  | 0 => .nil
  | k + 1 => by simpa [List.replicate_succ] using h.append (DAll.rep h k)

theorem Up.trans {W1 W2 W3 : Wd} (a : Up W1 W2) (b : Up W2 W3) : Up W1 W3 := ⟨fun x h => b.sS x (a.sS x h), fun n x h => b.sI n x (a.sI n x h), fun x o s e => b.kS x o (a.sS x s) (a.kS x o s e), fun x xs e => b.kT x xs (a.kT x xs e)⟩
theorem Up.refl (W : Wd) : Up W W := ⟨fun _ h => h, fun _ _ h => h, fun _ _ _ h => h, fun _ _ h => h⟩

/-- a world behind another -/
structure Le (W W' : Wd) : Prop where
  sS : ∀ a, W.S a → W'.S a
  sI : ∀ n a, W.io n = some a → W'.io n = some a
  keep : ∀ a o, W.H a = some o → (W.S a ∨ ∀ n, W.io n ≠ some a) → W'.H a = some o
  there : ∀ a, (W.H a).isSome = true → (W'.H a).isSome = true
  nI : ∀ n a, W'.io n = some a → W.io n = some a ∨ W.H a = none
  nS : ∀ a, W'.S a → W.S a ∨ W.H a = none ∨ ∃ n, W.io n = some a
  kT : ∀ a xs, W.H a = some (.tup xs) → W'.H a = some (.tup xs)
theorem Le.up (h : Le W W') : Up W W' := ⟨h.sS, h.sI, fun a o s e => h.keep a o e (.inl s), h.kT⟩
theorem Le.refl (W : Wd) : Le W W := ⟨fun _ h => h, fun _ _ h => h, fun _ _ h _ => h, fun _ h => h, fun _ _ h => .inl h, fun _ h => .inl h, fun _ _ h => h⟩
theorem none_back {H H' : Hp} {a : Addr} (h : ∀ a, (H a).isSome = true → (H' a).isSome = true) (e : H' a = none) : H a = none := by
  cases q : H a with
  | none => rfl
  | some o => have := h a (by simp [q]); simp [e] at this
theorem Le.trans {W1 W2 W3 : Wd} (a : Le W1 W2) (b : Le W2 W3) : Le W1 W3 where
  sS := fun x h => b.sS x (a.sS x h)
  sI := fun n x h => b.sI n x (a.sI n x h)
  keep := fun x o e h => b.keep x o (a.keep x o e h) (by
    rcases h with h | h
    · exact .inl (a.sS x h)
    · refine .inr fun n e2 => ?_
      rcases a.nI n x e2 with z | z
      · exact h n z
      · rw [e] at z; cases z)
  there := fun x h => b.there x (a.there x h)
  nI := fun n x h => by
    rcases b.nI n x h with z | z
    · exact a.nI n x z
    · exact .inr (none_back a.there z)
  nS := fun x h => by
    rcases b.nS x h with z | z | ⟨n, z⟩
    · exact a.nS x z
    · exact .inr (.inl (none_back a.there z))
    · rcases a.nI n x z with q | q
      · exact .inr (.inr ⟨n, q⟩)
      · exact .inr (.inl q)
  kT := fun x xs e => b.kT x xs (a.kT x xs e)

/-- what stands at a cell's address -/
def CellOk (K : PySem.W.Frag) (W : Wd) (a : Addr) : Cell → Prop
  | .lst ds => ∃ xs, W.H a = some (.lst xs) ∧ DAll K W xs ds
  | .ins C gs => ∃ dx fs, W.H a = some (.ins C dx fs) ∧ fs.map (·.1) = gs.map (·.1) ∧ DAll K W (fs.map (·.2)) (gs.map (·.2))
  | .dcK ds => ∃ kvs : List (Key × V), W.H a = some (.dK kvs) ∧ kvs.map (·.1) = ds.map (·.1) ∧ DAll K W (kvs.map (·.2)) (ds.map (·.2))
  | .dcT ds => ∃ kvs : List (List Key × V), W.H a = some (.dT kvs) ∧ kvs.map (·.1) = ds.map (·.1) ∧ DAll K W (kvs.map (·.2)) (ds.map (·.2))
  | .tab q => ∃ ps : Array Value, W.H a = some (.tbl ps) ∧ TriplesOk ps.toList ∧ ∀ (pos : Pos) (cv : Value), codeAmong pos ps.toList = some cv → ∃ c, cv = .ref c ∧ W.S c ∧ W.H c = some (LamX.CodeO c q)
theorem CellOk.up {a : Addr} {c : Cell} (h : Up W W') (e : W'.H a = W.H a) (x : CellOk K W a c) : CellOk K W' a c := by
  cases c with
  | lst ds => obtain ⟨xs, h1, h2⟩ := x; exact ⟨xs, e.trans h1, h2.up h⟩
  | ins C gs => obtain ⟨dx, fs, h1, h2, h3⟩ := x; exact ⟨dx, fs, e.trans h1, h2, h3.up h⟩
  | dcK ds => obtain ⟨kvs, h1, h2, h3⟩ := x; exact ⟨kvs, e.trans h1, h2, h3.up h⟩
  | dcT ds => obtain ⟨kvs, h1, h2, h3⟩ := x; exact ⟨kvs, e.trans h1, h2, h3.up h⟩
  | tab q =>
    obtain ⟨ps, h1, h2, h3⟩ := x
    exact ⟨ps, e.trans h1, h2, fun pos cv hc => let ⟨c, e1, s, e2⟩ := h3 pos cv hc; ⟨c, e1, h.sS _ s, h.kS _ _ s e2⟩⟩

theorem CellOk.nt {W : Wd} {a : Addr} {c : Cell} (x : CellOk K W a c) (xs : List V) : W.H a ≠ some (.tup xs) := by
  intro e
  cases c with
  | lst ds => obtain ⟨ys, h1, _⟩ := x; rw [e] at h1; cases h1
  | ins C gs => obtain ⟨dx, fs, h1, _⟩ := x; rw [e] at h1; cases h1
  | dcK ds => obtain ⟨kvs, h1, _⟩ := x; rw [e] at h1; cases h1
  | dcT ds => obtain ⟨kvs, h1, _⟩ := x; rw [e] at h1; cases h1
  | tab q => obtain ⟨ps, h1, _⟩ := x; rw [e] at h1; cases h1
structure Sim (K : PySem.W.Frag) (W : Wd) (m : Mu) : Prop where
  cell : ∀ n c, m n = some c → ∃ a, W.io n = some a ∧ ¬ W.S a ∧ CellOk K W a c
  inj : ∀ n k a, W.io n = some a → W.io k = some a → n = k
  thr : ∀ n a, W.io n = some a → (W.H a).isSome = true
  fro : ∀ a, W.S a → (W.H a).isSome = true
  free : ∃ N, ∀ n, N ≤ n → W.io n = none
variable {m : Mu} {p : Addr} {o : HO}
/-- a new object, settled for good -/
theorem Sim.newF (s : Sim K W m) (hp : W.H p = none) : Le W ⟨fun a => W.S a ∨ a = p, W.io, upd W.H p o⟩ ∧ Sim K ⟨fun a => W.S a ∨ a = p, W.io, upd W.H p o⟩ m := by
  have nI : ∀ n a, W.io n = some a → a ≠ p := fun n a e z => by
    have := s.thr n a e
    rw [z, hp] at this; cases this
  have up : Le W ⟨fun a => W.S a ∨ a = p, W.io, upd W.H p o⟩ := by
    refine ⟨fun a h => .inl h, fun _ _ h => h, fun a u e _ => ?_, fun a h => ?_, fun _ _ h => .inl h, fun a h => ?_, fun a xs h => ?_⟩
    · show upd W.H p o a = _
      rw [upd_ne (ne_of_none e hp)]; exact e
    · show (upd W.H p o a).isSome = true
      by_cases z : a = p
      · rw [z, upd_same]; rfl
      · rw [upd_ne z]; exact h
    · rcases h with h | h
      · exact .inl h
      · exact .inr (.inl (by rw [h]; exact hp))
    · show upd W.H p o a = _
      rw [upd_ne (ne_of_none h hp)]; exact h
  refine ⟨up, ⟨fun n c e => ?_, s.inj, fun n a e => up.there a (s.thr n a e), fun a h => ?_, s.free⟩⟩
  · obtain ⟨a, h1, h2, h3⟩ := s.cell n c e
    exact ⟨a, h1, fun z => z.elim h2 (nI n a h1), h3.up up.up (upd_ne (nI n a h1))⟩
  · rcases h with h | h
    · exact up.there a (s.fro a h)
    · show (upd W.H p o a).isSome = true
      rw [h, upd_same]; rfl
/-- a new object that is a cell -/
theorem Sim.newM {c : Cell} (s : Sim K W m) (hp : W.H p = none) : ∃ n, m n = none ∧ W.io n = none ∧ Le W ⟨W.S, fun k => if k = n then some p else W.io k, upd W.H p o⟩ ∧
    (CellOk K ⟨W.S, fun k => if k = n then some p else W.io k, upd W.H p o⟩ p c → Sim K ⟨W.S, fun k => if k = n then some p else W.io k, upd W.H p o⟩ (m.set n c)) := by
  obtain ⟨N, hN⟩ := s.free
  have hn := hN N (Nat.le_refl _)
  have nI : ∀ n a, W.io n = some a → a ≠ p := fun n a e z => by
    have := s.thr n a e
    rw [z, hp] at this; cases this
  have nS : ¬ W.S p := fun z => by
    have := s.fro p z
    rw [hp] at this; cases this
  have up : Le W ⟨W.S, fun k => if k = N then some p else W.io k, upd W.H p o⟩ := by
    refine ⟨fun a h => h, fun k a e => ?_, fun a u e _ => ?_, fun a h => ?_, fun k a e => ?_, fun a h => .inl h, fun a xs h => ?_⟩
    · show (if k = N then some p else W.io k) = some a
      rw [if_neg]
      · exact e
      · rintro rfl; rw [hn] at e; cases e
    · show upd W.H p o a = _
      rw [upd_ne (ne_of_none e hp)]; exact e
    · show (upd W.H p o a).isSome = true
      by_cases z : a = p
      · rw [z, upd_same]; rfl
      · rw [upd_ne z]; exact h
    · have e' : (if k = N then some p else W.io k) = some a := e
      split at e'
      · cases e'; exact .inr hp
      · exact .inl e'
    · show upd W.H p o a = _
      rw [upd_ne (ne_of_none h hp)]; exact h
  refine ⟨N, ?_, hn, up, fun hc => ⟨fun k c' e => ?_, fun k l a e1 e2 => ?_, fun k a e => ?_, fun a h => up.there a (s.fro a h), ⟨N + 1, fun k hk => ?_⟩⟩⟩
  · cases q : m N with
    | none => rfl
    | some c' => obtain ⟨a, h1, _⟩ := s.cell N c' q; rw [hn] at h1; cases h1
  · by_cases z : k = N
    · subst z
      rw [Mu.set_same] at e; cases e
      exact ⟨p, by simp, nS, hc⟩
    · rw [Mu.set_ne _ _ z] at e
      obtain ⟨a, h1, h2, h3⟩ := s.cell k c' e
      exact ⟨a, by simp [z, h1], h2, h3.up up.up (upd_ne (nI k a h1))⟩
  · have e1' : (if k = N then some p else W.io k) = some a := e1
    have e2' : (if l = N then some p else W.io l) = some a := e2
    split at e1' <;> split at e2'
    · rename_i h1 h2; rw [h1, h2]
    · cases e1'; exact absurd rfl (nI l _ e2')
    · cases e2'; exact absurd rfl (nI k _ e1')
    · exact s.inj k l a e1' e2'
  · have e' : (if k = N then some p else W.io k) = some a := e
    show (upd W.H p o a).isSome = true
    split at e'
    · cases e'; rw [upd_same]; rfl
    · exact up.there a (s.thr k a e')
  · show (if k = N then some p else W.io k) = none
    rw [if_neg (by omega)]
    exact hN k (by omega)
/-- a cell is changed -/
theorem Sim.write {n : Nat} {c c' : Cell} {a : Addr} (s : Sim K W m) (hc : m n = some c) (ha : W.io n = some a) : Le W ⟨W.S, W.io, upd W.H a o⟩ ∧
    (CellOk K ⟨W.S, W.io, upd W.H a o⟩ a c' → Sim K ⟨W.S, W.io, upd W.H a o⟩ (m.set n c')) := by
  obtain ⟨a', h1, h2, h3⟩ := s.cell n c hc
  rw [ha] at h1; cases h1
  have up : Le W ⟨W.S, W.io, upd W.H a o⟩ := by
    refine ⟨fun a h => h, fun _ _ h => h, fun b u e h => ?_, fun b h => ?_, fun _ _ h => .inl h, fun a h => .inl h, fun b xs h => ?_⟩
    · show upd W.H a o b = _
      rw [upd_ne]
      · exact e
      · rintro rfl
        rcases h with h | h
        · exact h2 h
        · exact h n ha
    · show (upd W.H a o b).isSome = true
      by_cases z : b = a
      · rw [z, upd_same]; rfl
      · rw [upd_ne z]; exact h
    · show upd W.H a o b = _
      rw [upd_ne (by rintro rfl; exact h3.nt xs h)]; exact h
  refine ⟨up, fun hc' => ⟨fun k d e => ?_, s.inj, fun k b e => up.there b (s.thr k b e), fun b h => up.there b (s.fro b h), s.free⟩⟩
  by_cases z : k = n
  · subst z
    rw [Mu.set_same] at e; cases e
    exact ⟨a, ha, h2, hc'⟩
  · rw [Mu.set_ne _ _ z] at e
    obtain ⟨b, q1, q2, q3⟩ := s.cell k d e
    have nb : b ≠ a := fun y => z (s.inj k n a (y ▸ q1) ha)
    exact ⟨b, q1, q2, q3.up up.up (upd_ne nb)⟩
/-- a cell is settled for good -/
theorem Sim.settle {n : Nat} {a : Addr} (s : Sim K W m) (ha : W.io n = some a) : Le W ⟨fun b => W.S b ∨ b = a, W.io, W.H⟩ ∧ Sim K ⟨fun b => W.S b ∨ b = a, W.io, W.H⟩ (m.del n) := by
  have up : Le W ⟨fun b => W.S b ∨ b = a, W.io, W.H⟩ := by
    refine ⟨fun a h => .inl h, fun _ _ h => h, fun b u e _ => e, fun b h => h, fun _ _ h => .inl h, fun b h => ?_, fun _ _ h => h⟩
    rcases h with h | h
    · exact .inl h
    · exact .inr (.inr ⟨n, by rw [h]; exact ha⟩)
  refine ⟨up, ⟨fun k d e => ?_, s.inj, s.thr, fun b h => ?_, s.free⟩⟩
  · by_cases z : k = n
    · subst z; rw [Mu.del_same] at e; cases e
    · rw [Mu.del_ne _ z] at e
      obtain ⟨b, q1, q2, q3⟩ := s.cell k d e
      refine ⟨b, q1, fun y => y.elim q2 fun y => z (s.inj k n a (y ▸ q1) ha), q3.up up.up rfl⟩
  · rcases h with h | h
    · exact s.fro b h
    · rw [h]; exact s.thr n a ha
/-- cells forgotten -/
theorem Sim.sub {m' : Mu} (s : Sim K W m) (h : ∀ n c, m' n = some c → m n = some c) : Sim K W m' := ⟨fun n c e => s.cell n c (h n c e), s.inj, s.thr, s.fro, s.free⟩
/-- an object that is neither settled nor a cell (a walk's own, a comprehension's list) -/
structure Priv (W : Wd) (p : Addr) : Prop where
  nS : ¬ W.S p
  nI : ∀ n, W.io n ≠ some p
  nT : ∀ xs, W.H p ≠ some (.tup xs)
theorem Sim.priv (s : Sim K W m) (hp : W.H p = none) : Priv W p := by
  refine ⟨fun z => ?_, fun n e => ?_, fun xs e => by rw [hp] at e; cases e⟩
  · have := s.fro p z
    rw [hp] at this; cases this
  · have := s.thr n p e
    rw [hp] at this; cases this
theorem Priv.le {W W' : Wd} {o : HO} (q : Priv W p) (e : W.H p = some o) (h : Le W W') : Priv W' p ∧ W'.H p = some o := by
  refine ⟨⟨fun z => ?_, fun n z => ?_, fun xs z => ?_⟩, h.keep p o e (.inr q.nI)⟩
  · rcases h.nS p z with y | y | ⟨n, y⟩
    · exact q.nS y
    · rw [e] at y; cases y
    · exact q.nI n y
  · rcases h.nI n p z with y | y
    · exact q.nI n y
    · rw [e] at y; cases y
  · rw [h.keep p o e (.inr q.nI)] at z
    cases z
    exact q.nT xs e
theorem Up.off (q : Priv W p) : Up W ⟨W.S, W.io, upd W.H p o⟩ := ⟨fun _ h => h, fun _ _ h => h, fun a u s e => by
    show upd W.H p o a = _
    rw [upd_ne]
    · exact e
    · rintro rfl; exact q.nS s, fun a xs e => by
    show upd W.H p o a = _
    rw [upd_ne]
    · exact e
    · rintro rfl; exact q.nT xs e⟩
theorem Sim.off (s : Sim K W m) (q : Priv W p) : Sim K ⟨W.S, W.io, upd W.H p o⟩ m := by
  have th : ∀ a, (W.H a).isSome = true → (upd W.H p o a).isSome = true := fun a h => by
    by_cases z : a = p
    · rw [z, upd_same]; rfl
    · rw [upd_ne z]; exact h
  refine ⟨fun n c e => ?_, s.inj, fun n a e => th a (s.thr n a e), fun a h => th a (s.fro a h), s.free⟩
  obtain ⟨a, h1, h2, h3⟩ := s.cell n c e
  exact ⟨a, h1, h2, h3.up (Up.off q) (upd_ne fun z => q.nI n (z ▸ h1))⟩
theorem Priv.off (q : Priv W p) (ho : ∀ xs, o ≠ .tup xs := by intro _ z; cases z) : Priv ⟨W.S, W.io, upd W.H p o⟩ p := ⟨q.nS, q.nI, fun xs e => by
  have e : upd W.H p o p = some (.tup xs) := e
  rw [upd_same] at e
  exact ho xs (Option.some.inj e)⟩
/-- from a world in which p is not yet there -/
theorem Le.off {W0 : Wd} (h : Le W0 W) (hp : W0.H p = none) : Le W0 ⟨W.S, W.io, upd W.H p o⟩ := ⟨h.sS, h.sI, fun a u e k => by
    show upd W.H p o a = _
    rw [upd_ne (ne_of_none e hp)]
    exact h.keep a u e k, fun a k => by
    show (upd W.H p o a).isSome = true
    by_cases z : a = p
    · rw [z, upd_same]; rfl
    · rw [upd_ne z]; exact h.there a k, h.nI, h.nS, fun a xs e => by
    show upd W.H p o a = _
    rw [upd_ne (ne_of_none e hp)]
    exact h.kT a xs e⟩
/-- such an object is settled at last -/
theorem Sim.settleP {W0 : Wd} (s : Sim K W m) (h : Le W0 W) (hp : W0.H p = none) (q : Priv W p) (hH : (W.H p).isSome = true) : Le W0 ⟨fun b => W.S b ∨ b = p, W.io, W.H⟩ ∧ Sim K ⟨fun b => W.S b ∨ b = p, W.io, W.H⟩ m ∧ Up W ⟨fun b => W.S b ∨ b = p, W.io, W.H⟩ := by
  have up : Up W ⟨fun b => W.S b ∨ b = p, W.io, W.H⟩ := ⟨fun _ h => .inl h, fun _ _ h => h, fun _ _ _ h => h, fun _ _ h => h⟩
  refine ⟨⟨fun a z => .inl (h.sS a z), h.sI, h.keep, h.there, h.nI, fun a z => ?_, h.kT⟩, ⟨fun n c e => ?_, s.inj, s.thr, fun b z => ?_, s.free⟩, up⟩
  · rcases z with z | z
    · exact h.nS a z
    · exact .inr (.inl (by rw [z]; exact hp))
  · obtain ⟨a, h1, h2, h3⟩ := s.cell n c e
    exact ⟨a, h1, fun y => y.elim h2 fun y => q.nI n (y ▸ h1), h3.up up rfl⟩
  · rcases z with z | z
    · exact s.fro b z
    · rw [z]; exact hH
end
end DL

namespace DL
open PySem PySem.Spec PyProof.Rows L2

abbrev Ro := List (Option Dat)
abbrev KD := Dat → Mu → Prop
abbrev WE := Ro → Mu → KD → Prop
abbrev WT := Ro → Mu → (Bool → Mu → Prop) → Prop
abbrev WA := Ro → Mu → (List Dat → Mu → Prop) → Prop
structure DEnds where
  nx : Ro → Mu → Prop
  rt : KD
  bk : Ro → Mu → Prop := fun _ _ => False
  ct : Ro → Mu → Prop := fun _ _ => False
abbrev WS := DEnds → Ro → Mu → Prop

structure Env (K : PySem.W.Frag) (W : Wd) (σ : L2.St) (r : Ro) : Prop where
  len : σ.length = r.length
  at_ : ∀ (i : Nat) (d : Dat), r[i]? = some (some d) → ∃ v, σ[i]? = some (some v) ∧ D K W v d
theorem Env.up {K : PySem.W.Frag} {W W' : Wd} {σ : L2.St} {r : Ro} (h : Up W W') (e : Env K W σ r) : Env K W' σ r :=
  ⟨e.len, fun i d q => let ⟨v, h1, h2⟩ := e.at_ i d q; ⟨v, h1, h2.up h⟩⟩
theorem Env.set {K : PySem.W.Frag} {W : Wd} {σ : L2.St} {r : Ro} (e : Env K W σ r) (i : Nat) {v : V} {d : Dat} (x : D K W v d) : Env K W (σ.set i (some v)) (r.set i (some d)) := by
  refine ⟨by simp [e.len], fun j d' q => ?_⟩
  by_cases h : i = j
  · subst h
    have hl : i < r.length := by
      have := (List.getElem?_eq_some_iff.mp q).1
      simpa using this
    rw [List.getElem?_set_self hl] at q
    cases q
    exact ⟨v, by rw [List.getElem?_set_self (by rw [e.len]; exact hl)], x⟩
  · rw [List.getElem?_set_ne h] at q
    obtain ⟨u, h1, h2⟩ := e.at_ j d' q
    exact ⟨u, by rw [List.getElem?_set_ne h]; exact h1, h2⟩

def liftE (K : PySem.W.Frag) (w : WE) : TE := fun σ H Q => ∃ (W : Wd) (r : Ro) (m : Mu) (F : KD), W.H = H ∧ Sim K W m ∧ Env K W σ r ∧ w r m F ∧
  ∀ W' m' v d, Le W W' → Sim K W' m' → D K W' v d → F d m' → Q v W'.H
def liftT (K : PySem.W.Frag) (w : WT) : TT := fun σ H Q => ∃ (W : Wd) (r : Ro) (m : Mu) (F : Bool → Mu → Prop), W.H = H ∧ Sim K W m ∧ Env K W σ r ∧ w r m F ∧
  ∀ W' m' b, Le W W' → Sim K W' m' → F b m' → Q b W'.H
def liftA (K : PySem.W.Frag) (w : WA) : TA := fun σ H Q => ∃ (W : Wd) (r : Ro) (m : Mu) (F : List Dat → Mu → Prop), W.H = H ∧ Sim K W m ∧ Env K W σ r ∧ w r m F ∧
  ∀ W' m' vs ds, Le W W' → Sim K W' m' → DAll K W' vs ds → F ds m' → Q vs W'.H
def liftS (K : PySem.W.Frag) (w : WS) : TS := fun E σ H => ∃ (W : Wd) (r : Ro) (m : Mu) (G : DEnds), W.H = H ∧ Sim K W m ∧ Env K W σ r ∧ w G r m ∧
  (∀ W' m' σ' r', Le W W' → Sim K W' m' → Env K W' σ' r' → G.nx r' m' → E.nx σ' W'.H) ∧
  (∀ W' m' v d, Le W W' → Sim K W' m' → D K W' v d → G.rt d m' → E.rt v W'.H) ∧
  (∀ W' m' σ' r', Le W W' → Sim K W' m' → Env K W' σ' r' → G.bk r' m' → E.bk σ' W'.H) ∧
  (∀ W' m' σ' r', Le W W' → Sim K W' m' → Env K W' σ' r' → G.ct r' m' → E.ct σ' W'.H)
abbrev DE (X : Cx) (e : Expr) (w : WE) : Prop := PE X e (liftE X.K w)
abbrev DT (X : Cx) (e : Expr) (w : WT) : Prop := PT X e (liftT X.K w)
abbrev DW (X : Cx) (e : Expr) (w : WT) : Prop := PW X e (liftT X.K w)
abbrev DA (X : Cx) (es : List Expr) (w : WA) : Prop := PA X es (liftA X.K w)
abbrev DS (X : Cx) (st : Stmt) (w : WS) : Prop := PS X st (liftS X.K w)
abbrev DSs (X : Cx) (sts : List Stmt) (w : WS) : Prop := PSs X sts (liftS X.K w)

section
variable {X : Cx} {e a b c : Expr} {t t' : TE} {tt tt' : TT} {ta ta' : TA} {ts ts' : TS} {st : Stmt} {sts : List Stmt} {es : List Expr} {pos : Pos} {wa wb wc : WE}
theorem PE.imp (h : PE X e t) (k : ∀ σ H Q, t' σ H Q → t σ H Q) : PE X e t' := ⟨fun pins s σ H Q I q => h.run pins s σ H Q I (k σ H Q q)⟩
theorem PT.imp (h : PT X e tt) (k : ∀ σ H Q, tt' σ H Q → tt σ H Q) : PT X e tt' := ⟨fun pins s σ H Q I q => h.run pins s σ H Q I (k σ H Q q)⟩
theorem PW.imp (h : PW X e tt) (k : ∀ σ H Q, tt' σ H Q → tt σ H Q) : PW X e tt' := ⟨fun wh pins s σ H Q I q => h.run wh pins s σ H Q I (k σ H Q q)⟩
theorem PA.imp (h : PA X es ta) (k : ∀ σ H Q, ta' σ H Q → ta σ H Q) : PA X es ta' := ⟨fun pos pins s σ H Q I q => h.run pos pins s σ H Q I (k σ H Q q)⟩
theorem PS.imp (h : PS X st ts) (k : ∀ G σ H, ts' G σ H → ts G σ H) : PS X st ts' := ⟨fun pins s σ H G I q => h.run pins s σ H G I (k G σ H q)⟩
theorem PSs.imp (h : PSs X sts ts) (k : ∀ G σ H, ts' G σ H → ts G σ H) : PSs X sts ts' := ⟨fun pins s σ H G I q => h.run pins s σ H G I (k G σ H q)⟩

/-! ### names, constants -/
def dVar (i : Nat) : WE := fun r m F => ∃ d, r[i]? = some (some d) ∧ F d m
def dC (d : Dat) : WE := fun _ m F => F d m
theorem de_var {i : Nat} {x : Str} (hN : X.N[i]? = some x) (hv : Vis X.env.scope x) (hd : (x == ("__debug__" : Str)) = false := by decide) (hcd : (x == ("__classdict__" : Str)) = false := by decide) : DE X (.Name x pos) (dVar i) :=
  PE.imp (pe_var hN hv hd hcd) fun σ H Q ⟨W, r, m, F, e, S, V, ⟨d, h1, h2⟩, k⟩ => by
    obtain ⟨v, h3, h4⟩ := V.at_ i d h1
    subst e
    exact ⟨v, h3, k W m v d (.refl W) S h4 h2⟩
theorem dv (i : Nat) {x : Str} (hN : X.N[i]? = some x := by rfl) (hv : Vis X.env.scope x := by first | exact Or.inl rfl | exact Or.inr (Or.inl rfl) | exact Or.inr (Or.inr rfl)) (hd : (x == ("__debug__" : Str)) = false := by decide)
    (hcd : (x == ("__classdict__" : Str)) = false := by decide) : DE X (.Name x pos) (dVar i) := de_var hN hv hd hcd
theorem de_const {v : V} {d : Dat} (h : PE X e (tC v)) (hd : ∀ W, D X.K W v d) : DE X e (dC d) :=
  PE.imp h fun σ H Q ⟨W, r, m, F, e, S, V, h2, k⟩ => by
    subst e
    exact k W m v d (.refl W) S (hd W) h2
theorem de_int {i j} : DE X (.Constant (.int i) j pos) (dC (.int i)) := de_const pe_int fun _ => .int i
theorem de_bl {i j} : DE X (.Constant (.bool i) j pos) (dC (.bl i)) := de_const pe_bl fun _ => .bl i
theorem de_non {j} : DE X (.Constant .none j pos) (dC .non) := de_const pe_non fun _ => .non
theorem de_str {x j} : DE X (.Constant (.str x) j pos) (dC (.str x)) := de_const pe_str fun _ => .str x

/-! ### arguments -/
def daNil : WA := fun _ m F => F [] m
def daCons (wa : WE) (wr : WA) : WA := fun r m F => wa r m fun d m1 => wr r m1 fun ds m2 => F (d :: ds) m2
theorem da_nil : DA X [] daNil := PA.imp pa_nil fun σ H Q ⟨W, r, m, F, e, S, V, h2, k⟩ => by
  subst e
  exact k W m [] [] (.refl W) S .nil h2
theorem da_cons {wr : WA} (ha : DE X e wa) (hr : DA X es wr) (hs : starEach (e :: es) X.env = (false, eval e X.env) :: starEach es X.env := by rfl) : DA X (e :: es) (daCons wa wr) :=
  PA.imp (pa_cons ha hr hs) fun σ H Q ⟨W, r, m, F, e, S, V, h2, k⟩ => by
    refine ⟨W, r, m, _, e, S, V, h2, fun W1 m1 v1 d1 l1 S1 x1 q1 => ⟨W1, r, m1, _, rfl, S1, V.up l1.up, q1, fun W2 m2 vs ds l2 S2 x2 q2 => ?_⟩⟩
    exact k W2 m2 (v1 :: vs) (d1 :: ds) (l1.trans l2) S2 (.cons (x1.up l2.up) x2) q2

/-! ### operations by values -/
abbrev R2D := Dat → Dat → Mu → KD → Prop
def lift2 (K : PySem.W.Frag) (o : R2D) : R2 := fun x y H Q => ∃ (W : Wd) (m : Mu) (a b : Dat) (F : KD), W.H = H ∧ Sim K W m ∧ D K W x a ∧ D K W y b ∧ o a b m F ∧
  ∀ W' m' v d, Le W W' → Sim K W' m' → D K W' v d → F d m' → Q v W'.H
abbrev R1D := Dat → Mu → KD → Prop
def lift1 (K : PySem.W.Frag) (o : R1D) : V → Hp → VK → Prop := fun x H Q => ∃ (W : Wd) (m : Mu) (a : Dat) (F : KD), W.H = H ∧ Sim K W m ∧ D K W x a ∧ o a m F ∧
  ∀ W' m' v d, Le W W' → Sim K W' m' → D K W' v d → F d m' → Q v W'.H
abbrev RLD := List Dat → Mu → KD → Prop
def liftL (K : PySem.W.Frag) (o : RLD) : List V → Hp → VK → Prop := fun xs H Q => ∃ (W : Wd) (m : Mu) (ds : List Dat) (F : KD), W.H = H ∧ Sim K W m ∧ DAll K W xs ds ∧ o ds m F ∧
  ∀ W' m' v d, Le W W' → Sim K W' m' → D K W' v d → F d m' → Q v W'.H
def dOp (o : R2D) (wa wb : WE) : WE := fun r m F => wa r m fun x m1 => wb r m1 fun y m2 => o x y m2 F
def dUn (o : R1D) (wa : WE) : WE := fun r m F => wa r m fun x m1 => o x m1 F
theorem op_lift {o : R2D} {wa wb : WE} {σ : L2.St} {H : Hp} {Q : VK} (h : liftE X.K (dOp o wa wb) σ H Q) : tOp (lift2 X.K o) (liftE X.K wa) (liftE X.K wb) σ H Q := by
  obtain ⟨W, r, m, F, e, S, V, h2, k⟩ := h
  refine ⟨W, r, m, _, e, S, V, h2, fun W1 m1 v1 d1 l1 S1 x1 q1 => ⟨W1, r, m1, _, rfl, S1, V.up l1.up, q1, fun W2 m2 v2 d2 l2 S2 x2 q2 => ?_⟩⟩
  exact ⟨W2, m2, d1, d2, F, rfl, S2, x1.up l2.up, x2, q2, fun W3 m3 v d l3 S3 x3 q3 => k W3 m3 v d ((l1.trans l2).trans l3) S3 x3 q3⟩
theorem un_lift {o : R1D} {wa : WE} {σ : L2.St} {H : Hp} {Q : VK} (h : liftE X.K (dUn o wa) σ H Q) : tUn (lift1 X.K o) (liftE X.K wa) σ H Q := by
  obtain ⟨W, r, m, F, e, S, V, h2, k⟩ := h
  refine ⟨W, r, m, _, e, S, V, h2, fun W1 m1 v1 d1 l1 S1 x1 q1 => ⟨W1, m1, d1, F, rfl, S1, x1, q1, fun W3 m3 v d l3 S3 x3 q3 => k W3 m3 v d (l1.trans l3) S3 x3 q3⟩⟩
theorem de_op {op : Operator} {o : R2D} (ho : OpR X (binaryOp op) (lift2 X.K o)) (ha : DE X a wa) (hb : DE X b wb) : DE X (.BinOp a op b pos) (dOp o wa wb) := PE.imp (pe_op ho ha hb) fun _ _ _ h => op_lift h
theorem de_un {op : UnaryOp} {o : R1D} (ho : UnR X (unaryOp op) (lift1 X.K o)) (ha : DE X a wa) : DE X (.UnaryOp op a pos) (dUn o wa) := PE.imp (pe_un ho ha) fun _ _ _ h => un_lift h
theorem de_cmp {op : CmpOp} {o : R2D} (ho : OpR X (compareOp op) (lift2 X.K o)) (ha : DE X a wa) (hb : DE X b wb) (hm : behindInMarks op b = false) : DE X (.Compare a [op] [b] pos) (dOp o wa wb) := PE.imp (pe_cmpR ho ha hb hm) fun _ _ _ h => op_lift h
def dTB (w : WE) : WT := fun r m F => w r m fun d m1 => ∃ k, d = .bl k ∧ F k m1
theorem test_lift {w : WE} {σ : L2.St} {H : Hp} {Q : Bool → Hp → Prop} {t : TE} (ht : ∀ σ H Q, liftE X.K w σ H Q → t σ H Q) (h : liftT X.K (dTB w) σ H Q) : t σ H fun x H' => ∃ k, x = .bl k ∧ Q k H' := by
  obtain ⟨W, r, m, F, e, S, V, h2, k⟩ := h
  refine ht _ _ _ ⟨W, r, m, _, e, S, V, h2, fun W1 m1 v1 d1 l1 S1 x1 q1 => ?_⟩
  obtain ⟨b, rfl, q⟩ := q1
  cases x1
  exact ⟨b, rfl, k W1 m1 b l1 S1 q⟩
theorem dt_cmp {op : CmpOp} {o : R2D} (ho : OpR X (compareOp op) (lift2 X.K o)) (ha : DE X a wa) (hb : DE X b wb) (hm : behindInMarks op b = false) : DT X (.Compare a [op] [b] pos) (dTB (dOp o wa wb)) :=
  PT.imp (pt_cmpR ho ha hb hm) fun _ _ _ h => test_lift (fun _ _ _ z => op_lift z) h
/-- an expression that gives True or False, as a test -/
theorem dt_val (h : DE X e wa) (he : ∀ whole, isTrue e X.env whole = (do let v ← whole; standAt e.pos; holding [v] (truthy v)) := by intro _; rfl) : DT X e (dTB wa) :=
  PT.imp (pt_val h he) fun _ _ _ z => test_lift (fun _ _ _ y => y) z

/-! ### and, or, not, if -/
variable {tA tB : WT} {rest : List Expr}
def dAndT (t u : WT) : WT := fun r m F => t r m fun c m1 => if c = true then u r m1 F else F false m1
def dOrT (t u : WT) : WT := fun r m F => t r m fun c m1 => if c = true then F true m1 else u r m1 F
def dNotT (t : WT) : WT := fun r m F => t r m fun c m1 => F (!c) m1
theorem dw_and1 (ha : DT X a tA) : DW X (.BoolOp .And [a] pos) tA := pw_and1 ha
theorem dw_or1 (ha : DT X a tA) : DW X (.BoolOp .Or [a] pos) tA := pw_or1 ha
theorem dw_and (ha : DT X a tA) (hb : DW X (.BoolOp .And (b :: rest) pos) tB) : DW X (.BoolOp .And (a :: b :: rest) pos) (dAndT tA tB) :=
  PW.imp (pw_and ha hb) fun σ H Q ⟨W, r, m, F, e, S, V, h2, k⟩ => ⟨W, r, m, _, e, S, V, h2, fun W1 m1 c l1 S1 q1 => by
    cases c with
    | true => exact ⟨W1, r, m1, F, rfl, S1, V.up l1.up, q1, fun W2 m2 b l2 S2 q2 => k W2 m2 b (l1.trans l2) S2 q2⟩
    | false => exact k W1 m1 false l1 S1 q1⟩
theorem dw_or (ha : DT X a tA) (hb : DW X (.BoolOp .Or (b :: rest) pos) tB) : DW X (.BoolOp .Or (a :: b :: rest) pos) (dOrT tA tB) :=
  PW.imp (pw_or ha hb) fun σ H Q ⟨W, r, m, F, e, S, V, h2, k⟩ => ⟨W, r, m, _, e, S, V, h2, fun W1 m1 c l1 S1 q1 => by
    cases c with
    | false => exact ⟨W1, r, m1, F, rfl, S1, V.up l1.up, q1, fun W2 m2 b l2 S2 q2 => k W2 m2 b (l1.trans l2) S2 q2⟩
    | true => exact k W1 m1 true l1 S1 q1⟩
theorem dw_t (h : DW X e tA) : DT X e tA := PW.pt h
theorem dt_not (ha : DT X a tA) : DT X (.UnaryOp .Not a pos) (dNotT tA) :=
  PT.imp (pt_not ha) fun σ H Q ⟨W, r, m, F, e, S, V, h2, k⟩ => ⟨W, r, m, _, e, S, V, h2, fun W1 m1 c l1 S1 q1 => k W1 m1 (!c) l1 S1 q1⟩
/-- a and b as a value: a True or False -/
def dAndV (wa wb : WE) : WE := fun r m F => wa r m fun x m1 => ∃ c, x = .bl c ∧ if c = true then wb r m1 F else F (.bl false) m1
def dOrV (wa wb : WE) : WE := fun r m F => wa r m fun x m1 => ∃ c, x = .bl c ∧ if c = true then F (.bl true) m1 else wb r m1 F
def dNotV (wa : WE) : WE := fun r m F => wa r m fun x m1 => ∃ c, x = .bl c ∧ F (.bl (!c)) m1
theorem de_one {op} (h : DE X a wa) : DE X (.BoolOp op [a] pos) wa := pe_one h
theorem de_and (ha : DE X a wa) (hb : DE X (.BoolOp .And (b :: rest) pos) wb) : DE X (.BoolOp .And (a :: b :: rest) pos) (dAndV wa wb) :=
  PE.imp (pe_and ha hb) fun σ H Q ⟨W, r, m, F, e, S, V, h2, k⟩ => ⟨W, r, m, _, e, S, V, h2, fun W1 m1 v d l1 S1 x1 q1 => by
    obtain ⟨c, rfl, q⟩ := q1
    cases x1
    refine ⟨c, rfl, ?_⟩
    cases c with
    | true => exact ⟨W1, r, m1, F, rfl, S1, V.up l1.up, q, fun W2 m2 v d l2 S2 x2 q2 => k W2 m2 v d (l1.trans l2) S2 x2 q2⟩
    | false => exact k W1 m1 _ _ l1 S1 (.bl false) q⟩
theorem de_or (ha : DE X a wa) (hb : DE X (.BoolOp .Or (b :: rest) pos) wb) : DE X (.BoolOp .Or (a :: b :: rest) pos) (dOrV wa wb) :=
  PE.imp (pe_or ha hb) fun σ H Q ⟨W, r, m, F, e, S, V, h2, k⟩ => ⟨W, r, m, _, e, S, V, h2, fun W1 m1 v d l1 S1 x1 q1 => by
    obtain ⟨c, rfl, q⟩ := q1
    cases x1
    refine ⟨c, rfl, ?_⟩
    cases c with
    | false => exact ⟨W1, r, m1, F, rfl, S1, V.up l1.up, q, fun W2 m2 v d l2 S2 x2 q2 => k W2 m2 v d (l1.trans l2) S2 x2 q2⟩
    | true => exact k W1 m1 _ _ l1 S1 (.bl true) q⟩
theorem de_not (ha : DE X a wa) : DE X (.UnaryOp .Not a pos) (dNotV wa) :=
  PE.imp (pe_not ha) fun σ H Q ⟨W, r, m, F, e, S, V, h2, k⟩ => ⟨W, r, m, _, e, S, V, h2, fun W1 m1 v d l1 S1 x1 q1 => by
    obtain ⟨c, rfl, q⟩ := q1
    cases x1
    exact ⟨c, rfl, k W1 m1 _ _ l1 S1 (.bl _) q⟩⟩
def dIf (t : WT) (wa wb : WE) : WE := fun r m F => t r m fun c m1 => if c = true then wa r m1 F else wb r m1 F
theorem de_if (hc : DT X c tA) (ha : DE X a wa) (hb : DE X b wb) : DE X (.IfExp c a b pos) (dIf tA wa wb) :=
  PE.imp (pe_ifExp hc ha hb) fun σ H Q ⟨W, r, m, F, e, S, V, h2, k⟩ => ⟨W, r, m, _, e, S, V, h2, fun W1 m1 c l1 S1 q1 => by
    cases c with
    | true => exact ⟨W1, r, m1, F, rfl, S1, V.up l1.up, q1, fun W2 m2 v d l2 S2 x2 q2 => k W2 m2 v d (l1.trans l2) S2 x2 q2⟩
    | false => exact ⟨W1, r, m1, F, rfl, S1, V.up l1.up, q1, fun W2 m2 v d l2 S2 x2 q2 => k W2 m2 v d (l1.trans l2) S2 x2 q2⟩⟩

/-! ### displays -/
def dTup (w : WA) : WE := fun r m F => w r m fun ds m1 => ds.length ≤ sizeLine ∧ F (.tup ds) m1
def dLst (w : WA) : WE := fun r m F => w r m fun ds m1 => ds.length ≤ sizeLine ∧ F (.lst ds) m1
/-- a display that is a cell -/
def dLstM (w : WA) : WE := fun r m F => w r m fun ds m1 => ds.length ≤ sizeLine ∧ ∀ n, m1 n = none → F (.ref n) (m1.set n (.lst ds))
theorem de_tup {x1} {w : WA} (h : DA X es w) : DE X (.Tuple es x1 pos) (dTup w) :=
  PE.imp (pe_tup h) fun σ H Q ⟨W, r, m, F, e, S, V, h2, k⟩ => ⟨W, r, m, _, e, S, V, h2, fun W1 m1 vs ds l1 S1 x1 q1 => by
    refine ⟨by rw [x1.length]; exact q1.1, fun p hp => ?_⟩
    obtain ⟨l2, S2⟩ := S1.newF (o := .tup vs) hp
    exact k _ m1 _ _ (l1.trans l2) S2 (.tup upd_same (x1.up l2.up)) q1.2⟩
theorem de_lst {w : WA} (h : DA X es w) : DE X (.List es pos) (dLst w) :=
  PE.imp (pe_lst h) fun σ H Q ⟨W, r, m, F, e, S, V, h2, k⟩ => ⟨W, r, m, _, e, S, V, h2, fun W1 m1 vs ds l1 S1 x1 q1 => by
    refine ⟨by rw [x1.length]; exact q1.1, fun p hp => ?_⟩
    obtain ⟨l2, S2⟩ := S1.newF (o := .lst vs) hp
    exact k _ m1 _ _ (l1.trans l2) S2 (.lst (.inr rfl) upd_same (x1.up l2.up)) q1.2⟩
theorem de_lstM {w : WA} (h : DA X es w) : DE X (.List es pos) (dLstM w) :=
  PE.imp (pe_lst h) fun σ H Q ⟨W, r, m, F, e, S, V, h2, k⟩ => ⟨W, r, m, _, e, S, V, h2, fun W1 m1 vs ds l1 S1 x1 q1 => by
    refine ⟨by rw [x1.length]; exact q1.1, fun p hp => ?_⟩
    obtain ⟨n, hn, hi, l2, S2⟩ := S1.newM (o := .lst vs) (c := .lst ds) hp
    exact k _ _ _ _ (l1.trans l2) (S2 ⟨vs, upd_same, x1.up l2.up⟩) (.ref (by simp)) (q1.2 n hn)⟩
end
end DL

namespace DL
open PySem PySem.Spec PyProof.Rows L2
section
variable {K : PySem.W.Frag} {W : Wd} {m : Mu}
theorem D.sqT {a : Addr} {ds : List Dat} (h : D K W (.ref a) (.tup ds)) : ∃ xs, SqT K W.H a xs ∧ DAll K W xs ds := by
  cases h with
  | tup e x => exact ⟨_, SqT.of e, x⟩
/-- a list that is read: settled or a cell -/
theorem D.sqL {a : Addr} {ds : List Dat} (h : D K W (.ref a) (.lst ds)) : ∃ xs, W.H a = some (.lst xs) ∧ DAll K W xs ds := by
  cases h with
  | lst s e x => exact ⟨_, e, x⟩
theorem D.cell {a : Addr} {n : Nat} {c : Cell} (S : Sim K W m) (h : D K W (.ref a) (.ref n)) (e : m n = some c) : CellOk K W a c ∧ W.io n = some a := by
  cases h with
  | ref i =>
    obtain ⟨a', h1, _, h3⟩ := S.cell n c e
    rw [i] at h1; cases h1
    exact ⟨h3, i⟩
/-- a list as it is read: its items -/
def items (m : Mu) : Dat → Option (List Dat)
  | .lst ds => some ds
  | .ref n => match m n with
    | some (.lst ds) => some ds
    | _ => none
  | _ => none
theorem D.items {v : V} {d : Dat} {ds : List Dat} (S : Sim K W m) (h : D K W v d) (e : items m d = some ds) : ∃ a xs, v = .ref a ∧ W.H a = some (.lst xs) ∧ DAll K W xs ds := by
  cases d with
  | lst es =>
    cases e
    cases h with
    | lst s e x => exact ⟨_, _, rfl, e, x⟩
  | ref n =>
    simp only [DL.items] at e
    cases q : m n with
    | none => rw [q] at e; cases e
    | some c =>
      rw [q] at e
      cases c with
      | lst es =>
        cases e
        cases h with
        | ref i =>
          obtain ⟨⟨xs, h1, h2⟩, _⟩ := D.cell S (.ref i) q
          exact ⟨_, xs, rfl, h1, h2⟩
      | ins C f => cases e
      | dcK k => cases e
      | dcT k => cases e
      | tab q => cases e
  | _ => cases e
end
section
variable {X : Cx}
/-- the common end: a scalar answer, the heap as it was -/
theorem fin0 {W : Wd} {m : Mu} {v : V} {d : Dat} {F : KD} {Q : VK} (S : Sim X.K W m) (k : ∀ W' m' v d, Le W W' → Sim X.K W' m' → D X.K W' v d → F d m' → Q v W'.H) (h : F d m) (x : D X.K W v d) : Q v W.H := k W m v d (.refl W) S x h
/-- a new list, tuple -/
theorem finL {W : Wd} {m : Mu} {vs : List V} {ds : List Dat} {F : KD} {Q : VK} (S : Sim X.K W m) (k : ∀ W' m' v d, Le W W' → Sim X.K W' m' → D X.K W' v d → F d m' → Q v W'.H) (h : F (.lst ds) m) (x : DAll X.K W vs ds) {p : Addr} (hp : W.H p = none) : Q (.ref p) (upd W.H p (.lst vs)) := by
  obtain ⟨l2, S2⟩ := S.newF (o := .lst vs) hp
  exact k _ m _ _ l2 S2 (.lst (.inr rfl) upd_same (x.up l2.up)) h
theorem finT {W : Wd} {m : Mu} {vs : List V} {ds : List Dat} {F : KD} {Q : VK} (S : Sim X.K W m) (k : ∀ W' m' v d, Le W W' → Sim X.K W' m' → D X.K W' v d → F d m' → Q v W'.H) (h : F (.tup ds) m) (x : DAll X.K W vs ds) {p : Addr} (hp : W.H p = none) : Q (.ref p) (upd W.H p (.tup vs)) := by
  obtain ⟨l2, S2⟩ := S.newF (o := .tup vs) hp
  exact k _ m _ _ l2 S2 (.tup upd_same (x.up l2.up)) h

/-! ### + - * % // -/
def rAdd : R2D := fun a b m F => match a, b with
  | .int i, .int j => F (.int (i + j)) m
  | .str x, .str y => x.length + y.length ≤ sizeLine ∧ F (.str (x ++ y)) m
  | .tup x, .tup y => x.length + y.length ≤ sizeLine ∧ F (.tup (x ++ y)) m
  | a, b => ∃ x y, items m a = some x ∧ items m b = some y ∧ x.length + y.length ≤ sizeLine ∧ F (.lst (x ++ y)) m
theorem op_cat' {pins : List (Addr × Obj)} {s : Shared} {σ : L2.St} {H : Hp} {x y : V} {v u : Value} {Q : VK} (I : L2.Inv X pins σ H s) (rx : RelV x v) (ry : RelV y u) {W : Wd} {m : Mu} {a b : Dat} {F : KD} (e : W.H = H) (S : Sim X.K W m) (xa : D X.K W x a) (yb : D X.K W y b)
    (k : ∀ W' m' v d, Le W W' → Sim X.K W' m' → D X.K W' v d → F d m' → Q v W'.H) (h : ∃ x y, items m a = some x ∧ items m b = some y ∧ x.length + y.length ≤ sizeLine ∧ F (.lst (x ++ y)) m) :
    wpAny (model X.prog X.w) X.A (binaryOp .Add v u) (EP X pins σ Q) X.xe s := by
  subst e
  obtain ⟨ds, es, h1, h2, h3, h4⟩ := h
  obtain ⟨p, xs, rfl, e1, q1⟩ := xa.items S h1
  obtain ⟨q, ys, rfl, e2, q2⟩ := yb.items S h2
  exact op_cat pins s σ _ _ _ v u Q I rx ry ⟨p, q, xs, ys, rfl, rfl, e1, e2, by rw [q1.length, q2.length]; exact h3, fun r hr => finL S k h4 (q1.append q2) hr⟩
theorem o_add : OpR X (binaryOp .Add) (lift2 X.K rAdd) := by
  intro pins s σ H x y v u Q I rx ry ⟨W, m, a, b, F, e, S, xa, yb, h, k⟩
  unfold rAdd at h
  split at h
  · subst e
    cases xa; cases yb
    exact op_add pins s σ _ _ _ v u Q I rx ry ⟨_, _, rfl, rfl, fin0 S k h (.int _)⟩
  · subst e
    cases xa; cases yb
    exact op_add_str pins s σ _ _ _ v u Q I rx ry ⟨_, _, rfl, rfl, h.1, fin0 S k h.2 (.str _)⟩
  · subst e
    have ha : ∃ p, x = .ref p := by cases xa <;> exact ⟨_, rfl⟩
    have hb : ∃ p, y = .ref p := by cases yb <;> exact ⟨_, rfl⟩
    obtain ⟨p, rfl⟩ := ha
    obtain ⟨q, rfl⟩ := hb
    obtain ⟨xs, t1, q1⟩ := xa.sqT
    obtain ⟨ys, t2, q2⟩ := yb.sqT
    refine op_catA pins s σ _ _ _ v u Q I rx ry ⟨p, q, xs, ys, rfl, rfl, t1, t2, by rw [q1.length, q2.length]; exact h.1, fun z => ?_, fun z z2 => ?_, fun _ _ r hr => finT S k h.2 (q1.append q2) hr⟩
    · subst z
      cases q1
      exact fin0 S k h.2 yb
    · subst z2
      cases q2
      have h2 := h.2
      rw [List.append_nil] at h2
      exact fin0 S k h2 xa
  · exact op_cat' I rx ry e S xa yb k h
def rSub : R2D := fun a b m F => ∃ i j, a = .int i ∧ b = .int j ∧ F (.int (i - j)) m
theorem o_sub : OpR X (binaryOp .Sub) (lift2 X.K rSub) := by
  rintro pins s σ H x y v u Q I rx ry ⟨W, m, a, b, F, e, S, xa, yb, ⟨i, j, rfl, rfl, h⟩, k⟩
  subst e
  cases xa; cases yb
  exact op_sub pins s σ _ _ _ v u Q I rx ry ⟨_, _, rfl, rfl, fin0 S k h (.int _)⟩
def MulB (i j : Int) : Prop := CMul i j ∨ CMulW i j
def rMul : R2D := fun a b m F => match a, b with
  | .int i, .int j => MulB i j ∧ F (.int (i * j)) m
  | .str x, .int n => MulOk x n ∧ F (.str (Txt.mul x n)) m
  | .tup x, .int n => x ≠ [] ∧ 2 ≤ n ∧ n ≤ 1000 ∧ x.length ≤ 1000 ∧ F (.tup (List.replicate n.toNat x).flatten) m
  | a, .int n => ∃ x, items m a = some x ∧ -(2 ^ 63) ≤ n ∧ n < 2 ^ 63 ∧ x.length * n.toNat ≤ sizeLine ∧ F (.lst (List.replicate n.toNat x).flatten) m
  | _, _ => False
theorem o_mul : OpR X (binaryOp .Mult) (lift2 X.K rMul) := by
  intro pins s σ H x y v u Q I rx ry ⟨W, m, a, b, F, e, S, xa, yb, h, k⟩
  subst e
  unfold rMul at h
  split at h
  · cases xa; cases yb
    rcases h.1 with h1 | h1
    · exact op_mul pins s σ _ _ _ v u Q I rx ry ⟨_, _, rfl, rfl, h1, fin0 S k h.2 (.int _)⟩
    · exact op_mulW pins s σ _ _ _ v u Q I rx ry ⟨_, _, rfl, rfl, h1, fin0 S k h.2 (.int _)⟩
  · cases xa; cases yb
    obtain ⟨t, rfl⟩ := rx
    obtain ⟨t', rfl⟩ := ry
    exact SB.mul h.1 fun t2 k2 => ⟨.str (Txt.mul _ _), _, I.tok _, ⟨_, rfl⟩, fin0 S k h.2 (.str _)⟩
  · have ha : ∃ p, x = .ref p := by cases xa <;> exact ⟨_, rfl⟩
    obtain ⟨p, rfl⟩ := ha
    cases yb
    obtain ⟨xs, t1, q1⟩ := xa.sqT
    obtain ⟨h1, h2, h3, h4, h5⟩ := h
    refine op_repT pins s σ _ _ _ v u Q I rx ry ⟨p, _, xs, rfl, rfl, t1, fun z => ?_, h2, h3, by rw [q1.length]; exact h4, fun r hr => finT S k h5 (q1.rep _) hr⟩
    subst z; cases q1; exact h1 rfl
  · cases yb
    obtain ⟨ds, h1, h2, h3, h4, h5⟩ := h
    obtain ⟨p, xs, rfl, e1, q1⟩ := xa.items S h1
    exact op_rep pins s σ _ _ _ v u Q I rx ry ⟨p, _, xs, rfl, rfl, e1, h2, h3, by rw [q1.length]; exact h4, fun r hr => finL S k h5 (q1.rep _) hr⟩
  · exact h.elim
def rMod : R2D := fun a b m F => ∃ i j, a = .int i ∧ b = .int j ∧ 0 < j ∧ F (.int (i % j)) m
theorem o_mod : OpR X (binaryOp .Mod) (lift2 X.K rMod) := by
  rintro pins s σ H x y v u Q I rx ry ⟨W, m, a, b, F, e, S, xa, yb, ⟨i, j, rfl, rfl, hj, h⟩, k⟩
  subst e
  cases xa; cases yb
  exact op_mod pins s σ _ _ _ v u Q I rx ry ⟨_, _, rfl, rfl, hj, fin0 S k h (.int _)⟩
def rFdiv : R2D := fun a b m F => ∃ i j, a = .int i ∧ b = .int j ∧ 0 < j ∧ j.natAbs.log2 < 9000 ∧ F (.int (i / j)) m
theorem o_fdiv : OpR X (binaryOp .FloorDiv) (lift2 X.K rFdiv) := by
  rintro pins s σ H x y v u Q I rx ry ⟨W, m, a, b, F, e, S, xa, yb, ⟨i, j, rfl, rfl, hj, hj2, h⟩, k⟩
  subst e
  cases xa; cases yb
  exact op_fdivW pins s σ _ _ _ v u Q I rx ry ⟨_, _, rfl, rfl, ⟨hj, hj2⟩, fin0 S k h (.int _)⟩
def rNeg : R1D := fun a m F => ∃ i, a = .int i ∧ F (.int (-i)) m
theorem o_neg : UnR X (unaryOp .USub) (lift1 X.K rNeg) := by
  rintro pins s σ H x v Q I rx ⟨W, m, a, F, e, S, xa, ⟨i, rfl, h⟩, k⟩
  subst e
  cases xa
  exact un_neg pins s σ _ _ v Q I rx ⟨_, rfl, fin0 S k h (.int _)⟩

/-! ### comparisons -/
def rCmpI (p : Int → Int → Bool) : R2D := fun a b m F => ∃ i j, a = .int i ∧ b = .int j ∧ F (.bl (p i j)) m
theorem o_cmpI {op : CmpOp} {p : Int → Int → Bool} (h0 : OpR X (compareOp op) (rI0 fun i j => .bl (p i j))) : OpR X (compareOp op) (lift2 X.K (rCmpI p)) := by
  rintro pins s σ H x y v u Q I rx ry ⟨W, m, a, b, F, e, S, xa, yb, ⟨i, j, rfl, rfl, h⟩, k⟩
  subst e
  cases xa; cases yb
  exact h0 pins s σ _ _ _ v u Q I rx ry ⟨_, _, rfl, rfl, fin0 S k h (.bl _)⟩
def rLt : R2D := rCmpI fun i j => decide (i < j)
def rLe : R2D := rCmpI fun i j => decide (i ≤ j)
def rGt : R2D := rCmpI fun i j => decide (j < i)
def rGe : R2D := rCmpI fun i j => decide (j ≤ i)
theorem o_lt : OpR X (compareOp .Lt) (lift2 X.K rLt) := o_cmpI op_lt
theorem o_le : OpR X (compareOp .LtE) (lift2 X.K rLe) := o_cmpI op_le
theorem o_gt : OpR X (compareOp .Gt) (lift2 X.K rGt) := o_cmpI op_gt
theorem o_ge : OpR X (compareOp .GtE) (lift2 X.K rGe) := o_cmpI op_ge

/-! ### data as the library's trees -/
mutual
def toPy : Dat → Option PyData
  | .non => some .none
  | .bl b => some (.bool b)
  | .int i => some (.int i)
  | .str x => some (.str x)
  | .tup ds => (toPys ds).map .tuple
  | .lst ds => (toPys ds).map .list
  | _ => none
def toPys : List Dat → Option (List PyData)
  | [] => some []
  | d :: ds => match toPy d, toPys ds with
    | some p, some ps => some (p :: ps)
    | _, _ => none
end
mutual
theorem D.dp {K : PySem.W.Frag} {W : Wd} : ∀ {d : Dat} {v : V} {p : PyData}, D K W v d → toPy d = some p → Dp K W.H v p
  | .non, _, _, h, e => by cases h; simp only [toPy] at e; cases e; exact .non
  | .bl b, _, _, h, e => by cases h; simp only [toPy] at e; cases e; exact .bl b
  | .int i, _, _, h, e => by cases h; simp only [toPy] at e; cases e; exact .int i
  | .str x, _, _, h, e => by cases h; simp only [toPy] at e; cases e; exact .str x
  | .tup ds, v, _, h, e => by
    simp only [toPy, Option.map_eq_some_iff] at e
    obtain ⟨ps, e1, rfl⟩ := e
    have ha : ∃ p, v = .ref p := by cases h <;> exact ⟨_, rfl⟩
    obtain ⟨a, rfl⟩ := ha
    obtain ⟨xs, t, q⟩ := h.sqT
    exact .tup t (DAll.dp q e1)
  | .lst ds, v, _, h, e => by
    simp only [toPy, Option.map_eq_some_iff] at e
    obtain ⟨ps, e1, rfl⟩ := e
    have ha : ∃ p, v = .ref p := by cases h <;> exact ⟨_, rfl⟩
    obtain ⟨a, rfl⟩ := ha
    obtain ⟨xs, t, q⟩ := h.sqL
    exact .lst (SqL.of t) (DAll.dp q e1)
  | .dct _, _, _, _, e => by simp [toPy] at e
  | .obj _ _, _, _, _, e => by simp [toPy] at e
  | .ref _, _, _, _, e => by simp [toPy] at e
  | .scr _, _, _, _, e => by simp [toPy] at e
theorem DAll.dp {K : PySem.W.Frag} {W : Wd} : ∀ {ds : List Dat} {vs : List V} {ps : List PyData}, DAll K W vs ds → toPys ds = some ps → DpAll K W.H vs ps
  | [], _, _, h, e => by cases h; simp only [toPys] at e; cases e; exact .nil
  | d :: ds, _, _, h, e => by
    simp only [toPys] at e
    cases h with
    | cons h1 h2 =>
      split at e
      · rename_i p ps e1 e2
        cases e
        exact .cons (D.dp h1 e1) (DAll.dp h2 e2)
      · cases e
end
/-- .. a cell read through -/
def viewPy (m : Mu) : Dat → Option PyData
  | .ref n => match m n with
    | some (.lst ds) => (toPys ds).map .list
    | _ => none
  | d => toPy d
theorem D.view {K : PySem.W.Frag} {W : Wd} {m : Mu} {d : Dat} {v : V} {p : PyData} (S : Sim K W m) (h : D K W v d) (e : viewPy m d = some p) : Dp K W.H v p := by
  cases d with
  | ref n =>
    simp only [viewPy] at e
    split at e
    · rename_i ds q
      simp only [Option.map_eq_some_iff] at e
      obtain ⟨ps, e1, rfl⟩ := e
      obtain ⟨a, xs, rfl, h1, h2⟩ := h.items S (d := .ref n) (ds := ds) (by simp [DL.items, q])
      exact .lst (SqL.of h1) (h2.dp e1)
    · cases e
  | _ => exact h.dp e

/-! cells read through wherever they stand -/
mutual
def viewM (m : Mu) : Dat → Option PyData
  | .ref n => match m n with
    | some (.lst ds) => (toPys ds).map .list
    | _ => none
  | .tup ds => (viewsM m ds).map .tuple
  | .lst ds => (viewsM m ds).map .list
  | .non => some .none
  | .bl b => some (.bool b)
  | .int i => some (.int i)
  | .str x => some (.str x)
  | .dct _ => none
  | .dfK _ => none
  | .ktp _ => none
  | .dfT _ => none
  | .obj _ _ => none
  | .scr _ => none
def viewsM (m : Mu) : List Dat → Option (List PyData)
  | [] => some []
  | d :: ds => match viewM m d, viewsM m ds with
    | some p, some ps => some (p :: ps)
    | _, _ => none
end
mutual
theorem D.viewM {K : PySem.W.Frag} {W : Wd} {m : Mu} (S : Sim K W m) : ∀ {d : Dat} {v : V} {p : PyData}, D K W v d → viewM m d = some p → Dp K W.H v p
  | .non, _, _, h, e => by cases h; simp only [DL.viewM] at e; cases e; exact .non
  | .bl b, _, _, h, e => by cases h; simp only [DL.viewM] at e; cases e; exact .bl b
  | .int i, _, _, h, e => by cases h; simp only [DL.viewM] at e; cases e; exact .int i
  | .str x, _, _, h, e => by cases h; simp only [DL.viewM] at e; cases e; exact .str x
  | .tup ds, v, _, h, e => by
    simp only [DL.viewM, Option.map_eq_some_iff] at e
    obtain ⟨ps, e1, rfl⟩ := e
    have ha : ∃ p, v = .ref p := by cases h <;> exact ⟨_, rfl⟩
    obtain ⟨a, rfl⟩ := ha
    obtain ⟨xs, t, q⟩ := h.sqT
    exact .tup t (DAll.viewM S q e1)
  | .lst ds, v, _, h, e => by
    simp only [DL.viewM, Option.map_eq_some_iff] at e
    obtain ⟨ps, e1, rfl⟩ := e
    have ha : ∃ p, v = .ref p := by cases h <;> exact ⟨_, rfl⟩
    obtain ⟨a, rfl⟩ := ha
    obtain ⟨xs, t, q⟩ := h.sqL
    exact .lst (SqL.of t) (DAll.viewM S q e1)
  | .dct _, _, _, _, e => by simp [DL.viewM] at e
  | .dfK _, _, _, _, e => by simp [DL.viewM] at e
  | .ktp _, _, _, _, e => by simp [DL.viewM] at e
  | .dfT _, _, _, _, e => by simp [DL.viewM] at e
  | .obj _ _, _, _, _, e => by simp [DL.viewM] at e
  | .ref n, _, _, h, e => by
    simp only [DL.viewM] at e
    split at e
    · rename_i ds q
      simp only [Option.map_eq_some_iff] at e
      obtain ⟨ps, e1, rfl⟩ := e
      obtain ⟨a, xs, rfl, h1, h2⟩ := h.items S (d := .ref n) (ds := ds) (by simp [DL.items, q])
      exact .lst (SqL.of h1) (h2.dp e1)
    · cases e
  | .scr _, _, _, _, e => by simp [DL.viewM] at e
theorem DAll.viewM {K : PySem.W.Frag} {W : Wd} {m : Mu} (S : Sim K W m) : ∀ {ds : List Dat} {vs : List V} {ps : List PyData}, DAll K W vs ds → viewsM m ds = some ps → DpAll K W.H vs ps
  | [], _, _, h, e => by cases h; simp only [DL.viewsM] at e; cases e; exact .nil
  | d :: ds, _, _, h, e => by
    simp only [DL.viewsM] at e
    cases h with
    | cons h1 h2 =>
      split at e
      · rename_i p ps e1 e2
        cases e
        exact .cons (D.viewM S h1 e1) (DAll.viewM S h2 e2)
      · cases e
end
/-- a cell that holds cells -/
def viewR (m : Mu) : Dat → Option PyData
  | .ref n => match m n with
    | some (.lst ds) => (viewsM m ds).map .list
    | _ => none
  | _ => none
theorem D.viewR {K : PySem.W.Frag} {W : Wd} {m : Mu} {d : Dat} {v : V} {p : PyData} (S : Sim K W m) (h : D K W v d) (e : viewR m d = some p) : Dp K W.H v p := by
  cases d with
  | ref n =>
    simp only [DL.viewR] at e
    split at e
    · rename_i ds q
      simp only [Option.map_eq_some_iff] at e
      obtain ⟨ps, e1, rfl⟩ := e
      obtain ⟨a, xs, rfl, h1, h2⟩ := h.items S (d := .ref n) (ds := ds) (by simp [DL.items, q])
      exact .lst (SqL.of h1) (DAll.viewM S h2 e1)
    · cases e
  | _ => cases e
inductive DView (m : Mu) (d : Dat) (p : PyData) : Prop
  | inl (h : viewPy m d = some p)
  | inr (h : viewM m d = some p)
  | nested (h : viewR m d = some p)
theorem D.dview {K : PySem.W.Frag} {W : Wd} {m : Mu} {d : Dat} {v : V} {p : PyData} (S : Sim K W m) (h : D K W v d) (e : DView m d p) : Dp K W.H v p := by
  rcases e with e | e | e
  · exact h.view S e
  · exact h.viewM S e
  · exact h.viewR S e

/-! ### ==, != -/
def eqS : Dat → Dat → Option Bool
  | .non, .non => some true
  | .bl a, .bl b => some (a == b)
  | .int a, .int b => some (a == b)
  | .str a, .str b => some (a == b)
  | .non, .bl _ | .non, .int _ | .non, .str _ | .bl _, .non | .int _, .non | .str _, .non => some false
  | .int _, .str _ | .str _, .int _ | .bl _, .str _ | .str _, .bl _ => some false
  | _, _ => none
theorem eqS_scal {K : PySem.W.Frag} {W : Wd} {a b : Dat} {x y : V} {k : Bool} (xa : D K W x a) (yb : D K W y b) (e : eqS a b = some k) : scal x y = true ∧ decide (x = y) = k := by
  cases a <;> cases b <;> simp only [eqS] at e <;> cases e <;> cases xa <;> cases yb <;> refine ⟨rfl, ?_⟩ <;>
    first
      | exact dec_int
      | exact dec_bl
      | exact dec_str
      | simp
def rEq : R2D := fun a b m F => match eqS a b with
  | some k => F (.bl k) m
  | none => ∃ p q, DView m a p ∧ DView m b q ∧ SeqAt.shaped p = true ∧ SeqAt.shaped q = true ∧ F (.bl (PyData.eqv p q)) m
theorem o_eq (hu : X.A.units + 64 < cLine) : OpR X (compareOp .Eq) (lift2 X.K rEq) := by
  intro pins s σ H x y v u Q I rx ry ⟨W, m, a, b, F, e, S, xa, yb, h, k⟩
  subst e
  unfold rEq at h
  split at h
  · rename_i c e
    obtain ⟨h1, h2⟩ := eqS_scal xa yb e
    exact op_eq pins s σ _ _ _ v u Q I rx ry ⟨h1, by rw [h2]; exact fin0 S k h (.bl _)⟩
  · obtain ⟨p, q, h1, h2, h3, h4, h5⟩ := h
    exact op_eqD hu pins s σ _ _ _ v u Q I rx ry ⟨p, q, xa.dview S h1, yb.dview S h2, h3, h4, fin0 S k h5 (.bl _)⟩
def rNe : R2D := fun a b m F => match eqS a b with
  | some k => F (.bl (!k)) m
  | none => ∃ p q, DView m a p ∧ DView m b q ∧ SeqAt.shaped p = true ∧ SeqAt.shaped q = true ∧ F (.bl (!PyData.eqv p q)) m
theorem o_ne (hu : X.A.units + 64 < cLine) : OpR X (compareOp .NotEq) (lift2 X.K rNe) := by
  intro pins s σ H x y v u Q I rx ry ⟨W, m, a, b, F, e, S, xa, yb, h, k⟩
  subst e
  unfold rNe at h
  split at h
  · rename_i c e
    obtain ⟨h1, h2⟩ := eqS_scal xa yb e
    exact op_ne pins s σ _ _ _ v u Q I rx ry ⟨h1, by rw [h2]; exact fin0 S k h (.bl _)⟩
  · obtain ⟨p, q, h1, h2, h3, h4, h5⟩ := h
    exact op_neD hu pins s σ _ _ _ v u Q I rx ry ⟨p, q, xa.dview S h1, yb.dview S h2, h3, h4, fin0 S k h5 (.bl _)⟩

/-! ### in, not in: flat items -/
def vflat : Dat → Option V
  | .non => some .non
  | .bl b => some (.bl b)
  | .int i => some (.int i)
  | .str x => some (.str x)
  | _ => none
theorem D.flat {K : PySem.W.Frag} {W : Wd} {d : Dat} {v u : V} (h : D K W v d) (e : vflat d = some u) : v = u ∧ flatV u = true := by
  cases d <;> simp only [vflat] at e <;> cases e <;> cases h <;> exact ⟨rfl, rfl⟩
def eqF (d e : Dat) : Bool := match vflat d, vflat e with
  | some u, some v => eqV u v
  | _, _ => false
def isFlat (d : Dat) : Bool := (vflat d).isSome
theorem DAll.flat {K : PySem.W.Frag} {W : Wd} {x : V} {d : Dat} (hx : vflat d = some x) : ∀ {vs : List V} {ds : List Dat}, DAll K W vs ds → ds.all isFlat = true → vs.all flatV = true ∧ inV x vs = ds.any fun e => eqF e d
  | _, _, .nil, _ => ⟨rfl, rfl⟩
  | v :: vs, e :: es, .cons h t, f => by
    rw [List.all_cons, Bool.and_eq_true] at f
    obtain ⟨h1, h2⟩ := DAll.flat hx t f.2
    have f1 := f.1
    unfold isFlat at f1
    obtain ⟨u, hu⟩ := Option.isSome_iff_exists.mp f1
    obtain ⟨rfl, fu⟩ := h.flat hu
    refine ⟨by rw [List.all_cons, fu, h1]; rfl, ?_⟩
    unfold inV at h2 ⊢
    rw [List.any_cons, List.any_cons, h2]
    congr 1
    simp only [eqF, hu, hx]
def rInF (neg : Bool) : R2D := fun a b m F => ∃ ds, (b = .tup ds ∨ b = .ktp ds ∨ items m b = some ds) ∧ isFlat a = true ∧ ds.all isFlat = true ∧ F (.bl (if neg then !(ds.any fun e => eqF e a) else ds.any fun e => eqF e a)) m
theorem inF_ok {neg : Bool} {K : PySem.W.Frag} {x y : V} {H : Hp} {Q : VK} (h : lift2 K (rInF neg) x y H Q) : rIn K neg x y H Q := by
  obtain ⟨W, m, a, b, F, e, S, xa, yb, ⟨ds, hb, fa, fs, h⟩, k⟩ := h
  subst e
  unfold isFlat at fa
  obtain ⟨u, hu⟩ := Option.isSome_iff_exists.mp fa
  obtain ⟨rfl, fu⟩ := xa.flat hu
  have fin : ∀ {xs : List V}, DAll K W xs ds → Q (.bl (if neg then !inV x xs else inV x xs)) W.H := fun {xs} q => by
    rw [(q.flat hu fs).2]
    exact k W m _ _ (.refl W) S (.bl _) h
  rcases hb with rfl | rfl | hb
  · have ha : ∃ p, y = .ref p := by cases yb <;> exact ⟨_, rfl⟩
    obtain ⟨p, rfl⟩ := ha
    obtain ⟨xs, t, q⟩ := yb.sqT
    exact ⟨p, xs, rfl, .inr t, fu, (q.flat hu fs).1, fin q⟩
  · cases yb with
    | @ktup p xs ds t q => exact ⟨p, xs, rfl, .inr (.inr t), fu, (q.flat hu fs).1, fin q⟩
  · obtain ⟨p, xs, rfl, e1, q⟩ := yb.items S hb
    exact ⟨p, xs, rfl, .inl (SqL.of e1), fu, (q.flat hu fs).1, fin q⟩
theorem o_inF : OpR X (compareOp .In) (lift2 X.K (rInF false)) := fun pins s σ H x y v u Q I rx ry h => op_in_seq pins s σ H x y v u Q I rx ry (inF_ok h)
theorem o_ninF : OpR X (compareOp .NotIn) (lift2 X.K (rInF true)) := fun pins s σ H x y v u Q I rx ry h => op_notIn_seq pins s σ H x y v u Q I rx ry (inF_ok h)

/-! ### is None -/
def isNon : Dat → Bool
  | .non => true
  | _ => false
def rIsN : R2D := fun a b m F => b = .non ∧ F (.bl (isNon a)) m
def rNotN : R2D := fun a b m F => b = .non ∧ F (.bl (!isNon a)) m
theorem D.nonD {K : PySem.W.Frag} {W : Wd} {d : Dat} {v : V} (h : D K W v d) : decide (v = .non) = isNon d := by
  cases h <;> simp [isNon]
theorem o_isN : OpR X (compareOp .Is) (lift2 X.K rIsN) := by
  rintro pins s σ H x y v u Q I rx ry ⟨W, m, a, b, F, e, S, xa, yb, ⟨rfl, h⟩, k⟩
  subst e
  cases yb
  exact op_isN pins s σ _ _ _ v u Q I rx ry ⟨rfl, by rw [xa.nonD]; exact fin0 S k h (.bl _)⟩
theorem o_notN : OpR X (compareOp .IsNot) (lift2 X.K rNotN) := by
  rintro pins s σ H x y v u Q I rx ry ⟨W, m, a, b, F, e, S, xa, yb, ⟨rfl, h⟩, k⟩
  subst e
  cases yb
  exact op_notN pins s σ _ _ _ v u Q I rx ry ⟨rfl, by rw [xa.nonD]; exact fin0 S k h (.bl _)⟩

/-! ### a[i] -/
def rIx : R2D := fun a b m F => ∃ i, b = .int i ∧ match a with
  | .tup ds => ∃ d, atI ds i = some d ∧ F d m
  | .str z => z.length ≤ sizeLine ∧ ∃ c, atI z.cps.toList i = some c ∧ F (.str ⟨#[c]⟩) m
  | a => ∃ ds d, items m a = some ds ∧ atI ds i = some d ∧ F d m
theorem DAll.atI {K : PySem.W.Frag} {W : Wd} {vs : List V} {ds : List Dat} {i : Int} {d : Dat} (h : DAll K W vs ds) (e : atI ds i = some d) : ∃ v, L2.atI vs i = some v ∧ D K W v d := by
  unfold L2.atI at e ⊢
  rw [h.length]
  cases q : ixN ds.length i with
  | none => rw [q] at e; cases e
  | some j =>
    rw [q] at e
    obtain ⟨v, h1, h2⟩ := h.get (i := j) (d := d) e
    exact ⟨v, h1, h2⟩
theorem o_ix : IxR X (lift2 X.K rIx) := by
  rintro ve se pins s σ H x y v u Q I rx ry ⟨W, m, a, b, F, e, S, xa, yb, ⟨i, rfl, h⟩, k⟩ hsub
  subst e
  cases yb
  split at h
  · obtain ⟨d, h1, h2⟩ := h
    have ha : ∃ p, x = .ref p := by cases xa <;> exact ⟨_, rfl⟩
    obtain ⟨p, rfl⟩ := ha
    obtain ⟨xs, t1, q1⟩ := xa.sqT
    obtain ⟨w, h3, h4⟩ := q1.atI h1
    refine ix_tup ve se pins s σ _ _ _ v u Q I rx ry ⟨p, xs, i, w, rfl, rfl, t1, h3, fin0 S k h2 h4⟩ hsub
  · obtain ⟨hz, c, h1, h2⟩ := h
    cases xa
    refine ix_str ve se pins s σ _ _ _ v u Q I rx ry ⟨_, i, c, rfl, rfl, hz, h1, fin0 S k h2 (.str _)⟩ hsub
  · obtain ⟨ds, d, h0, h1, h2⟩ := h
    obtain ⟨p, xs, rfl, e1, q1⟩ := xa.items S h0
    obtain ⟨w, h3, h4⟩ := q1.atI h1
    refine ix_list ve se pins s σ _ _ _ v u Q I rx ry ⟨p, xs, i, w, rfl, rfl, SqL.of e1, h3, fin0 S k h2 h4⟩ hsub
theorem de_ix {a b : Expr} {wa wb : WE} {pos : Pos} (ha : DE X a wa) (hb : DE X b wb) (hs : PlainIx b := by exact fun _ _ => rfl) : DE X (.Subscript a b pos) (dOp rIx wa wb) := PE.imp (pe_ix o_ix ha hb hs) fun _ _ _ h => op_lift h

/-! ### a[lo:hi] -/
abbrev WO := Ro → Mu → (Option Int → Mu → Prop) → Prop
def dNoPart : WO := fun _ m F => F none m
def dPart (w : WE) : WO := fun r m F => w r m fun d m1 => ∃ i, d = .int i ∧ F (some i) m1
def liftO (K : PySem.W.Frag) (w : WO) : TO := fun σ H Q => ∃ (W : Wd) (r : Ro) (m : Mu) (F : Option Int → Mu → Prop), W.H = H ∧ Sim K W m ∧ Env K W σ r ∧ w r m F ∧
  ∀ W' m' o, Le W W' → Sim K W' m' → F o m' → Q o W'.H
theorem PO.imp {e : Option Expr} {t t' : TO} (h : PO X e t) (k : ∀ σ H Q, t' σ H Q → t σ H Q) : PO X e t' := ⟨fun pins s σ H Q I q => h.run pins s σ H Q I (k σ H Q q)⟩
theorem do_none : PO X none (liftO X.K dNoPart) := PO.imp po_none fun σ H Q ⟨W, r, m, F, e, S, V, h2, k⟩ => by subst e; exact k W m none (.refl W) S h2
theorem do_some {e : Expr} {w : WE} (h : DE X e w) : PO X (some e) (liftO X.K (dPart w)) := PO.imp (po_some h) fun σ H Q ⟨W, r, m, F, e, S, V, h2, k⟩ => ⟨W, r, m, _, e, S, V, h2, fun W1 m1 v d l1 S1 x1 ⟨i, hd, q⟩ => by
  subst hd
  cases x1
  exact ⟨i, rfl, k W1 m1 _ l1 S1 q⟩⟩
def cutD (xs : List Dat) (lo hi : Option Int) : List Dat := (xs.drop (HT.sIx xs.length 0 lo)).take (HT.sIx xs.length xs.length hi - HT.sIx xs.length 0 lo)
def rSl (lo hi : Option Int) : R1D := fun a m F => match a with
  | .tup ds => F (.tup (cutD ds lo hi)) m
  | .str z => z.length ≤ sizeLine ∧ F (.str (cutS z lo hi)) m
  | .scr ns => F (.lst (cutD (ns.map .int) lo hi)) m
  | a => ∃ ds, items m a = some ds ∧ F (.lst (cutD ds lo hi)) m
theorem dall_ints {K : PySem.W.Frag} {W : Wd} : ∀ ns : List Int, DAll K W (ns.map V.int) (ns.map Dat.int)
  | [] => .nil
  | n :: ns => .cons (.int n) (dall_ints ns)
theorem D.sqScr {K : PySem.W.Frag} {W : Wd} {v : V} {ns : List Int} (h : D K W v (.scr ns)) : ∃ a, v = .ref a ∧ SqL K W.H a (ns.map V.int) := by
  cases h with
  | scr s e => exact ⟨_, rfl, .inl (.inr ⟨_, e⟩)⟩
  | kscr e => exact ⟨_, rfl, .inr e⟩
def dSl (wa : WE) (wl wh : WO) : WE := fun r m F => wa r m fun x m1 => wl r m1 fun l m2 => wh r m2 fun h m3 => rSl l h x m3 F
theorem DAll.cut {K : PySem.W.Frag} {W : Wd} {vs : List V} {ds : List Dat} (h : DAll K W vs ds) (lo hi : Option Int) : DAll K W (cutV vs lo hi) (cutD ds lo hi) := by
  unfold cutV cutD
  rw [h.length]
  exact (h.drop _).take _
/-- a list's or a tuple's slice made from the frozen list at a world W: x of D at W -/
def rSlAll (K : PySem.W.Frag) : V → Option Int → Option Int → Hp → VK → Prop := fun x lo hi H Q => ∃ (W : Wd) (m : Mu) (a : Dat) (F : KD), W.H = H ∧ Sim K W m ∧ D K W x a ∧ rSl lo hi a m F ∧
  ∀ W' m' v d, Le W W' → Sim K W' m' → D K W' v d → F d m' → Q v W'.H
theorem sl_all : SlR X (rSlAll X.K) := by
  intro pins s σ H x v vl vu lo hi sl Q I rx hs pl pu ⟨W, m, a, F, e, S, xa, h, k⟩
  subst e
  unfold rSl at h
  split at h
  · have ha : ∃ p, x = .ref p := by cases xa <;> exact ⟨_, rfl⟩
    obtain ⟨p, rfl⟩ := ha
    obtain ⟨xs, t1, q1⟩ := xa.sqT
    refine sl_tupA pins s σ _ _ v vl vu lo hi sl Q I rx hs pl pu ⟨p, xs, rfl, t1, fun hw => ?_, fun _ r hr => finT S k h (q1.cut lo hi) hr⟩
    rename_i ds
    have e2 : cutD ds lo hi = ds := by
      unfold cutD
      rw [← q1.length, hw.1, hw.2, List.drop_zero, Nat.sub_zero, q1.length]
      exact List.take_length
    rw [e2] at h
    exact fin0 S k h xa
  · cases xa
    exact sl_str pins s σ _ _ v vl vu lo hi sl Q I rx hs pl pu ⟨_, rfl, h.1, fin0 S k h.2 (.str _)⟩
  · obtain ⟨p, rfl, t1⟩ := xa.sqScr
    exact sl_list pins s σ _ _ v vl vu lo hi sl Q I rx hs pl pu ⟨p, _, rfl, t1, fun r hr => finL S k h ((dall_ints _).cut lo hi) hr⟩
  · obtain ⟨ds, h0, h1⟩ := h
    obtain ⟨p, xs, rfl, e1, q1⟩ := xa.items S h0
    exact sl_list pins s σ _ _ v vl vu lo hi sl Q I rx hs pl pu ⟨p, xs, rfl, SqL.of e1, fun r hr => finL S k h1 (q1.cut lo hi) hr⟩
theorem de_sl {a : Expr} {lo hi : Option Expr} {wa : WE} {wl wh : WO} {pos p2 : Pos} (ha : DE X a wa) (hl : PO X lo (liftO X.K wl)) (hh : PO X hi (liftO X.K wh)) : DE X (.Subscript a (.Slice lo hi none p2) pos) (dSl wa wl wh) :=
  PE.imp (pe_slice sl_all ha hl hh) fun σ H Q ⟨W, r, m, F, e, S, V, h2, k⟩ => ⟨W, r, m, _, e, S, V, h2, fun W1 m1 v1 d1 l1 S1 x1 q1 =>
    ⟨W1, r, m1, _, rfl, S1, V.up l1.up, q1, fun W2 m2 l l2 S2 q2 => ⟨W2, r, m2, _, rfl, S2, V.up (l1.trans l2).up, q2, fun W3 m3 h l3 S3 q3 =>
      ⟨W3, m3, d1, F, rfl, S3, x1.up (l2.trans l3).up, q3, fun W4 m4 v d l4 S4 x4 q4 => k W4 m4 v d (((l1.trans l2).trans l3).trans l4) S4 x4 q4⟩⟩⟩⟩
end
end DL

namespace DL
open PySem PySem.Spec PyProof.Rows L2
section
variable {X : Cx} {st : Stmt} {rest : List Stmt} {e : Expr} {pos : Pos} {w : WE} {t u : WS}
/-! ### blocks, small statements -/
def dNext : WS := fun G r m => G.nx r m
def dSeq (t u : WS) : WS := fun G r m => t { G with nx := u G } r m
theorem dss_nil : DSs X [] dNext := PSs.imp pss_nil fun E σ H ⟨W, r, m, G, e, S, V, h, k1, _⟩ => by subst e; exact k1 W m σ r (.refl W) S V h
theorem seq_lift {E : Ends} {σ : L2.St} {H : Hp} (h : liftS X.K (dSeq t u) E σ H) : tSeq (liftS X.K t) (liftS X.K u) E σ H := by
  obtain ⟨W, r, m, G, e, S, V, h, k1, k2, k3, k4⟩ := h
  refine ⟨W, r, m, { G with nx := u G }, e, S, V, h, fun W1 m1 σ1 r1 l1 S1 V1 q1 => ?_, k2, k3, k4⟩
  exact ⟨W1, r1, m1, G, rfl, S1, V1, q1, fun W' m' σ' r' l => k1 W' m' σ' r' (l1.trans l), fun W' m' v d l => k2 W' m' v d (l1.trans l), fun W' m' σ' r' l => k3 W' m' σ' r' (l1.trans l), fun W' m' σ' r' l => k4 W' m' σ' r' (l1.trans l)⟩
theorem dss_cons (h1 : DS X st t) (h2 : DSs X rest u) : DSs X (st :: rest) (dSeq t u) := PSs.imp (pss_cons h1 h2) fun _ _ _ h => seq_lift h
theorem dss_one (h1 : DS X st t) : DSs X [st] t := pss_one h1
def dBreak : WS := fun G r m => G.bk r m
def dCont : WS := fun G r m => G.ct r m
theorem ds_pass : DS X (.Pass pos) dNext := PS.imp ps_pass fun E σ H ⟨W, r, m, G, e, S, V, h, k1, _⟩ => by subst e; exact k1 W m σ r (.refl W) S V h
theorem ds_break : DS X (.Break pos) dBreak := PS.imp ps_break fun E σ H ⟨W, r, m, G, e, S, V, h, _, _, k3, _⟩ => by subst e; exact k3 W m σ r (.refl W) S V h
theorem ds_continue : DS X (.Continue pos) dCont := PS.imp ps_continue fun E σ H ⟨W, r, m, G, e, S, V, h, _, _, _, k4⟩ => by subst e; exact k4 W m σ r (.refl W) S V h
theorem ds_doc {x j pos'} : DS X (.Expr (.Constant (.str x) j pos) pos') dNext := PS.imp ps_doc fun E σ H ⟨W, r, m, G, e, S, V, h, k1, _⟩ => by subst e; exact k1 W m σ r (.refl W) S V h
def dDrop (w : WE) : WS := fun G r m => w r m fun _ m1 => G.nx r m1
theorem ds_expr (he : DE X e w) (hs : swapsWith e none pos.line X.env = pure false := by rfl) : DS X (.Expr e pos) (dDrop w) :=
  PS.imp (ps_expr he hs) fun E σ H ⟨W, r, m, G, e, S, V, h, k1, _⟩ => ⟨W, r, m, _, e, S, V, h, fun W1 m1 v d l1 S1 x1 q1 => k1 W1 m1 σ r l1 S1 (V.up l1.up) q1⟩
def dRet (w : WE) : WS := fun G r m => w r m G.rt
theorem ds_ret (he : DE X e w) : DS X (.Return (some e) pos) (dRet w) := PS.imp (ps_ret he) fun E σ H ⟨W, r, m, G, e, S, V, h, k1, k2, _⟩ => ⟨W, r, m, _, e, S, V, h, k2⟩
/-- a cell that is handed back is settled -/
def dRetF (w : WE) : WS := fun G r m => w r m fun d m1 => ∃ n ds, d = .ref n ∧ m1 n = some (.lst ds) ∧ G.rt (.lst ds) (m1.del n)
theorem ds_retF (he : DE X e w) : DS X (.Return (some e) pos) (dRetF w) := PS.imp (ps_ret he) fun E σ H ⟨W, r, m, G, e, S, V, h, k1, k2, _⟩ => ⟨W, r, m, _, e, S, V, h, fun W1 m1 v d l1 S1 x1 ⟨n, ds, hd, hm, q⟩ => by
  subst hd
  obtain ⟨a, rfl⟩ : ∃ a, v = .ref a := by cases x1; exact ⟨_, rfl⟩
  obtain ⟨⟨xs, h1, h2⟩, hi⟩ := D.cell S1 x1 hm
  obtain ⟨l2, S2⟩ := S1.settle hi
  exact k2 ⟨fun b => W1.S b ∨ b = a, W1.io, W1.H⟩ _ _ _ (l1.trans l2) S2 (.lst (.inr rfl) h1 (h2.up l2.up)) q⟩
def dRetN : WS := fun G _ m => G.rt .non m
theorem ds_retN : DS X (.Return none pos) dRetN := PS.imp ps_retN fun E σ H ⟨W, r, m, G, e, S, V, h, k1, k2, _⟩ => by subst e; exact k2 W m _ _ (.refl W) S .non h
def dIfS (c : WT) (t u : WS) : WS := fun G r m => c r m fun b m1 => if b = true then t G r m1 else u G r m1
theorem ds_if {c : Expr} {a b : List Stmt} {wc : WT} (hc : DT X c wc) (ha : DSs X a t) (hb : DSs X b u) : DS X (.If c a b pos) (dIfS wc t u) :=
  PS.imp (ps_if hc ha hb) fun E σ H ⟨W, r, m, G, e, S, V, h, k1, k2, k3, k4⟩ => ⟨W, r, m, _, e, S, V, h, fun W1 m1 b l1 S1 q1 => by
    have fin : ∀ {t : WS}, t G r m1 → liftS X.K t E σ W1.H := fun {t} q => ⟨W1, r, m1, G, rfl, S1, V.up l1.up, q, fun W' m' σ' r' l => k1 W' m' σ' r' (l1.trans l), fun W' m' v d l => k2 W' m' v d (l1.trans l), fun W' m' σ' r' l => k3 W' m' σ' r' (l1.trans l), fun W' m' σ' r' l => k4 W' m' σ' r' (l1.trans l)⟩
    cases b with
    | true => exact fin q1
    | false => exact fin q1⟩
theorem dss_never {sts : List Stmt} : DSs X sts (fun _ _ _ => False) := PSs.imp pss_never fun _ _ _ ⟨_, _, _, _, _, _, _, h, _⟩ => h.elim

/-! ### targets -/
abbrev WG := Dat → Ro → Mu → (Ro → Mu → Prop) → Prop
abbrev WGs := List Dat → Ro → Mu → (Ro → Mu → Prop) → Prop
def KeepsOut (js : List Nat) (σ σ' : L2.St) : Prop := ∀ vs : List Nat, (∀ j ∈ js, j ∈ vs) → wipe σ' vs = wipe σ vs
def liftG (K : PySem.W.Frag) (js : List Nat) (w : WG) : TG := fun v σ H Q => ∃ (W : Wd) (r : Ro) (m : Mu) (d : Dat) (k : Ro → Mu → Prop), W.H = H ∧ Sim K W m ∧ Env K W σ r ∧ D K W v d ∧ w d r m k ∧
  ∀ W' m' σ' r', Le W W' → Sim K W' m' → Env K W' σ' r' → KeepsOut js σ σ' → k r' m' → Q σ' W'.H
def liftGs (K : PySem.W.Frag) (js : List Nat) (w : WGs) : TGs := fun vs σ H Q => ∃ (W : Wd) (r : Ro) (m : Mu) (ds : List Dat) (k : Ro → Mu → Prop), W.H = H ∧ Sim K W m ∧ Env K W σ r ∧ DAll K W vs ds ∧ w ds r m k ∧
  ∀ W' m' σ' r', Le W W' → Sim K W' m' → Env K W' σ' r' → KeepsOut js σ σ' → k r' m' → Q σ' W'.H
abbrev DG (X : Cx) (tg : Expr) (js : List Nat) (w : WG) : Prop := PG X tg (liftG X.K js w)
abbrev DGs (X : Cx) (tgs : List Expr) (js : List Nat) (w : WGs) : Prop := PGs X tgs (liftGs X.K js w)
theorem PG.imp {tg : Expr} {g g' : TG} (h : PG X tg g) (k : ∀ v σ H Q, g' v σ H Q → g v σ H Q) : PG X tg g' := ⟨fun pins s σ H v u Q I r q => h.run pins s σ H v u Q I r (k v σ H Q q)⟩
theorem PGs.imp {tg : List Expr} {g g' : TGs} (h : PGs X tg g) (k : ∀ v σ H Q, g' v σ H Q → g v σ H Q) : PGs X tg g' := ⟨fun pins s σ H v u Q I r q => h.run pins s σ H v u Q I r (k v σ H Q q)⟩
theorem wipe_at (σ : L2.St) (vs : List Nat) (i : Nat) : (wipe σ vs)[i]? = if i ∈ vs then (σ[i]?).map fun _ => none else σ[i]? := by
  induction vs with
  | nil => simp [wipe]
  | cons v vs ih =>
    unfold wipe
    by_cases h : v = i
    · subst h
      rw [List.getElem?_set]
      simp only [if_true, wipe_length, List.mem_cons, true_or]
      by_cases hl : v < σ.length
      · rw [if_pos hl, List.getElem?_eq_getElem hl]; rfl
      · rw [if_neg hl, List.getElem?_eq_none (by omega)]; rfl
    · rw [List.getElem?_set_ne h, ih]
      have : (i ∈ v :: vs) ↔ i ∈ vs := by simp [Ne.symm h]
      simp only [this]
theorem keeps_set (σ : L2.St) (i : Nat) (x : Option V) : KeepsOut [i] σ (σ.set i x) := fun vs h => by
  have hi := h i (by simp)
  apply List.ext_getElem?
  intro j
  rw [wipe_at, wipe_at]
  by_cases hj : i = j
  · subst hj
    rw [if_pos hi, if_pos hi, List.getElem?_set]
    by_cases hl : i < σ.length
    · rw [if_pos rfl, if_pos hl, List.getElem?_eq_getElem hl]; rfl
    · rw [if_pos rfl, if_neg hl, List.getElem?_eq_none (by omega)]
  · rw [List.getElem?_set_ne hj]
theorem KeepsOut.refl (js : List Nat) (σ : L2.St) : KeepsOut js σ σ := fun _ _ => rfl
theorem KeepsOut.trans {js ks : List Nat} {σ σ1 σ2 : L2.St} (a : KeepsOut js σ σ1) (b : KeepsOut ks σ1 σ2) : KeepsOut (js ++ ks) σ σ2 := fun vs h => (b vs fun j hj => h j (by simp [hj])).trans (a vs fun j hj => h j (by simp [hj]))
def dgName (i : Nat) : WG := fun d r m k => k (r.set i (some d)) m
theorem dg_name {i : Nat} {x : Str} (hN : X.N.Nodup) (hi : X.N[i]? = some x) (hx : Loc X.env.scope x) (hf : X.fn x = true ∨ X.env.scope.names.lookup x = some .local := by first | exact .inl rfl | exact .inr rfl | assumption) : DG X (.Name x pos) [i] (dgName i) :=
  PG.imp (pg_name hN hi hx hf) fun v σ H Q ⟨W, r, m, d, k, e, S, V, x, h, q⟩ => by
    subst e
    exact q W m _ _ (.refl W) S (V.set i x) (keeps_set σ i _) h
def dgNil : WGs := fun ds r m k => ds = [] ∧ k r m
def dgCons (g : WG) (gs : WGs) : WGs := fun ds r m k => ∃ d es, ds = d :: es ∧ g d r m fun r1 m1 => gs es r1 m1 k
theorem dgs_nil : DGs X [] [] dgNil := PGs.imp pgs_nil fun v σ H Q ⟨W, r, m, ds, k, e, S, V, x, ⟨h1, h⟩, q⟩ => by
  subst h1
  subst e
  cases x
  exact ⟨rfl, q W m _ _ (.refl W) S V (.refl _ _) h⟩
theorem dgs_cons {e : Expr} {es : List Expr} {js ks : List Nat} {g : WG} {gs : WGs} (h1 : DG X e js g) (h2 : DGs X es ks gs) (hs : (assignEach (e :: es) X.env).map (·.2) = assign e X.env :: (assignEach es X.env).map (·.2) := by rfl) : DGs X (e :: es) (js ++ ks) (dgCons g gs) :=
  PGs.imp (pgs_cons h1 h2 hs) fun v σ H Q ⟨W, r, m, ds, k, e, S, V, x, ⟨d, dr, h3, h⟩, q⟩ => by
    subst h3
    subst e
    cases x with
    | cons x1 x2 =>
      refine ⟨_, _, rfl, W, r, m, d, _, rfl, S, V, x1, h, fun W1 m1 σ1 r1 l1 S1 V1 k1 q1 => ⟨W1, r1, m1, dr, k, rfl, S1, V1, x2.up l1.up, q1, fun W2 m2 σ2 r2 l2 S2 V2 k2 q2 => ?_⟩⟩
      exact q W2 m2 σ2 r2 (l1.trans l2) S2 V2 (k1.trans k2) q2
def dgTup (n : Nat) (gs : WGs) : WG := fun d r m k => ∃ ds, d = .tup ds ∧ ds.length = n ∧ gs ds r m k
theorem dg_tup {es : List Expr} {k : Nat} {js : List Nat} {gs : WGs} {n : Nat} (hc : X.calm = true) (h : DGs X es js gs) (hn : (assignEach es X.env).length = n := by rfl) (hst : (assignEach es X.env).findIdx? (·.1) = none := by rfl) : DG X (.Tuple es k pos) js (dgTup n gs) :=
  PG.imp (pg_tup hc h hn hst) fun v σ H Q ⟨W, r, m, d, k, e, S, V, x, ⟨ds, h1, h2, h⟩, q⟩ => by
    subst h1
    subst e
    obtain ⟨a, rfl⟩ : ∃ a, v = .ref a := by cases x <;> exact ⟨_, rfl⟩
    obtain ⟨xs, t, x1⟩ := x.sqT
    exact ⟨a, xs, rfl, t, by rw [x1.length]; exact h2, W, r, m, ds, k, rfl, S, V, x1, h, q⟩
def dAsg (w : WE) (g : WG) : WS := fun G r m => w r m fun d m1 => g d r m1 G.nx
theorem asg_lift {te : TE} {js : List Nat} {g : WG} {w : WE} {E : Ends} {σ : L2.St} {H : Hp} (h : liftS X.K (dAsg w g) E σ H) (ht : ∀ σ H Q, liftE X.K w σ H Q → te σ H Q) : tAsg te (liftG X.K js g) E σ H := by
  obtain ⟨W, r, m, G, e, S, V, h, k1, _⟩ := h
  refine ht _ _ _ ⟨W, r, m, _, e, S, V, h, fun W1 m1 v d l1 S1 x1 q1 => ⟨W1, r, m1, d, _, rfl, S1, V.up l1.up, x1, q1, fun W2 m2 σ2 r2 l2 S2 V2 _ q2 => k1 W2 m2 σ2 r2 (l1.trans l2) S2 V2 q2⟩⟩
theorem ds_asg {tg : Expr} {js : List Nat} {g : WG} (he : DE X e w) (hg : DG X tg js g) (hs : swapsWithSole [tg] e pos.line X.env = pure false := by rfl) (hw : swappedStores [tg] e X.env = pure none := by rfl)
    (h1 : (assignEach [tg] X.env).map (·.2) = [assign tg X.env] := by rfl) : DS X (.Assign [tg] e pos) (dAsg w g) := PS.imp (ps_asg he hg hs hw h1) fun _ _ _ h => asg_lift h fun _ _ _ z => z
theorem ds_set {i : Nat} {x : Str} {pos' : Pos} (hN : X.N.Nodup) (hi : X.N[i]? = some x) (hx : Loc X.env.scope x) (he : DE X e w) (hs : swapsWith e (some (.Name x pos')) pos.line X.env = pure false := by rfl) (hf : X.fn x = true ∨ X.env.scope.names.lookup x = some .local := by first | exact .inl rfl | exact .inr rfl | assumption) :
    DS X (.Assign [.Name x pos'] e pos) (dAsg w (dgName i)) := PS.imp (ps_set hN hi hx he hs hf) fun E σ H ⟨W, r, m, G, e, S, V, h, k1, _⟩ => ⟨W, r, m, _, e, S, V, h, fun W1 m1 v d l1 S1 x1 q1 => k1 W1 m1 _ _ l1 S1 ((V.up l1.up).set i x1) q1⟩
/-- a, b = e1, e2: two local names -/
def dPar (i j : Nat) (wa : WA) : WS := fun G r m => wa r m fun ds m1 => ∃ d e, ds = [d, e] ∧ G.nx ((r.set i (some d)).set j (some e)) m1
theorem ds_par {i j : Nat} {x y : Str} {a b : Expr} {wa : WA} {px py pt : Pos} {kt k2 pt2} (hc : X.calm = true) (hN : X.N.Nodup) (hi : X.N[i]? = some x) (hj : X.N[j]? = some y) (hij : i ≠ j)
    (hx : X.env.scope.names.lookup x = some .local) (hy : X.env.scope.names.lookup y = some .local) (ha : DA X [a, b] wa)
    (hw : swappedStores [.Tuple [.Name x px, .Name y py] kt pt] (.Tuple [a, b] k2 pt2) X.env = pure (some [x, y]))
    (hs : swapsWithSole [.Tuple [.Name x px, .Name y py] kt pt] (.Tuple [a, b] k2 pt2) pos.line X.env = pure false := by rfl) :
    DS X (.Assign [.Tuple [.Name x px, .Name y py] kt pt] (.Tuple [a, b] k2 pt2) pos) (dPar i j wa) :=
  PS.imp (ps_par hc hN hi hj hij hx hy ha hw hs) fun E σ H ⟨W, r, m, G, e, S, V, h, k1, _⟩ => ⟨W, r, m, _, e, S, V, h, fun W1 m1 vs ds l1 S1 x1 ⟨d, e, hd, q⟩ => by
    subst hd
    cases x1 with
    | cons x1 x2 =>
      cases x2 with
      | cons x2 x3 =>
        cases x3
        exact ⟨_, _, rfl, k1 W1 m1 _ _ l1 S1 (((V.up l1.up).set i x1).set j x2) q⟩⟩

/-! ### o[i] = v, o[i] op= v -/
abbrev WSet := Dat → Dat → Dat → Mu → (Mu → Prop) → Prop
def liftSet (K : PySem.W.Frag) (w : WSet) : TSet := fun o i v H Q => ∃ (W : Wd) (m : Mu) (a b d : Dat) (k : Mu → Prop), W.H = H ∧ Sim K W m ∧ D K W o a ∧ D K W i b ∧ D K W v d ∧ w a b d m k ∧ ∀ W' m', Le W W' → Sim K W' m' → k m' → Q W'.H
def rSet : WSet := fun a b d m k => ∃ n ds i j, a = .ref n ∧ m n = some (.lst ds) ∧ b = .int i ∧ ixN ds.length i = some j ∧ k (m.set n (.lst (ds.set j d)))
theorem o_set : PSet X (liftSet X.K rSet) := by
  rintro pins s σ H o i v ov iv u Q I ro ri rv ⟨W, m, a, b, d, k, e, S, xa, xb, xd, ⟨n, ds, z, j, rfl, hm, rfl, hj, h⟩, q⟩
  subst e
  obtain ⟨p, rfl⟩ : ∃ p, o = .ref p := by cases xa; exact ⟨_, rfl⟩
  cases xb
  obtain ⟨⟨xs, h1, h2⟩, hi⟩ := D.cell S xa hm
  obtain ⟨l2, S2⟩ := S.write (o := .lst (xs.set j v)) (c' := .lst (ds.set j d)) hm hi
  exact set_list pins s σ _ _ _ _ ov iv u Q I ro ri rv ⟨p, xs, z, j, rfl, rfl, h1, by rw [h2.length]; exact hj, q _ _ l2 (S2 ⟨_, upd_same, (h2.up l2.up).set (xd.up l2.up) j⟩) h⟩
def dgSub (wo wi : WE) (t : WSet) : WG := fun d r m k => wo r m fun a m1 => wi r m1 fun b m2 => t a b d m2 fun m3 => k r m3
theorem dg_sub {o i : Expr} {wo wi : WE} {t : WSet} (ho : DE X o wo) (hi : DE X i wi) (hs : PSet X (liftSet X.K t))
    (ha : ∀ v, assign (.Subscript o i pos) X.env v = (do
      let ov ← holding [v] (eval o X.env)
      let iv ← holding [v, ov] (eval i X.env)
      standAt pos
      holding [v, ov, iv] (setItem ov iv v)
      release [v, ov, iv] []) := by intro _; rfl) : DG X (.Subscript o i pos) [] (dgSub wo wi t) :=
  PG.imp (pg_sub ho hi hs ha) fun v σ H Q ⟨W, r, m, d, k, e, S, V, x, h, q⟩ => ⟨W, r, m, _, e, S, V, h, fun W1 m1 v1 d1 l1 S1 x1 q1 => ⟨W1, r, m1, _, rfl, S1, V.up l1.up, q1, fun W2 m2 v2 d2 l2 S2 x2 q2 =>
    ⟨W2, m2, d1, d2, d, _, rfl, S2, x1.up l2.up, x2, x.up (l1.trans l2).up, q2, fun W3 m3 l3 S3 q3 => q W3 m3 σ r ((l1.trans l2).trans l3) S3 (V.up ((l1.trans l2).trans l3).up) (.refl _ _) q3⟩⟩⟩
/-- name op= e -/
def dAug (i : Nat) (w : WE) (o : R2D) : WS := fun G r m => ∃ d, r[i]? = some (some d) ∧ w r m fun e m1 => o d e m1 fun z m2 => G.nx (r.set i (some z)) m2
theorem ds_aug {i : Nat} {x : Str} {op : Operator} {o : R2D} {pos' : Pos} (hN : X.N.Nodup) (hi : X.N[i]? = some x) (hx : Loc X.env.scope x) (he : DE X e w) (ho : PIp X op (lift2 X.K o)) (hf : X.fn x = true ∨ X.env.scope.names.lookup x = some .local := by first | exact .inl rfl | exact .inr rfl | assumption) :
    DS X (.AugAssign (.Name x pos') op e pos) (dAug i w o) := PS.imp (ps_aug hN hi hx he ho hf) fun E σ H ⟨W, r, m, G, e, S, V, ⟨d, hd, h⟩, k1, _⟩ => by
  obtain ⟨v, h1, h2⟩ := V.at_ i d hd
  exact ⟨v, h1, W, r, m, _, e, S, V, h, fun W1 m1 v1 d1 l1 S1 x1 q1 => ⟨W1, m1, d, d1, _, rfl, S1, h2.up l1.up, x1, q1, fun W2 m2 z dz l2 S2 xz qz => k1 W2 m2 _ _ (l1.trans l2) S2 ((V.up (l1.trans l2).up).set i xz) qz⟩⟩
def dAugS (wo wi : WE) (get : R2D) (w : WE) (o : R2D) (t : WSet) : WS := fun G r m => wo r m fun a m1 => wi r m1 fun b m2 => get a b m2 fun x m3 => w r m3 fun y m4 => o x y m4 fun z m5 => t a b z m5 fun m6 => G.nx r m6
theorem ds_augS {o i : Expr} {wo wi : WE} {get ip : R2D} {t : WSet} {op : Operator} {tpos : Pos} (ho : DE X o wo) (hi : DE X i wi) (hg : PGet X (lift2 X.K get)) (he : DE X e w) (hp : PIp X op (lift2 X.K ip)) (hs : PSet X (liftSet X.K t))
    (ha : ∀ ov iv new, augStore i ov iv new = (do holding [new, ov, iv] (setItem ov iv new); release [new, ov, iv] []; pure .next) := by intros; rfl) : DS X (.AugAssign (.Subscript o i tpos) op e pos) (dAugS wo wi get w ip t) :=
  PS.imp (ps_augS ho hi hg he hp hs ha) fun E σ H ⟨W, r, m, G, e, S, V, h, k1, _⟩ => ⟨W, r, m, _, e, S, V, h, fun W1 m1 v1 d1 l1 S1 x1 q1 => ⟨W1, r, m1, _, rfl, S1, V.up l1.up, q1, fun W2 m2 v2 d2 l2 S2 x2 q2 =>
    ⟨W2, m2, d1, d2, _, rfl, S2, x1.up l2.up, x2, q2, fun W3 m3 v3 d3 l3 S3 x3 q3 => ⟨W3, r, m3, _, rfl, S3, V.up ((l1.trans l2).trans l3).up, q3, fun W4 m4 v4 d4 l4 S4 x4 q4 =>
      ⟨W4, m4, d3, d4, _, rfl, S4, x3.up l4.up, x4, q4, fun W5 m5 v5 d5 l5 S5 x5 q5 => ⟨W5, m5, d1, d2, d5, _, rfl, S5, x1.up (((l2.trans l3).trans l4).trans l5).up, x2.up ((l3.trans l4).trans l5).up, x5, q5, fun W6 m6 l6 S6 q6 =>
        k1 W6 m6 σ r (((((l1.trans l2).trans l3).trans l4).trans l5).trans l6) S6 (V.up (((((l1.trans l2).trans l3).trans l4).trans l5).trans l6).up) q6⟩⟩⟩⟩⟩⟩
def rGetL : R2D := fun a b m F => ∃ ds i d, items m a = some ds ∧ b = .int i ∧ 0 ≤ i ∧ ds[i.toNat]? = some d ∧ F d m
theorem o_getL : PGet X (lift2 X.K rGetL) := by
  rintro pins s σ H o i ov iv Q I ro ri ⟨W, m, a, b, F, e, S, xa, xb, ⟨ds, z, d, h0, rfl, hz, h1, h2⟩, k⟩
  subst e
  cases xb
  obtain ⟨p, xs, rfl, e1, q1⟩ := xa.items S h0
  obtain ⟨w, h3, h4⟩ := q1.get h1
  cases ro
  obtain ⟨t, rfl⟩ := ri
  obtain ⟨its, r, pl, hl⟩ := I.list (SqL.of e1)
  obtain ⟨u, hu, ru⟩ := r.get h3
  have hs := line63
  have hlt : z.toNat < xs.length := (List.getElem?_eq_some_iff.mp h3).1
  exact wpAny_getItem_list pl.isList hz (by omega) (by simpa using hu) ⟨w, W.H, I, ru, fin0 S k h2 h4⟩
def ipI : R2D := fun a b m F => ∃ i j, a = .int i ∧ b = .int j ∧ F (.int (i + j)) m
theorem i_add : PIp X .Add (lift2 X.K ipI) := by
  rintro pins s σ H x y v u Q I rx ry ⟨W, m, a, b, F, e, S, xa, yb, ⟨i, j, rfl, rfl, h⟩, k⟩
  subst e
  cases xa; cases yb
  exact ip_add pins s σ _ _ _ v u Q I rx ry ⟨_, _, rfl, rfl, fin0 S k h (.int _)⟩
end
end DL

namespace DL
open PySem PySem.Spec PyProof.Rows L2
/-! ### what is walked -/
structure Src where
  items : List Dat
  guard : Mu → Prop
abbrev WI := Ro → Mu → (Src → Mu → Prop) → Prop
structure SrcOk (K : PySem.W.Frag) (W : Wd) (src : Src) (J : It) : Prop where
  ok : ∃ (G : Hp → Prop) (Y : Nat → Hp → V → Hp → Prop), Walk J src.items.length G Y ∧
    (∀ W1 m1, Up W W1 → Sim K W1 m1 → src.guard m1 → G W1.H) ∧
    (∀ W1 m1 i x H', Up W W1 → Sim K W1 m1 → src.guard m1 → i < src.items.length → Y i W1.H x H' → ∃ W2 d, W2.H = H' ∧ Le W1 W2 ∧ Sim K W2 m1 ∧ src.items[i]? = some d ∧ D K W2 x d)
def liftI (K : PySem.W.Frag) (w : WI) : TI := fun σ H R => ∃ (W : Wd) (r : Ro) (m : Mu) (k : Src → Mu → Prop), W.H = H ∧ Sim K W m ∧ Env K W σ r ∧ w r m k ∧
  ∀ W' m' src J, Le W W' → Sim K W' m' → SrcOk K W' src J → k src m' → R J W'.H
abbrev DI (X : Cx) (tg iter : Expr) (w : WI) : Prop := PI X tg iter (liftI X.K w)
theorem PI.imp {X : Cx} {tg iter : Expr} {t t' : TI} (h : PI X tg iter t) (k : ∀ σ H Q, t' σ H Q → t σ H Q) : PI X tg iter t' := ⟨fun pins s σ H R I q => h.run pins s σ H R I (k σ H R q)⟩
theorem PI.or {X : Cx} {tg iter : Expr} {t t' : TI} (h : PI X tg iter t) (h' : PI X tg iter t') : PI X tg iter (fun σ H R => t σ H R ∨ t' σ H R) := ⟨fun pins s σ H R I q => q.elim (h.run pins s σ H R I) (h'.run pins s σ H R I)⟩
section
variable {K : PySem.W.Frag} {W : Wd} {m : Mu} {a : Addr} {xs : List V} {ds : List Dat}
def gTrue : Mu → Prop := fun _ => True
theorem src_tup (t : SqT K W.H a xs) (hs : W.H a = some (.tup xs) ∨ KTup K a xs) (x : DAll K W xs ds) : SrcOk K W ⟨ds, gTrue⟩ (Itt K a) := by
  refine ⟨fun H => SqT K H a xs, YAt xs, ?_, fun W1 m1 l S g => ?_, fun W1 m1 i v H' l S g hi ⟨h1, h2⟩ => ?_⟩
  · show Walk (Itt K a) ds.length _ _
    rw [← x.length]; exact walk_tup
  · rcases hs with hs | hs
    · exact .inl (.inl (l.kT _ _ hs))
    · exact .inr hs
  · subst h1
    obtain ⟨d, h3, h4⟩ := x.getV h2
    exact ⟨W1, d, rfl, .refl _, S, h3, h4.up l⟩
theorem src_lst (t : W.H a = some (.lst xs)) (hs : W.S a) (x : DAll K W xs ds) : SrcOk K W ⟨ds, gTrue⟩ (Itl K a) := by
  refine ⟨fun H => SqL K H a xs, YAt xs, ?_, fun W1 m1 l S g => SqL.of (l.kS _ _ hs t), fun W1 m1 i v H' l S g hi ⟨h1, h2⟩ => ?_⟩
  · show Walk (Itl K a) ds.length _ _
    rw [← x.length]; exact walk_list
  · subst h1
    obtain ⟨d, h3, h4⟩ := x.getV h2
    exact ⟨W1, d, rfl, .refl _, S, h3, h4.up l⟩
/-- a cell that stays as it is while it is walked -/
theorem src_cell {n : Nat} (hi : W.io n = some a) : SrcOk K W ⟨ds, fun m => m n = some (.lst ds)⟩ (Itl K a) := by
  refine ⟨fun H => ∃ ys, SqL K H a ys ∧ ys.length = ds.length, fun i H x H' => H' = H ∧ ∀ ys, SqL K H a ys → ys[i]? = some x, ⟨fun i H hi ⟨ys, h1, h2⟩ => ?_, fun H ⟨ys, h1, h2⟩ => ?_, fun i H x H' hi ⟨ys, h1, h2⟩ y => y⟩, fun W1 m1 l S g => ?_, fun W1 m1 i v H' l S g hlt ⟨h1, h2⟩ => ?_⟩
  · have hi' : i < ds.length := hi
    exact ⟨ys, ys[i]'(by omega), h1, by simp [show i < ys.length by omega]⟩
  · exact ⟨ys, h1, by show ys.length ≤ ds.length; omega⟩
  · obtain ⟨⟨ys, h1, h2⟩, _⟩ := D.cell (a := a) S (.ref (l.sI _ _ hi)) g
    exact ⟨ys, SqL.of h1, h2.length⟩
  · subst h1
    obtain ⟨⟨ys, h3, h4⟩, _⟩ := D.cell (a := a) S (.ref (l.sI _ _ hi)) g
    obtain ⟨d, h5, h6⟩ := h4.getV (h2 ys (SqL.of h3))
    exact ⟨W1, d, rfl, .refl _, S, h5, h6⟩
theorem src_range {lo : Int} {n : Nat} : SrcOk K W ⟨(List.range n).map fun i => .int (lo + (i : Nat)), gTrue⟩ (Itr lo n) := by
  refine ⟨fun _ => True, YFn fun i => .int (lo + i), ?_, fun _ _ _ _ _ => trivial, fun W1 m1 i v H' l S g hi ⟨h1, h2⟩ => ?_⟩
  · show Walk (Itr lo n) (List.map _ _).length _ _
    rw [List.length_map, List.length_range]; exact walk_range
  · subst h1 h2
    have hn : i < n := by simpa using hi
    exact ⟨W1, _, rfl, .refl _, S, by simp [hn], .int _⟩
end
section
variable {X : Cx} {tg : Expr} {e : Expr} {w : WE} {pos : Pos}
/-- a list or a tuple -/
def diSeq (w : WE) : WI := fun r m k => w r m fun d m1 => match d with
  | .tup ds => k ⟨ds, gTrue⟩ m1
  | .lst ds => k ⟨ds, gTrue⟩ m1
  | .ref n => ∃ ds, m1 n = some (.lst ds) ∧ k ⟨ds, fun m => m n = some (.lst ds)⟩ m1
  | _ => False
theorem di_seq (h : DE X e w) : DI X tg e (diSeq w) := by
  refine ⟨fun pins s σ H R I q => ?_⟩
  obtain ⟨W, r, m, k, e0, S, V, h2, q⟩ := q
  have h1 := h.run pins s σ H (fun v H1 => (∃ a, v = .ref a ∧ (∃ xs, SqL X.K H1 a xs) ∧ R (Itl X.K a) H1) ∨ (∃ a, v = .ref a ∧ (∃ xs, SqT X.K H1 a xs) ∧ R (Itt X.K a) H1)) I
    ⟨W, r, m, _, e0, S, V, h2, fun W1 m1 v d l1 S1 x1 q1 => by
      cases d with
      | tup ds =>
        obtain ⟨a, rfl⟩ : ∃ a, v = .ref a := by cases x1 <;> exact ⟨_, rfl⟩
        cases x1 with
        | tup e x => exact .inr ⟨a, rfl, ⟨_, SqT.of e⟩, q W1 m1 _ _ l1 S1 (src_tup (SqT.of e) (.inl e) x) q1⟩
      | lst ds =>
        cases x1 with
        | lst s e x => exact .inl ⟨_, rfl, ⟨_, SqL.of e⟩, q W1 m1 _ _ l1 S1 (src_lst e s x) q1⟩
      | ref n =>
        obtain ⟨ds, hm, q1⟩ := q1
        cases x1 with
        | ref hi =>
          obtain ⟨⟨ys, h3, h4⟩, _⟩ := D.cell S1 (.ref hi) hm
          exact .inl ⟨_, rfl, ⟨_, SqL.of h3⟩, q W1 m1 _ _ l1 S1 (src_cell hi) q1⟩
      | _ => exact q1.elim⟩
  refine thn h1 fun v s1 ⟨x, H1, I1, r1, alt⟩ => ?_
  have fp : ∀ b ∈ [s1.heap.objs.size], FpOk X pins H1 b := fun b hb => by
    obtain rfl : b = s1.heap.objs.size := by simpa using hb
    exact I1.fpOk (Nat.le_refl _) (I1.hok.fresh (Nat.le_refl _))
  rcases alt with ⟨a, rfl, ⟨xs, t⟩, fin⟩ | ⟨a, rfl, ⟨xs, t⟩, fin⟩
  · cases r1
    obtain ⟨its, rv, pl, hz⟩ := I1.list t
    exact wpAny_pyIter_list pl.isList ⟨s1.heap.objs.size, [s1.heap.objs.size], _, _, H1, rfl, I1.kept (t' := s1.toks) fun b o e => Heap.get?_push_of_some _ e, turn_list a _, ⟨_, Heap.get?_push_size _ rfl, rfl, rfl⟩, fp, fin⟩
  · cases r1
    obtain ⟨its, rv, pl, hz⟩ := I1.tuple t
    exact wpAny_pyIter_tuple (show s1.heap.IsTuple a its.toArray from pl) ⟨s1.heap.objs.size, [s1.heap.objs.size], _, _, H1, rfl, I1.kept (t' := s1.toks) fun b o e => Heap.get?_push_of_some _ e, turn_tuple a _, ⟨_, Heap.get?_push_size _ rfl, rfl, rfl⟩, fp, fin⟩
def rangeD (lo : Int) (n : Nat) : List Dat := (List.range n).map fun i => .int (lo + (i : Nat))
def diRng1 (w : WA) : WI := fun r m k => w r m fun ds m1 => ∃ j : Int, ds = [.int j] ∧ -(2 ^ 62) ≤ j ∧ j < 2 ^ 62 ∧ k ⟨rangeD 0 j.toNat, gTrue⟩ m1
def diRng2 (w : WA) : WI := fun r m k => w r m fun ds m1 => ∃ i j : Int, ds = [.int i, .int j] ∧ (-(2 ^ 62) ≤ i ∧ i < 2 ^ 62 ∧ -(2 ^ 62) ≤ j ∧ j < 2 ^ 62) ∧ k ⟨rangeD i (j - i).toNat, gTrue⟩ m1
theorem di_rng1 {a : Expr} {w : WA} {p : Pos} (hg : Gl X "range") (hm : X.mg "range" = none) (ha : DA X [a] w) (hs : starEach [a] X.env = [(false, eval a X.env)] := by rfl) : DI X tg (.Call (.Name "range" p) [a] [] pos) (diRng1 w) :=
  PI.imp (pi_range1 hg hm ha hs) fun σ H R ⟨W, r, m, k, e, S, V, h, q⟩ => ⟨W, r, m, _, e, S, V, h, fun W1 m1 vs ds l1 S1 x1 ⟨j, hd, h1, h2, q1⟩ => by
    subst hd
    cases x1 with
    | cons x1 x2 =>
      cases x2
      cases x1
      exact ⟨j, rfl, h1, h2, q W1 m1 _ _ l1 S1 src_range q1⟩⟩
theorem di_rng2 {a b : Expr} {w : WA} {p : Pos} (hg : Gl X "range") (hm : X.mg "range" = none) (ha : DA X [a, b] w) (hs : starEach [a, b] X.env = [(false, eval a X.env), (false, eval b X.env)] := by rfl) (hs2 : starEach [b] X.env = [(false, eval b X.env)] := by rfl) :
    DI X tg (.Call (.Name "range" p) [a, b] [] pos) (diRng2 w) :=
  PI.imp (pi_range2 hg hm ha hs hs2) fun σ H R ⟨W, r, m, k, e, S, V, h, q⟩ => ⟨W, r, m, _, e, S, V, h, fun W1 m1 vs ds l1 S1 x1 ⟨i, j, hd, h1, q1⟩ => by
    subst hd
    cases x1 with
    | cons x1 x2 =>
      cases x2 with
      | cons x2 x3 =>
        cases x3
        cases x1
        cases x2
        exact ⟨i, j, rfl, h1, q W1 m1 _ _ l1 S1 src_range q1⟩⟩

/-! ### for -/
def dloop (gd : Mu → Prop) (g : WG) (body : WS) (G : DEnds) : List Dat → Ro → Mu → Prop
  | [], r, m => gd m ∧ G.nx r m
  | x :: xs, r, m => gd m ∧ g x r m fun r1 m1 => body ⟨dloop gd g body G xs, G.rt, G.nx, dloop gd g body G xs⟩ r1 m1
def dFor (wi : WI) (g : WG) (body : WS) : WS := fun G r m => wi r m fun src m1 => dloop src.guard g body G src.items r m1
theorem ds_for {body : List Stmt} {wi : WI} {js : List Nat} {g : WG} {t : WS} (hp : PassesOwn (model X.prog X.w) X.A X.env X.xe) (hc : X.calm = true) (hi : DI X tg e wi) (hg : DG X tg js g) (hb : DSs X body t) (hs : ∀ x, foldedSetIterable e X.env x = pure x := by intro _; rfl) : DS X (.For tg e body [] pos) (dFor wi g t) :=
  PS.imp (ps_for hp hc hi hg hb hs) fun E σ H ⟨W, r, m, G, e0, S, V, h, k1, k2, k3, k4⟩ => ⟨W, r, m, _, e0, S, V, h, fun W1 m1 src J l1 S1 so q1 => by
    obtain ⟨Gd, Y, wk, stay, yld⟩ := so.ok
    refine for_it wk (fun i σ' H' => ∃ W2 r2 m2, W2.H = H' ∧ Le W1 W2 ∧ Sim X.K W2 m2 ∧ Env X.K W2 σ' r2 ∧ dloop src.guard g t G (src.items.drop i) r2 m2) ⟨W1, r, m1, rfl, .refl _, S1, V.up l1.up, q1⟩ ?_ ?_ ?_
    · rintro i σ' H' hi ⟨W2, r2, m2, rfl, l2, S2, V2, q2⟩
      refine stay W2 m2 l2.up S2 ?_
      cases hd : src.items.drop i with
      | nil => rw [hd] at q2; exact q2.1
      | cons x xs => rw [hd] at q2; exact q2.1
    · rintro i x σ' H' H'' hlt ⟨W2, r2, m2, rfl, l2, S2, V2, q2⟩ y
      rw [List.drop_eq_getElem_cons hlt] at q2
      obtain ⟨gd, q2⟩ := q2
      obtain ⟨W3, d, rfl, l3, S3, hd, x3⟩ := yld W2 m2 i x H'' l2.up S2 gd hlt y
      rw [List.getElem?_eq_getElem hlt] at hd
      cases hd
      refine ⟨W3, r2, m2, _, _, rfl, S3, V2.up l3.up, x3, q2, fun W4 m4 σ4 r4 l4 S4 V4 _ q4 => ?_⟩
      have l := (l2.trans l3).trans l4
      refine ⟨W4, r4, m4, _, rfl, S4, V4, q4, fun W5 m5 σ5 r5 l5 S5 V5 q5 => ⟨W5, r5, m5, rfl, l.trans l5, S5, V5, q5⟩, fun W5 m5 v5 d5 l5 S5 x5 q5 => k2 W5 m5 v5 d5 (l1.trans (l.trans l5)) S5 x5 q5, fun W5 m5 σ5 r5 l5 S5 V5 q5 => k1 W5 m5 σ5 r5 (l1.trans (l.trans l5)) S5 V5 q5, fun W5 m5 σ5 r5 l5 S5 V5 q5 => ⟨W5, r5, m5, rfl, l.trans l5, S5, V5, q5⟩⟩
    · rintro σ' H' ⟨W2, r2, m2, rfl, l2, S2, V2, q2⟩
      rw [List.drop_length] at q2
      exact k1 W2 m2 σ' r2 (l1.trans l2) S2 V2 q2.2⟩
/-! ### while -/
def dWhile (c : WT) (t : WS) : WS := fun G r m => ∃ J : Nat → Ro → Mu → Prop, (∃ n, J n r m) ∧ ∀ n r m, J n r m → c r m fun b m1 => if b = true then t ⟨fun r' m' => ∃ n', n' < n ∧ J n' r' m', G.rt, G.nx, fun r' m' => ∃ n', n' < n ∧ J n' r' m'⟩ r m1 else G.nx r m1
theorem ds_while {c : Expr} {body : List Stmt} {wc : WT} {t : WS} (hp : PassesOwn (model X.prog X.w) X.A X.env X.xe) (hc : DT X c wc) (hb : DSs X body t) : DS X (.While c body [] pos) (dWhile wc t) :=
  PS.imp (ps_while hp hc hb) fun E σ H ⟨W, r, m, G, e0, S, V, ⟨J, ⟨n0, h0⟩, h⟩, k1, k2, k3, k4⟩ => by
    subst e0
    refine ⟨fun n σ' H' => ∃ W2 r2 m2, W2.H = H' ∧ Le W W2 ∧ Sim X.K W2 m2 ∧ Env X.K W2 σ' r2 ∧ J n r2 m2, ⟨n0, W, r, m, rfl, .refl _, S, V, h0⟩, ?_⟩
    rintro n σ' H' ⟨W2, r2, m2, rfl, l2, S2, V2, q2⟩
    refine ⟨W2, r2, m2, _, rfl, S2, V2, h n r2 m2 q2, fun W3 m3 b l3 S3 q3 => ?_⟩
    cases b with
    | false => exact k1 W3 m3 σ' r2 (l2.trans l3) S3 (V2.up l3.up) q3
    | true =>
      rw [if_pos rfl] at q3
      refine ⟨fun σ4 H4 => ∃ n', n' < n ∧ ∃ W2 r2 m2, W2.H = H4 ∧ Le W W2 ∧ Sim X.K W2 m2 ∧ Env X.K W2 σ4 r2 ∧ J n' r2 m2, fun σ4 H4 ⟨n', h1, h2⟩ => ⟨n', h1, h2⟩, ?_⟩
      have l := l2.trans l3
      refine ⟨W3, r2, m3, _, rfl, S3, V2.up l3.up, q3, ?_, fun W5 m5 v5 d5 l5 S5 x5 q5 => k2 W5 m5 v5 d5 (l.trans l5) S5 x5 q5, fun W5 m5 σ5 r5 l5 S5 V5 q5 => k1 W5 m5 σ5 r5 (l.trans l5) S5 V5 q5, ?_⟩
      · rintro W5 m5 σ5 r5 l5 S5 V5 ⟨n', hn, q5⟩
        exact ⟨n', hn, W5, r5, m5, rfl, l.trans l5, S5, V5, q5⟩
      · rintro W5 m5 σ5 r5 l5 S5 V5 ⟨n', hn, q5⟩
        exact ⟨n', hn, W5, r5, m5, rfl, l.trans l5, S5, V5, q5⟩

/-! ### comprehensions -/
def dwipe (r : Ro) : List Nat → Ro
  | [] => r
  | v :: vs => (dwipe r vs).set v none
theorem dwipe_some {r : Ro} {i : Nat} {d : Dat} : ∀ {vs : List Nat}, (dwipe r vs)[i]? = some (some d) → r[i]? = some (some d) ∧ i ∉ vs
  | [], h => ⟨h, by simp⟩
  | v :: vs, h => by
    unfold dwipe at h
    by_cases hi : v = i
    · subst hi
      rw [List.getElem?_set] at h
      split at h
      · split at h <;> cases h
      · rename_i z; exact absurd rfl z
    · rw [List.getElem?_set_ne hi] at h
      obtain ⟨h1, h2⟩ := dwipe_some h
      exact ⟨h1, by simp only [List.mem_cons, not_or]; exact ⟨fun e => hi e.symm, h2⟩⟩
theorem dwipe_length (r : Ro) : ∀ vs : List Nat, (dwipe r vs).length = r.length
  | [] => rfl
  | v :: vs => by unfold dwipe; rw [List.length_set, dwipe_length r vs]
theorem Env.wipe {K : PySem.W.Frag} {W : Wd} {σ : L2.St} {r : Ro} (V : Env K W σ r) (vs : List Nat) : Env K W (wipe σ vs) (dwipe r vs) := by
  refine ⟨by rw [wipe_length, dwipe_length, V.len], fun i d h => ?_⟩
  obtain ⟨h1, h2⟩ := dwipe_some h
  obtain ⟨v, h3, h4⟩ := V.at_ i d h1
  exact ⟨v, by rw [wipe_at, if_neg h2]; exact h3, h4⟩
def dcomp (gd : Mu → Prop) (g : WG) (tt : WT) (te : WE) (r : Ro) (F : List Dat → Mu → Prop) : List Dat → List Dat → Mu → Prop
  | [], acc, m => gd m ∧ F acc m
  | x :: xs, acc, m => gd m ∧ g x r m fun r2 m2 => tt r2 m2 fun b m3 => if b = true then te r2 m3 fun y m4 => dcomp gd g tt te r F xs (acc ++ [y]) m4 else dcomp gd g tt te r F xs acc m3
def dLc (wi : WI) (g : WG) (tt : WT) (te : WE) (vs : List Nat) : WE := fun r m F => wi r m fun src m1 => src.items.length < sizeLine ∧ dcomp src.guard g tt te (dwipe r vs) (fun acc m2 => F (.lst acc) m2) src.items [] m1
/-- a comprehension whose list is a cell -/
def dLcM (wi : WI) (g : WG) (tt : WT) (te : WE) (vs : List Nat) : WE := fun r m F => wi r m fun src m1 => src.items.length < sizeLine ∧ dcomp src.guard g tt te (dwipe r vs) (fun acc m2 => ∀ n, m2 n = none → F (.ref n) (m2.set n (.lst acc))) src.items [] m1
theorem lc_lift {wi : WI} {js : List Nat} {g : WG} {tt : WT} {te : WE} {vs : List Nat} {σ : L2.St} {H : Hp} {Q : VK} (hjs : ∀ j ∈ js, j ∈ vs) {W : Wd} {r : Ro} {m : Mu} {F : List Dat → Mu → Prop} (e0 : W.H = H) (S : Sim X.K W m) (V : Env X.K W σ r)
    (h : wi r m fun src m1 => src.items.length < sizeLine ∧ dcomp src.guard g tt te (dwipe r vs) F src.items [] m1)
    (fin : ∀ W0 W' m' (p : Addr) xs acc, Le W W0 → W0.H p = none → Le W0 W' → Sim X.K W' m' → Priv W' p → W'.H p = some (.lst xs) → DAll X.K W' xs acc → F acc m' → Q (.ref p) W'.H) :
    tLc (liftI X.K wi) (liftG X.K js g) (liftT X.K tt) (liftE X.K te) vs σ H Q := by
  refine ⟨W, r, m, _, e0, S, V, h, fun W1 m1 src J l1 S1 so q1 => ?_⟩
  obtain ⟨hz, q1⟩ := q1
  intro p hp
  obtain ⟨Gd, Y, wk, stay, yld⟩ := so.ok
  have pr := S1.priv hp
  refine lc_it wk (fun i H' => ∃ W2 m2 xs acc, W2.H = H' ∧ Le W1 W2 ∧ Sim X.K W2 m2 ∧ Priv W2 p ∧ W2.H p = some (.lst xs) ∧ DAll X.K W2 xs acc ∧ acc.length ≤ i ∧ dcomp src.guard g tt te (dwipe r vs) F (src.items.drop i) acc m2) ?_ ?_ ?_ ?_
  · exact ⟨⟨W1.S, W1.io, upd W1.H p (.lst [])⟩, m1, [], [], rfl, (Le.refl W1).off hp, S1.off pr, pr.off, upd_same, .nil, Nat.le_refl _, q1⟩
  · rintro i H' hi ⟨W2, m2, xs, acc, rfl, l2, S2, p2, h2, x2, ha, q2⟩
    refine stay W2 m2 l2.up S2 ?_
    cases hd : src.items.drop i with
    | nil => rw [hd] at q2; exact q2.1
    | cons x ys => rw [hd] at q2; exact q2.1
  · rintro i x H' H'' hlt ⟨W2, m2, xs, acc, rfl, l2, S2, p2, h2, x2, ha, q2⟩ y
    rw [List.drop_eq_getElem_cons hlt] at q2
    obtain ⟨gd, q2⟩ := q2
    obtain ⟨W3, d, rfl, l3, S3, hd, x3⟩ := yld W2 m2 i x H'' l2.up S2 gd hlt y
    rw [List.getElem?_eq_getElem hlt] at hd
    cases hd
    obtain ⟨p3, h3⟩ := p2.le h2 l3
    refine ⟨W3, dwipe r vs, m2, _, _, rfl, S3, (V.wipe vs).up ((l1.trans l2).trans l3).up, x3, q2, fun W4 m4 σ4 r4 l4 S4 V4 ko q4 => ⟨?_, ?_⟩⟩
    · rw [ko vs hjs]
      apply List.ext_getElem?
      intro j
      rw [wipe_at, wipe_at]
      split
      · cases q : σ[j]? <;> rfl
      · rfl
    · obtain ⟨p4, h4⟩ := p3.le h3 l4
      refine ⟨W4, r4, m4, _, rfl, S4, V4, q4, fun W5 m5 b l5 S5 q5 => ?_⟩
      obtain ⟨p5, h5⟩ := p4.le h4 l5
      have l25 := ((l2.trans l3).trans l4).trans l5
      have x5 := x2.up ((l3.trans l4).trans l5).up
      cases b with
      | false => exact ⟨W5, m5, xs, acc, rfl, l25, S5, p5, h5, x5, by omega, q5⟩
      | true =>
        rw [if_pos rfl] at q5 ⊢
        refine ⟨W5, r4, m5, _, rfl, S5, V4.up l5.up, q5, fun W6 m6 v6 d6 l6 S6 x6 q6 => ?_⟩
        obtain ⟨p6, h6⟩ := p5.le h5 l6
        refine ⟨xs, h6, by rw [x2.length]; omega, ⟨W6.S, W6.io, upd W6.H p (.lst (xs ++ [v6]))⟩, m6, xs ++ [v6], acc ++ [d6], rfl, (l25.trans l6).off hp, S6.off p6, p6.off, upd_same, ?_, by simp; omega, q6⟩
        exact ((x5.up l6.up).up (Up.off p6)).append (.cons (x6.up (Up.off p6)) .nil)
  · rintro H' ⟨W2, m2, xs, acc, rfl, l2, S2, p2, h2, x2, ha, q2⟩
    rw [List.drop_length] at q2
    exact fin W1 W2 m2 p xs acc l1 hp l2 S2 p2 h2 x2 q2.2
theorem lcF {wi : WI} {js : List Nat} {g : WG} {tt : WT} {te : WE} {vs : List Nat} {σ : L2.St} {H : Hp} {Q : VK} (hjs : ∀ j ∈ js, j ∈ vs) (h : liftE X.K (dLc wi g tt te vs) σ H Q) : tLc (liftI X.K wi) (liftG X.K js g) (liftT X.K tt) (liftE X.K te) vs σ H Q := by
  obtain ⟨W, r, m, F, e0, S, V, h, q⟩ := h
  refine lc_lift hjs e0 S V h fun W0 W' m' p xs acc l0 hp l S' pr hH x f => ?_
  obtain ⟨l2, S2, u2⟩ := S'.settleP l hp pr (by rw [hH]; rfl)
  exact q ⟨fun b => W'.S b ∨ b = p, W'.io, W'.H⟩ m' _ _ (l0.trans l2) S2 (.lst (.inr rfl) hH (x.up u2)) f
/-- a thing of one's own becomes a cell -/
theorem Sim.cellP {K : PySem.W.Frag} {W0 W : Wd} {m : Mu} {p : Addr} {c : Cell} (s : Sim K W m) (h : Le W0 W) (hp : W0.H p = none) (q : Priv W p) (hH : (W.H p).isSome = true) (hc : CellOk K W p c) :
    ∃ n, m n = none ∧ Le W0 ⟨W.S, fun k => if k = n then some p else W.io k, W.H⟩ ∧ Sim K ⟨W.S, fun k => if k = n then some p else W.io k, W.H⟩ (m.set n c) := by
  obtain ⟨N, hN⟩ := s.free
  have hn := hN N (Nat.le_refl _)
  have up : Up W ⟨W.S, fun k => if k = N then some p else W.io k, W.H⟩ := by
    refine ⟨fun _ h => h, fun k a e => ?_, fun _ _ _ h => h, fun _ _ h => h⟩
    show (if k = N then some p else W.io k) = some a
    rw [if_neg]
    · exact e
    · rintro rfl; rw [hn] at e; cases e
  refine ⟨N, ?_, ⟨h.sS, fun k a e => up.sI k a (h.sI k a e), h.keep, h.there, fun k a e => ?_, h.nS, h.kT⟩, ⟨fun k c' e => ?_, fun k l a e1 e2 => ?_, fun k a e => ?_, s.fro, ⟨N + 1, fun k hk => ?_⟩⟩⟩
  · cases z : m N with
    | none => rfl
    | some c' => obtain ⟨a, h1, _⟩ := s.cell N c' z; rw [hn] at h1; cases h1
  · have e' : (if k = N then some p else W.io k) = some a := e
    split at e'
    · cases e'; exact .inr hp
    · exact h.nI k a e'
  · by_cases z : k = N
    · subst z
      rw [Mu.set_same] at e; cases e
      exact ⟨p, by simp, q.nS, hc.up up rfl⟩
    · rw [Mu.set_ne _ _ z] at e
      obtain ⟨a, h1, h2, h3⟩ := s.cell k c' e
      exact ⟨a, by simp [z, h1], h2, h3.up up rfl⟩
  · have e1' : (if k = N then some p else W.io k) = some a := e1
    have e2' : (if l = N then some p else W.io l) = some a := e2
    split at e1' <;> split at e2'
    · rename_i h1 h2; rw [h1, h2]
    · cases e1'; exact absurd e2' (q.nI l)
    · cases e2'; exact absurd e1' (q.nI k)
    · exact s.inj k l a e1' e2'
  · have e' : (if k = N then some p else W.io k) = some a := e
    split at e'
    · cases e'; exact hH
    · exact s.thr k a e'
  · show (if k = N then some p else W.io k) = none
    rw [if_neg (by omega)]
    exact hN k (by omega)
theorem lcM {wi : WI} {js : List Nat} {g : WG} {tt : WT} {te : WE} {vs : List Nat} {σ : L2.St} {H : Hp} {Q : VK} (hjs : ∀ j ∈ js, j ∈ vs) (h : liftE X.K (dLcM wi g tt te vs) σ H Q) : tLc (liftI X.K wi) (liftG X.K js g) (liftT X.K tt) (liftE X.K te) vs σ H Q := by
  obtain ⟨W, r, m, F, e0, S, V, h, q⟩ := h
  refine lc_lift hjs e0 S V h fun W0 W' m' p xs acc l0 hp l S' pr hH x f => ?_
  obtain ⟨n, hn, l2, S2⟩ := S'.cellP (c := .lst acc) l hp pr (by rw [hH]; rfl) ⟨xs, hH, x⟩
  exact q ⟨W'.S, fun k => if k = n then some p else W'.io k, W'.H⟩ _ _ _ (l0.trans l2) S2 (.ref (by simp)) (f n hn)
def dYes : WT := fun _ m F => F true m
abbrev DTs (X : Cx) (ifs : List Expr) (w : WT) : Prop := PTs X ifs (liftT X.K w)
theorem dts_nil : DTs X [] dYes := ⟨fun pins s σ H Q I ⟨W, r, m, F, e, S, V, h, q⟩ => pts_nil.run pins s σ H Q I (by subst e; exact q W m true (.refl W) S h)⟩
theorem dts_one {c : Expr} {t : WT} (h : DT X c t) : DTs X [c] t := pts_one h
theorem de_lc {elt iter : Expr} {ifs : List Expr} {scope : Scope} {own : List (Str × Nat)} {wi : WI} {js : List Nat} {g : WG} {tt : WT} {te : WE} (hc : X.calm = true) (hN : X.N.Nodup) (hi : DI X tg iter wi) (ok : BlkOk X.N X.env.scope scope own)
    (hg : ∀ (s : Shared) (H : Hp) (C : Addr) (cl : List (Str × Addr)) (fp : List Addr), DG (X.blk s H scope (compEnvC scope cl C X.env) fp) tg js g) (ht : ∀ (s : Shared) (H : Hp) (C : Addr) (cl : List (Str × Addr)) (fp : List Addr), DTs (X.blk s H scope (compEnvC scope cl C X.env) fp) ifs tt)
    (he : ∀ (s : Shared) (H : Hp) (C : Addr) (cl : List (Str × Addr)) (fp : List Addr), DE (X.blk s H scope (compEnvC scope cl C X.env) fp) elt te) (hjs : ∀ j ∈ js, j ∈ own.map (·.2) := by decide) (hs : ∀ x, foldedSetIterable iter X.env x = pure x := by intro _; rfl) :
    DE X (.ListComp elt [⟨tg, iter, ifs, 0⟩] scope pos) (dLc wi g tt te (own.map (·.2))) := PE.imp (pe_lc hc hN hi ok hg ht he hs) fun _ _ _ h => lcF hjs h
theorem de_lcM {elt iter : Expr} {ifs : List Expr} {scope : Scope} {own : List (Str × Nat)} {wi : WI} {js : List Nat} {g : WG} {tt : WT} {te : WE} (hc : X.calm = true) (hN : X.N.Nodup) (hi : DI X tg iter wi) (ok : BlkOk X.N X.env.scope scope own)
    (hg : ∀ (s : Shared) (H : Hp) (C : Addr) (cl : List (Str × Addr)) (fp : List Addr), DG (X.blk s H scope (compEnvC scope cl C X.env) fp) tg js g) (ht : ∀ (s : Shared) (H : Hp) (C : Addr) (cl : List (Str × Addr)) (fp : List Addr), DTs (X.blk s H scope (compEnvC scope cl C X.env) fp) ifs tt)
    (he : ∀ (s : Shared) (H : Hp) (C : Addr) (cl : List (Str × Addr)) (fp : List Addr), DE (X.blk s H scope (compEnvC scope cl C X.env) fp) elt te) (hjs : ∀ j ∈ js, j ∈ own.map (·.2) := by decide) (hs : ∀ x, foldedSetIterable iter X.env x = pure x := by intro _; rfl) :
    DE X (.ListComp elt [⟨tg, iter, ifs, 0⟩] scope pos) (dLcM wi g tt te (own.map (·.2))) := PE.imp (pe_lc hc hN hi ok hg ht he hs) fun _ _ _ h => lcM hjs h
theorem setlc_lift {te : TE} {i : Nat} {w : WE} {E : Ends} {σ : L2.St} {H : Hp} (h : liftS X.K (dAsg w (dgName i)) E σ H) (ht : ∀ σ H Q, liftE X.K w σ H Q → te σ H Q) : tAsg te (gName i) E σ H := by
  obtain ⟨W, r, m, G, e, S, V, h, k1, _⟩ := h
  exact ht _ _ _ ⟨W, r, m, _, e, S, V, h, fun W1 m1 v d l1 S1 x1 q1 => k1 W1 m1 _ _ l1 S1 ((V.up l1.up).set i x1) q1⟩
theorem ds_setLc {i : Nat} {y : Str} {py spos : Pos} {elt iter : Expr} {ifs : List Expr} {scope : Scope} {own : List (Str × Nat)} {wi : WI} {js : List Nat} {g : WG} {tt : WT} {te : WE} (hc : X.calm = true) (hN : X.N.Nodup) (hy : X.N[i]? = some y) (hyl : X.env.scope.names.lookup y = some .local)
    (hsw : swapsWith (.ListComp elt [⟨tg, iter, ifs, 0⟩] scope pos) (some (.Name y py)) spos.line X.env = pure true) (hi : DI X tg iter wi) (ok : BlkOk X.N X.env.scope scope own)
    (hg : ∀ (s : Shared) (H : Hp) (C : Addr) (cl : List (Str × Addr)) (fp : List Addr), DG (X.blk s H scope (compEnvC scope cl C X.env) fp) tg js g) (ht : ∀ (s : Shared) (H : Hp) (C : Addr) (cl : List (Str × Addr)) (fp : List Addr), DTs (X.blk s H scope (compEnvC scope cl C X.env) fp) ifs tt)
    (he : ∀ (s : Shared) (H : Hp) (C : Addr) (cl : List (Str × Addr)) (fp : List Addr), DE (X.blk s H scope (compEnvC scope cl C X.env) fp) elt te) (hjs : ∀ j ∈ js, j ∈ own.map (·.2) := by decide) (hs : ∀ x, foldedSetIterable iter X.env x = pure x := by intro _; rfl) :
    DS X (.Assign [.Name y py] (.ListComp elt [⟨tg, iter, ifs, 0⟩] scope pos) spos) (dAsg (dLc wi g tt te (own.map (·.2))) (dgName i)) := PS.imp (ps_setLc hc hN hy hyl hsw hi ok hg ht he hs) fun _ _ _ h => setlc_lift h fun _ _ _ z => lcF hjs z
theorem ds_setLcM {i : Nat} {y : Str} {py spos : Pos} {elt iter : Expr} {ifs : List Expr} {scope : Scope} {own : List (Str × Nat)} {wi : WI} {js : List Nat} {g : WG} {tt : WT} {te : WE} (hc : X.calm = true) (hN : X.N.Nodup) (hy : X.N[i]? = some y) (hyl : X.env.scope.names.lookup y = some .local)
    (hsw : swapsWith (.ListComp elt [⟨tg, iter, ifs, 0⟩] scope pos) (some (.Name y py)) spos.line X.env = pure true) (hi : DI X tg iter wi) (ok : BlkOk X.N X.env.scope scope own)
    (hg : ∀ (s : Shared) (H : Hp) (C : Addr) (cl : List (Str × Addr)) (fp : List Addr), DG (X.blk s H scope (compEnvC scope cl C X.env) fp) tg js g) (ht : ∀ (s : Shared) (H : Hp) (C : Addr) (cl : List (Str × Addr)) (fp : List Addr), DTs (X.blk s H scope (compEnvC scope cl C X.env) fp) ifs tt)
    (he : ∀ (s : Shared) (H : Hp) (C : Addr) (cl : List (Str × Addr)) (fp : List Addr), DE (X.blk s H scope (compEnvC scope cl C X.env) fp) elt te) (hjs : ∀ j ∈ js, j ∈ own.map (·.2) := by decide) (hs : ∀ x, foldedSetIterable iter X.env x = pure x := by intro _; rfl) :
    DS X (.Assign [.Name y py] (.ListComp elt [⟨tg, iter, ifs, 0⟩] scope pos) spos) (dAsg (dLcM wi g tt te (own.map (·.2))) (dgName i)) := PS.imp (ps_setLc hc hN hy hyl hsw hi ok hg ht he hs) fun _ _ _ h => setlc_lift h fun _ _ _ z => lcM hjs z
end
end DL

namespace DL
open PySem PySem.Spec PyProof.Rows L2
/-! ### a def and its promise, by data -/
abbrev KX := Addr → List (Str × Dat) → Mu → Prop
abbrev Spec := List Dat → Mu → KD → KX → Prop
abbrev X0 : KX := fun _ _ _ => False
/-- how an exception by data lies in the hand layer's -/
structure XLift (K : PySem.W.Frag) (W : Wd) (Z : KX) (E : XK) : Prop where
  some : ∀ W' m' C (d : Addr) (fs : List (Str × V)) (gs : List (Str × Dat)), Le W W' → Sim K W' m' → W'.H d = some (.xd fs) → fs.map (·.1) = gs.map (·.1) → DAll K W' (fs.map (·.2)) (gs.map (·.2)) → Z C gs m' → E (.ref C) (some d) W'.H
  bare : ∀ W' m' C, Le W W' → Sim K W' m' → Z C [] m' → E (.ref C) none W'.H
theorem XLift.up {K : PySem.W.Frag} {W W' : Wd} {Z : KX} {E : XK} (h : XLift K W Z E) (l : Le W W') : XLift K W' Z E :=
  ⟨fun W2 m' C d fs gs l2 => h.some W2 m' C d fs gs (l.trans l2), fun W2 m' C l2 => h.bare W2 m' C (l.trans l2)⟩
theorem XLift.no {K : PySem.W.Frag} {W : Wd} {E : XK} : XLift K W X0 E := ⟨fun _ _ _ _ _ _ _ _ _ _ _ z => z.elim, fun _ _ _ _ _ z => z.elim⟩
def dSp (K : PySem.W.Frag) (sp : Spec) : Sp := fun vs H Q E => ∃ (W : Wd) (m : Mu) (ds : List Dat) (F : KD) (Z : KX), W.H = H ∧ Sim K W m ∧ DAll K W vs ds ∧ sp ds m F Z ∧
  (∀ W' m' v d, Le W W' → Sim K W' m' → D K W' v d → F d m' → Q v W'.H) ∧ XLift K W Z E
structure DFn (P : Program) (w : World) (K : PySem.W.Frag) (mg : Str → Option Value) (base : Heap) (CX : CXT) (k : Nat) (f : Addr) (fd : FuncData) (ps : List Str) (sp : Spec) : Prop where
  len : ∀ ds m F Z, sp ds m F Z → ds.length = ps.length
  run : ∀ (A : Around) (outer : List PySem.Env) (s : Shared) (H : Hp) (args : Args) (us : List Value) (vs : List V) (Q : VK) (E : XK), Room k A → A.guards = some [] → Env0 P w K mg base A outer s H → BindsTo s fd args (ps.zip us) → Vals vs us → dSp K sp vs H Q E →
    codeAny (model P w) A (.call (.ref f) args) (CR CX outer P w H s Q E) s
theorem DFn.mono {P : Program} {w : World} {K : PySem.W.Frag} {mg : Str → Option Value} {base : Heap} {CX : CXT} {j k : Nat} {f : Addr} {fd : FuncData} {ps : List Str} {sp : Spec} (F : DFn P w K mg base CX j f fd ps sp) (h : j ≤ k) : DFn P w K mg base CX k f fd ps sp :=
  ⟨F.len, fun A outer s H args us vs Q E hr => F.run A outer s H args us vs Q E (hr.mono h)⟩
/-- as a promise of the hand layer, at one around that is known to show nothing -/
theorem sp_len {K : PySem.W.Frag} {sp : Spec} {ps : List Str} (h : ∀ ds m F Z, sp ds m F Z → ds.length = ps.length) : ∀ vs H Q E, dSp K sp vs H Q E → vs.length = ps.length :=
  fun vs H Q E ⟨W, m, ds, F, Z, _, _, x, q, _⟩ => x.length.trans (h ds m F Z q)
section
variable {X : Cx} {CX : CXT} {k : Nat} {f C : Addr} {fd : FuncData} {ps : List Str} {sp : Spec} {E : XK} {x nm : Str} {p pos apos : Pos} {e o : Expr} {es : List Expr} {wa : WE} {w : WA}
/-- the callee runs -/
theorem run_dfn {pins : List (Addr × Obj)} {σ : L2.St} {H : Hp} {s : Shared} {Q : VK} {us : List Value} {vs : List V} (F : DFn X.prog X.w X.K X.mg X.base CX k f fd ps sp) (hr : Room k X.A) (hgd : X.A.guards = some []) (hb : Binds X.K fd ps []) (hx : Passes CX X E)
    (I : L2.Inv X pins σ H s) (r : Vals vs us) (h : dSp X.K sp vs H Q E) : wpAny (model X.prog X.w) X.A (call (.ref f) us) (EP X pins σ Q) X.xe s := by
  have n1 : us.length = ps.length := (r.length.symm).trans (sp_len F.len _ _ _ _ h)
  have bind := hb s us I.kIn (by simpa using n1)
  rw [List.append_nil] at bind
  refine wpAny_call (codeAny_mono (F.run _ _ s H _ us vs Q E hr hgd I.env0 bind r h) ?_)
  rintro (err | fl) s' hq
  · exact hx pins σ H s err s' I hq
  · cases fl with
    | ret u => exact I.after hq
    | _ => exact hq.elim
/-- a call by data: Z, what is wanted of an exception -/
def dCall (sp : Spec) (Z : KX) (w : WA) : WE := fun r m F => w r m fun ds m1 => sp ds m1 F Z
theorem call_dsp {W0 : Wd} {r : Ro} {m : Mu} {F : KD} {Z : KX} {σ : L2.St} {Q : VK} {H1 : Hp} {vs : List V} {W1 : Wd} {m1 : Mu} {ds : List Dat} (l1 : Le W0 W1) (S1 : Sim X.K W1 m1) (x1 : DAll X.K W1 vs ds) (q1 : sp ds m1 F Z)
    (k : ∀ W' m' v d, Le W0 W' → Sim X.K W' m' → D X.K W' v d → F d m' → Q v W'.H) (z : XLift X.K W0 Z E) : dSp X.K sp vs W1.H Q E :=
  ⟨W1, m1, ds, F, Z, rfl, S1, x1, q1, fun W2 m2 v d l2 S2 x2 q2 => k W2 m2 v d (l1.trans l2) S2 x2 q2, z.up l1⟩
/-- a def that keeps its promise, whatever its function object is -/
structure DF (P : Program) (wd : World) (K : PySem.W.Frag) (mg : Str → Option Value) (base : Heap) (CX : CXT) (k : Nat) (f : Addr) (ps : List Str) (sp : Spec) : Prop where
  ex : ∃ fd, Binds K fd ps [] ∧ DFn P wd K mg base CX k f fd ps sp
  kp : PySem.W.keepIn K (.ref f) = true
theorem DF.mono {P : Program} {wd : World} {K : PySem.W.Frag} {mg : Str → Option Value} {base : Heap} {CX : CXT} {j k : Nat} {f : Addr} {ps : List Str} {sp : Spec} (F : DF P wd K mg base CX j f ps sp) (h : j ≤ k) : DF P wd K mg base CX k f ps sp :=
  ⟨let ⟨fd, a, b⟩ := F.ex; ⟨fd, a, b.mono h⟩, F.kp⟩
/-- a def of the text as it stands behind the top -/
structure At (K : PySem.W.Frag) (mg : Str → Option Value) (x qual : Str) (st : Stmt) (ps : List Str) (f : Addr) : Prop where
  fn : ∃ fd, Fun K x qual st f fd ∧ Binds K fd ps []
  gl : mg x = some (.ref f)
/-- f(e, ..): where no exception leaves it -/
theorem de_call (F : DF X.prog X.w X.K X.mg X.base CX0 k f ps sp) (hr : Room k X.A) (hgd : X.A.guards = some []) (hg : Gl X x) (hm : X.mg x = some (.ref f))
    (ha : DA X (e :: es) w) (hdb : (x == ("__debug__" : Str)) = false := by decide) (he : starEach (e :: es) X.env = (false, eval e X.env) :: starEach es X.env := by rfl) (hpl : (backTo pos (starEach es X.env)).any (·.1) = false := by rfl) :
    DE X (.Call (.Name x p) (e :: es) [] pos) (dCall sp X0 w) := by
  obtain ⟨fd, hb, F2⟩ := F.ex
  refine ⟨fun pins s σ H Q I ⟨W, r, m, G, e0, S, V, h, q⟩ => wpAny_Call_Name_kw (ld_glob I hg hm ?_ hdb)⟩
  refine PySem.W.callWith_K (h₀ := X.base) I.ok.mod.kin F.kp (thn (ha.run pos pins s σ H (fun vs H1 => dSp X.K sp vs H1 Q E0) I ⟨W, r, m, _, e0, S, V, h, fun W1 m1 vs ds l1 S1 x1 q1 => call_dsp (E := E0) (σ := σ) (r := r) (m := m) (H1 := H) l1 S1 x1 q1 q .no⟩) fun us s1 ⟨vs, H1, I1, rv, q2⟩ => ⟨I1.kIn, ?_⟩) he hpl
  exact run_dfn F2 hr hgd hb pass0 I1 rv q2
theorem de_call0 (F : DF X.prog X.w X.K X.mg X.base CX0 k f ps sp) (hr : Room k X.A) (hgd : X.A.guards = some []) (hg : Gl X x) (hm : X.mg x = some (.ref f))
    (hdb : (x == ("__debug__" : Str)) = false := by decide) : DE X (.Call (.Name x p) [] [] pos) (dCall sp X0 daNil) := by
  obtain ⟨fd, hb, F2⟩ := F.ex
  refine ⟨fun pins s σ H Q I ⟨W, r, m, G, e0, S, V, h, q⟩ => wpAny_Call_Name_kw (ld_glob I hg hm ?_ hdb)⟩
  subst e0
  exact PySem.W.callWith_K0 I.kIn F.kp (run_dfn (us := []) F2 hr hgd hb pass0 I .nil (call_dsp (E := E0) (σ := σ) (r := r) (m := m) (H1 := W.H) (.refl W) S .nil h q .no))

/-! ### a def's body -/
def dstart (N : List Str) (ds : List Dat) : Ro := ds.map some ++ List.replicate (N.length - ds.length) none
theorem env_start {K : PySem.W.Frag} {W : Wd} {N : List Str} {vs : List V} {ds : List Dat} (x : DAll K W vs ds) : DL.Env K W (L2.start N vs) (dstart N ds) := by
  refine ⟨by simp [L2.start, dstart, x.length], fun i d h => ?_⟩
  unfold dstart at h
  by_cases hi : i < ds.length
  · rw [List.getElem?_append_left (by simpa using hi), List.getElem?_map] at h
    cases q : ds[i]? with
    | none => rw [q] at h; cases h
    | some d' =>
      rw [q] at h
      cases h
      obtain ⟨v, h1, h2⟩ := x.get q
      refine ⟨v, ?_, h2⟩
      unfold L2.start
      rw [List.getElem?_append_left (by rw [List.length_map, x.length]; exact hi), List.getElem?_map, h1]; rfl
  · rw [List.getElem?_append_right (by simpa using hi), List.getElem?_replicate] at h
    split at h <;> cases h
variable {P : Program} {wd : World} {K : PySem.W.Frag} {mg : Str → Option Value} {base : Heap}
/-- THE RULE for a def: its body as a term, and what the term says by data -/
theorem dfn {qual : Str} {st : Stmt} {N : List Str} (F : Fun K x qual st f fd) (Sc : FnScope N ps (defScope st)) (len : ∀ ds m F Z, sp ds m F Z → ds.length = ps.length)
    (hbody : ∀ (cdv : Value) (A : Around) (outer : List PySem.Env) (s : Shared) (H : Hp) (E : XK) (ds : List Dat) (m : Mu) (G : KD) (Z : KX), Room k (A.deeper (envOfC qual (defScope st) s.heap.objs.size f cdv)) → (A.deeper (envOfC qual (defScope st) s.heap.objs.size f cdv)).guards = some [] → sp ds m G Z →
      ∃ w : WS, DSs (cxOf CX0 P wd K mg base N qual (defScope st) f cdv A outer s H E).nox (defBody st) w ∧ w { nx := fun _ m' => G .non m', rt := G } (dstart N ds) m) : DFn P wd K mg base CX0 (k + 1) f fd ps sp := by
  obtain ⟨oc, od, kV, doc, pm, an, cdv, ct, osl, efd, lk, hcd⟩ := F.ex
  refine ⟨len, fun A outer s H args us vs Q E hr hgd he hb hv hsp => ?_⟩
  obtain ⟨W, m, ds, G, Z, eW, S, x1, q, kk, z⟩ := hsp
  have hl : vs.length = ps.length := x1.length.trans (len _ _ _ _ q)
  have inK : K.In s.heap := (he.mod.kin).keeps fun b o e => And.left (he.bs b o e)
  have lim : s.heap.NoLimit := (he.mod.nolimit).keeps fun b o e => And.left (he.bs b o e)
  have kinds : ∀ y ∈ ps.zip us, (defScope st).names.lookup y.1 = some .local ∨ ((defScope st).names.lookup y.1 = some .cell ∧ ((cellsFrom (s.heap.objs.size + 1) (defScope st).names []).lookup y.1).isSome = true) := by
    rintro ⟨y, v⟩ hy
    exact (Sc.par y (List.of_mem_zip hy).1).imp id fun z => And.intro z (PySem.W.cellsFrom_some _ _ _ (.inl z))
  subst efd
  have rec' := PySem.W.codeRec_of inK hcd
  refine codeAny_call_function (args := args) hr.depth (inK f _ lk) rfl Sc.co Sc.gen rfl rec' (hb _ _ _ _ (wpAny_newFunctionEnv_cells Sc.kind kinds fun env eenv s1 xc => ?_))
  subst eenv
  refine And.intro (lim.keeps (xc.toInCall).keep) (codeAny_func ?_)
  have room := hr.deeper (envOfC qual (defScope st) s.heap.objs.size f cdv)
  obtain ⟨w, hw, hq⟩ := hbody cdv A outer s H E ds m G Z room hgd q
  have I0 : L2.Inv (cxOf CX0 P wd K mg base N qual (defScope st) f cdv A outer s H E) [] (L2.start N vs) H s1 := inv_start Sc hr.hd he hl hv xc
  have run := (PSs.nox hw).run [] s1 (L2.start N vs) H { nx := fun _ H' => Q .non H', rt := Q } I0
    ⟨W, _, m, _, eW, S, env_start x1, hq, fun W' m' _ _ l S' _ g => kk W' m' _ _ l S' .non g, fun W' m' v d l S' y g => kk W' m' v d l S' y g, fun _ _ _ _ _ _ _ g => g, fun _ _ _ _ _ _ _ g => g⟩
  refine wpAny_mono run ?_ (fun _ _ g => g)
  rintro (_ | _ | _ | u) s2 g
  · obtain ⟨σ', H', J, g⟩ := g
    exact ⟨V.non, H', J.os, J.bare, J.base, J.hok, rfl, g⟩
  · obtain ⟨_, _, _, g⟩ := g
    exact g.elim
  · obtain ⟨_, _, _, g⟩ := g
    exact g.elim
  · obtain ⟨v, σ', H', J, rv, g⟩ := g
    exact ⟨v, H', J.os, J.bare, J.base, J.hok, rv, g⟩
theorem dfx {qual : Str} {st : Stmt} {N : List Str} (F : At K mg x qual st ps f) (Sc : FnScope N ps (defScope st)) (len : ∀ ds m F Z, sp ds m F Z → ds.length = ps.length)
    (hbody : ∀ (cdv : Value) (A : Around) (outer : List PySem.Env) (s : Shared) (H : Hp) (E : XK) (ds : List Dat) (m : Mu) (G : KD) (Z : KX), Room k (A.deeper (envOfC qual (defScope st) s.heap.objs.size f cdv)) → (A.deeper (envOfC qual (defScope st) s.heap.objs.size f cdv)).guards = some [] → sp ds m G Z →
      ∃ w : WS, DSs (cxOf CX0 P wd K mg base N qual (defScope st) f cdv A outer s H E).nox (defBody st) w ∧ w { nx := fun _ m' => G .non m', rt := G } (dstart N ds) m) : DF P wd K mg base CX0 (k + 1) f ps sp := by
  obtain ⟨fd, F1, F2⟩ := F.fn
  exact ⟨⟨fd, F2, dfn F1 Sc len hbody⟩, F1.kp⟩
end
end DL

namespace DL
open PySem PySem.Spec PyProof.Rows L2
section
variable {X : Cx} {e o : Expr} {es : List Expr} {w : WA} {wa : WE} {x : Str} {p pos apos : Pos} {id T : String}
/-! ### built-ins by name -/
def dCB (o : RLD) (w : WA) : WE := fun r m F => w r m fun ds m1 => o ds m1 F
theorem cb_lift {o : RLD} {σ : L2.St} {H : Hp} {Q : VK} (h : liftE X.K (dCB o w) σ H Q) : tCB (liftL X.K o) (liftA X.K w) σ H Q := by
  obtain ⟨W, r, m, F, e, S, V, h2, k⟩ := h
  exact ⟨W, r, m, _, e, S, V, h2, fun W1 m1 vs ds l1 S1 x1 q1 => ⟨W1, m1, ds, F, rfl, S1, x1, q1, fun W2 m2 v d l2 S2 x2 q2 => k W2 m2 v d (l1.trans l2) S2 x2 q2⟩⟩
theorem de_callB {o : RLD} (hc : CallR X (.builtin id) (liftL X.K o)) (hg : Gl X x) (hm : X.mg x = none) (hv : bootBuiltins x = some (.builtin id)) (ha : DA X (e :: es) w) (hn : x ≠ "__name__" := by decide) (hdb : (x == ("__debug__" : Str)) = false := by decide)
    (he : starEach (e :: es) X.env = (false, eval e X.env) :: starEach es X.env := by rfl) (hpl : (backTo pos (starEach es X.env)).any (·.1) = false := by rfl) : DE X (.Call (.Name x p) (e :: es) [] pos) (dCB o w) := PE.imp (pe_callB hc hg hm hv ha hn hdb he hpl) fun _ _ _ h => cb_lift h
theorem de_callTy {o : RLD} (hc : CallR X (.type T) (liftL X.K o)) (hg : Gl X x) (hm : X.mg x = none) (hv : bootBuiltins x = some (.type T)) (ha : DA X (e :: es) w) (hn : x ≠ "__name__" := by decide) (hdb : (x == ("__debug__" : Str)) = false := by decide)
    (he : starEach (e :: es) X.env = (false, eval e X.env) :: starEach es X.env := by rfl) (hpl : (backTo pos (starEach es X.env)).any (·.1) = false := by rfl) : DE X (.Call (.Name x p) (e :: es) [] pos) (dCB o w) := PE.imp (pe_callTy hc hg hm hv ha hn hdb he hpl) fun _ _ _ h => cb_lift h
theorem dall1 {K : PySem.W.Frag} {W : Wd} {xs : List V} {d : Dat} (h : DAll K W xs [d]) : ∃ v, xs = [v] ∧ D K W v d := by
  cases h with
  | cons a b => cases b; exact ⟨_, rfl, a⟩
theorem dall2 {K : PySem.W.Frag} {W : Wd} {xs : List V} {d e : Dat} (h : DAll K W xs [d, e]) : ∃ v u, xs = [v, u] ∧ D K W v d ∧ D K W u e := by
  cases h with
  | cons a b =>
    obtain ⟨u, rfl, c⟩ := dall1 b
    exact ⟨_, u, rfl, a, c⟩
/-- len -/
def rLen : RLD := fun ds m F => ∃ d, ds = [d] ∧ match d with
  | .str z => z.length ≤ sizeLine ∧ F (.int z.length) m
  | .tup es => F (.int es.length) m
  | d => ∃ es, items m d = some es ∧ F (.int es.length) m
theorem c_len : CallR X (.builtin "len") (liftL X.K rLen) := by
  rintro pins s σ H xs us Q I r ⟨W, m, ds, F, e, S, xa, ⟨d, rfl, h⟩, k⟩
  subst e
  obtain ⟨v, rfl, x1⟩ := dall1 xa
  split at h
  · cases x1
    exact call_len pins s σ _ _ us Q I r ⟨_, _, rfl, ⟨h.1, rfl⟩, fin0 S k h.2 (.int _)⟩
  · obtain ⟨a, rfl⟩ : ∃ a, v = .ref a := by cases x1 <;> exact ⟨_, rfl⟩
    obtain ⟨ys, t, q⟩ := x1.sqT
    exact call_len pins s σ _ _ us Q I r ⟨_, _, rfl, .inr ⟨ys, t, rfl⟩, by rw [q.length]; exact fin0 S k h (.int _)⟩
  · obtain ⟨es, h0, h1⟩ := h
    obtain ⟨a, ys, rfl, e1, q⟩ := x1.items S h0
    exact call_len pins s σ _ _ us Q I r ⟨_, _, rfl, .inl ⟨ys, SqL.of e1, rfl⟩, by rw [q.length]; exact fin0 S k h1 (.int _)⟩
/-- int(..) of an int, a truth, a text -/
def rInt : RLD := fun ds m F => ∃ d, ds = [d] ∧ match d with
  | .int i => F (.int i) m
  | .bl b => F (.int (if b then 1 else 0)) m
  | .str a => ∃ n, PySem.intText? a = some n ∧ a.length ≤ 640 ∧ F (.int n) m
  | _ => False
theorem c_int : CallR X (.type "int") (liftL X.K rInt) := by
  rintro pins s σ H xs us Q I r ⟨W, m, ds, F, e, S, xa, ⟨d, rfl, h⟩, k⟩
  subst e
  obtain ⟨v, rfl, x1⟩ := dall1 xa
  split at h
  · cases x1
    exact call_int1 pins s σ _ _ us Q I r (.inl ⟨_, rfl, fin0 S k h (.int _)⟩)
  · cases x1
    exact call_int1 pins s σ _ _ us Q I r (.inr ⟨_, rfl, fin0 S k h (.int _)⟩)
  · cases x1
    obtain ⟨n, h1, h2, h3⟩ := h
    exact call_int_str pins s σ _ _ us Q I r ⟨_, n, rfl, h1, h2, fin0 S k h3 (.int _)⟩
  · exact h.elim
def rAbs : RLD := fun ds m F => ∃ i, ds = [.int i] ∧ F (.int (i.natAbs : Int)) m
theorem c_abs : CallR X (.builtin "abs") (liftL X.K rAbs) := by
  rintro pins s σ H xs us Q I r ⟨W, m, ds, F, e, S, xa, ⟨i, rfl, h⟩, k⟩
  subst e
  obtain ⟨v, rfl, x1⟩ := dall1 xa
  cases x1
  refine call_abs pins s σ _ _ us Q I r ⟨i, rfl, fin0 S k ?_ (.int _)⟩
  have : (if i < 0 then -i else i) = (i.natAbs : Int) := by split <;> omega
  rw [this]; exact h
def rMax2 : RLD := fun ds m F => ∃ i j, ds = [.int i, .int j] ∧ F (.int (max i j)) m
theorem c_max2 (hc : X.calm = true) : CallR X (.builtin "max") (liftL X.K rMax2) := by
  rintro pins s σ H xs us Q I r ⟨W, m, ds, F, e, S, xa, ⟨i, j, rfl, h⟩, k⟩
  subst e
  obtain ⟨v, u, rfl, x1, x2⟩ := dall2 xa
  cases x1
  cases x2
  refine call_max2 hc pins s σ _ _ us Q I r ⟨i, j, rfl, fin0 S k ?_ (.int _)⟩
  have : (if j > i then j else i) = max i j := by simp only [Int.max_def]; split <;> split <;> omega
  rw [this]; exact h
def rMin2 : RLD := fun ds m F => ∃ i j, ds = [.int i, .int j] ∧ F (.int (min i j)) m
theorem c_min2 (hc : X.calm = true) : CallR X (.builtin "min") (liftL X.K rMin2) := by
  rintro pins s σ H xs us Q I r ⟨W, m, ds, F, e, S, xa, ⟨i, j, rfl, h⟩, k⟩
  subst e
  obtain ⟨v, u, rfl, x1, x2⟩ := dall2 xa
  cases x1
  cases x2
  refine call_min2 hc pins s σ _ _ us Q I r ⟨i, j, rfl, fin0 S k ?_ (.int _)⟩
  have : (if j < i then j else i) = min i j := by simp only [Int.min_def]; split <;> split <;> omega
  rw [this]; exact h
/-- list(..), tuple(..) of a list or a tuple -/
def rList : RLD := fun ds m F => ∃ d es, ds = [d] ∧ (d = .tup es ∨ items m d = some es) ∧ F (.lst es) m
theorem c_list : CallR X (.type "list") (liftL X.K rList) := by
  rintro pins s σ H xs us Q I r ⟨W, m, ds, F, e, S, xa, ⟨d, es, rfl, hd, h⟩, k⟩
  subst e
  obtain ⟨v, rfl, x1⟩ := dall1 xa
  rcases hd with rfl | hd
  · obtain ⟨a, rfl⟩ : ∃ a, v = .ref a := by cases x1 <;> exact ⟨_, rfl⟩
    obtain ⟨ys, t, q⟩ := x1.sqT
    exact call_list_of pins s σ _ _ us Q I r ⟨a, ys, rfl, .inr t, fun l hl => finL S k h q hl⟩
  · obtain ⟨a, ys, rfl, e1, q⟩ := x1.items S hd
    exact call_list_of pins s σ _ _ us Q I r ⟨a, ys, rfl, .inl (SqL.of e1), fun l hl => finL S k h q hl⟩
/-- .. a list that is a cell -/
def rListM : RLD := fun ds m F => ∃ d es, ds = [d] ∧ (d = .tup es ∨ items m d = some es) ∧ ∀ n, m n = none → F (.ref n) (m.set n (.lst es))
theorem finM {W : Wd} {m : Mu} {vs : List V} {ds : List Dat} {F : KD} {Q : VK} (S : Sim X.K W m) (k : ∀ W' m' v d, Le W W' → Sim X.K W' m' → D X.K W' v d → F d m' → Q v W'.H) (h : ∀ n, m n = none → F (.ref n) (m.set n (.lst ds))) (x : DAll X.K W vs ds) {p : Addr} (hp : W.H p = none) : Q (.ref p) (upd W.H p (.lst vs)) := by
  obtain ⟨n, hn, hi, l2, S2⟩ := S.newM (o := .lst vs) (c := .lst ds) hp
  exact k _ _ _ _ l2 (S2 ⟨vs, upd_same, x.up l2.up⟩) (.ref (by simp)) (h n hn)
theorem c_listM : CallR X (.type "list") (liftL X.K rListM) := by
  rintro pins s σ H xs us Q I r ⟨W, m, ds, F, e, S, xa, ⟨d, es, rfl, hd, h⟩, k⟩
  subst e
  obtain ⟨v, rfl, x1⟩ := dall1 xa
  rcases hd with rfl | hd
  · obtain ⟨a, rfl⟩ : ∃ a, v = .ref a := by cases x1 <;> exact ⟨_, rfl⟩
    obtain ⟨ys, t, q⟩ := x1.sqT
    exact call_list_of pins s σ _ _ us Q I r ⟨a, ys, rfl, .inr t, fun l hl => finM S k h q hl⟩
  · obtain ⟨a, ys, rfl, e1, q⟩ := x1.items S hd
    exact call_list_of pins s σ _ _ us Q I r ⟨a, ys, rfl, .inl (SqL.of e1), fun l hl => finM S k h q hl⟩
def rTuple : RLD := fun ds m F => ∃ d es, ds = [d] ∧ (d = .tup es ∨ items m d = some es) ∧ F (.tup es) m
theorem c_tuple : CallR X (.type "tuple") (liftL X.K rTuple) := by
  rintro pins s σ H xs us Q I r ⟨W, m, ds, F, e, S, xa, ⟨d, es, rfl, hd, h⟩, k⟩
  subst e
  obtain ⟨v, rfl, x1⟩ := dall1 xa
  rcases hd with rfl | hd
  · obtain ⟨a, rfl⟩ : ∃ a, v = .ref a := by cases x1 <;> exact ⟨_, rfl⟩
    obtain ⟨ys, t, q⟩ := x1.sqT
    exact call_tuple_of pins s σ _ _ us Q I r ⟨a, ys, rfl, .inr ⟨t, fin0 S k h x1⟩⟩
  · obtain ⟨a, ys, rfl, e1, q⟩ := x1.items S hd
    exact call_tuple_of pins s σ _ _ us Q I r ⟨a, ys, rfl, .inl ⟨SqL.of e1, fun l hl => finT S k h q hl⟩⟩

/-! ### isinstance with a built-in class -/
def tyD (m : Mu) : Dat → Option String
  | .non => some "NoneType"
  | .bl _ => some "bool"
  | .int _ => some "int"
  | .str _ => some "str"
  | .tup _ => some "tuple"
  | .ktp _ => some "tuple"
  | .lst _ => some "list"
  | .dct _ => some "dict"
  | .ref n => match m n with
    | some (.lst _) => some "list"
    | some (.dcK _) => some "dict"
    | some (.dcT _) => some "dict"
    | _ => none
  | _ => none
theorem ktup_ty {K : PySem.W.Frag} {H : Hp} {a : Addr} {xs : List V} (t : KTup K a xs) : TyX K H (.ref a) (.type "tuple") := by
  obtain ⟨o, its, n, h1, h2, _⟩ := t
  exact .kTuple h1 h2
theorem D.tyx {K : PySem.W.Frag} {W : Wd} {m : Mu} {v : V} {d : Dat} {t : String} (S : Sim K W m) (h : D K W v d) (e : tyD m d = some t) : TyX K W.H v (.type t) := by
  cases d with
  | non => cases e; cases h; exact .base .non
  | bl b => cases e; cases h; exact .base (.bl b)
  | int i => cases e; cases h; exact .base (.int i)
  | str x => cases e; cases h; exact .base (.str x)
  | tup ds =>
    cases e
    cases h with
    | tup e x => exact .base (.tup e)
  | lst ds =>
    cases e
    cases h with
    | lst s e x => exact .base (.lst e)
  | dct ds =>
    cases e
    cases h with
    | dctK s e x y => exact .base (.dK e)
    | dctT s e x y => exact .base (.dT e)
  | ref n =>
    simp only [tyD] at e
    cases h with
    | ref hi =>
      cases q : m n with
      | none => rw [q] at e; cases e
      | some c =>
        rw [q] at e
        obtain ⟨ck, _⟩ := D.cell (a := _) S (.ref hi) q
        cases c with
        | lst ds => cases e; obtain ⟨xs, h1, _⟩ := ck; exact .base (.lst h1)
        | dcK ds => cases e; obtain ⟨kvs, h1, _⟩ := ck; exact .base (.dK h1)
        | dcT ds => cases e; obtain ⟨kvs, h1, _⟩ := ck; exact .base (.dT h1)
        | ins C fs => cases e
        | tab q => cases e
  | obj C fs => cases e
  | scr ns => cases e
  | dfK ds => cases e
  | ktp ds =>
    cases e
    cases h with
    | ktup t x => exact ktup_ty t
  | dfT ds => cases e
def isiD (T t : String) : Bool := t == T || (t == "bool" && T == "int")
def kinds7 : List String := ["NoneType", "bool", "int", "str", "tuple", "list", "dict"]
theorem kit7 : ∀ t ∈ kinds7, ∀ T ∈ kinds7.tail, kitB t T = some (isiD T t) := by decide +kernel
theorem tyD_in {m : Mu} {d : Dat} {t : String} (e : tyD m d = some t) : t ∈ kinds7 := by
  unfold kinds7
  cases d with
  | ref n =>
    simp only [tyD] at e
    split at e <;> cases e <;> simp
  | _ => first | (cases e; simp; done) | cases e
def dIsi (T : String) (w : WE) : WE := fun r m F => w r m fun d m1 => ∃ t, tyD m1 d = some t ∧ F (.bl (isiD T t)) m1
theorem de_isi {nT : Str} {p2 : Pos} (hT : T ∈ kinds7.tail) (hg : Gl X "isinstance") (hm : X.mg "isinstance" = none) (hv : bootBuiltins "isinstance" = some (.builtin "isinstance")) (hg2 : Gl X nT) (hm2 : X.mg nT = none) (hv2 : bootBuiltins nT = some (.type T)) (he : DE X e wa)
    (hn2 : nT ≠ "__name__" := by decide) (hd2 : (nT == ("__debug__" : Str)) = false := by decide)
    (h1 : starEach [e, .Name nT p2] X.env = (false, eval e X.env) :: starEach [.Name nT p2] X.env := by rfl) (h2 : starEach [.Name nT p2] X.env = (false, eval (.Name nT p2) X.env) :: starEach [] X.env := by rfl) (hpl : (backTo pos (starEach [.Name nT p2] X.env)).any (·.1) = false := by rfl) :
    DE X (.Call (.Name "isinstance" p) [e, .Name nT p2] [] pos) (dIsi T wa) :=
  PE.imp (pe_callB call_isi hg hm hv (pa_cons he (pa_cons (pe_bltn (v := .ty T) hg2 hm2 hv2 rfl hn2 hd2) pa_nil h2) h1) (by decide) (by decide) h1 hpl) fun σ H Q ⟨W, r, m, F, e0, S, V, h, k⟩ => ⟨W, r, m, _, e0, S, V, h, fun W1 m1 v d l1 S1 x1 ⟨t, ht, q⟩ =>
    ⟨v, .ty T, .type t, .type T, isiD T t, rfl, .ty T, x1.tyx S1 ht, kit_ty (kit7 t (tyD_in ht) T hT), k W1 m1 _ _ l1 S1 (.bl _) q⟩⟩

/-! ### repr -/
def reprOk (p : PyData) : Bool := p.showable && !p.hasDict && decide (p.depth ≤ 60) && decide (p.shown.length ≤ sizeLine)
def rRepr : RLD := fun ds m F => ∃ d p, ds = [d] ∧ DView m d p ∧ reprOk p = true ∧ F (.str p.shown) m
theorem c_repr (hgd : X.A.guards = some []) (hu : X.A.units + 64 < cLine) : CallR X (.builtin "repr") (liftL X.K rRepr) := by
  rintro pins s σ H xs us Q I r ⟨W, m, ds, F, e, S, xa, ⟨d, p, rfl, hv, hok, h⟩, k⟩
  subst e
  obtain ⟨v, rfl, x1⟩ := dall1 xa
  have dp := x1.dview S hv
  obtain ⟨u, rfl, ru⟩ := vals1 r
  unfold reprOk at hok
  simp only [Bool.and_eq_true, Bool.not_eq_true', decide_eq_true_eq] at hok
  obtain ⟨⟨⟨h1, h2⟩, h3⟩, h4⟩ := hok
  obtain ⟨as, rd⟩ := Dp.reads I p v u dp ru
  have fin : ∀ {t : Tok} {h' : Heap} {tk : Nat}, (∀ b o, s.heap.get? b = some o → h'.get? b = some o) → EP X pins σ Q (.str p.shown t) { s with heap := h', toks := tk } := fun {t h' tk} hk => ⟨.str p.shown, W.H, I.kept hk, ⟨t, rfl⟩, fin0 S k h (.str _)⟩
  cases rd with
  | none => exact PySem.P.repr_of_none (by simpa only [PyData.shown] using fin (t := s.toks) (tk := s.toks + 1) fun _ _ z => z)
  | bool b => exact PySem.P.repr_of_bool (by simpa only [PyData.shown] using fin (t := s.toks) (tk := s.toks + 1) fun _ _ z => z)
  | int i t =>
    have hi : i.natAbs.log2 < 1920 := by simpa [PyData.showable] using h1
    exact PySem.P.repr_of_int hi (by simpa only [PyData.shown] using fin (t := s.toks) (tk := s.toks + 1) fun _ _ z => z)
  | str x t => exact PySem.P.repr_of_str (by simpa only [PyData.shown] using fin (t := s.toks) (tk := s.toks + 1) fun _ _ z => z) (by simpa only [PyData.shown] using h4)
  | list a b c d => exact repr_of_reads' (.list a b c d) h1 (PyData.noDict_hsm h2) hgd (by omega) (fun _ _ z => z) (fun h' u tk hk => fin hk) h4
  | tuple a b c d => exact repr_of_reads' (.tuple a b c d) h1 (PyData.noDict_hsm h2) hgd (by omega) (fun _ _ z => z) (fun h' u tk hk => fin hk) h4
  | dict => simp [PyData.hasDict] at h2
end
end DL

namespace DL
open PySem PySem.Spec PyProof.Rows L2
section
variable {X : Cx} {e o : Expr} {es : List Expr} {w : WA} {wo : WE} {x name : Str} {p pos apos cpos : Pos} {id T : String}
/-! ### methods of built-in types -/
abbrev RMD := Dat → List Dat → Mu → KD → Prop
def liftM (K : PySem.W.Frag) (o : RMD) : V → List V → Hp → VK → Prop := fun x xs H Q => ∃ (W : Wd) (m : Mu) (d : Dat) (ds : List Dat) (F : KD), W.H = H ∧ Sim K W m ∧ D K W x d ∧ DAll K W xs ds ∧ o d ds m F ∧
  ∀ W' m' v d, Le W W' → Sim K W' m' → D K W' v d → F d m' → Q v W'.H
def isTy (T : String) (m : Mu) (d : Dat) : Prop := match T with
  | "str" => ∃ z, d = .str z
  | "list" => ∃ ds, items m d = some ds
  | "dict" => (∃ kvs, d = .dct kvs) ∨ (∃ n kvs, d = .ref n ∧ m n = some (.dcK kvs)) ∨ ∃ n kvs, d = .ref n ∧ m n = some (.dcT kvs)
  | _ => False
theorem isTy_tyV {K : PySem.W.Frag} {W : Wd} {m : Mu} {v : V} {d : Dat} (S : Sim K W m) (x : D K W v d) (h : isTy T m d) : tyV K T v W.H := by
  unfold isTy at h
  split at h
  · obtain ⟨z, rfl⟩ := h
    cases x
    rfl
  · obtain ⟨ds, h⟩ := h
    obtain ⟨a, xs, rfl, e, _⟩ := x.items S h
    exact .inl ⟨rfl, xs, SqL.of e⟩
  · refine (show _ from ?_ : tyV K "dict" v W.H)
    rcases h with ⟨kvs, rfl⟩ | ⟨n, kvs, rfl, h⟩ | ⟨n, kvs, rfl, h⟩
    · cases x with
      | dctK s e a b => exact .inr (.inr (.inl ⟨rfl, .inl ⟨_, e⟩⟩))
      | dctT s e a b => exact .inr (.inr (.inl ⟨rfl, .inr ⟨_, e⟩⟩))
    · cases x with
      | ref hi =>
        obtain ⟨⟨kvs, h1, _⟩, _⟩ := D.cell S (.ref hi) h
        exact .inr (.inr (.inl ⟨rfl, .inl ⟨_, h1⟩⟩))
    · cases x with
      | ref hi =>
        obtain ⟨⟨kvs, h1, _⟩, _⟩ := D.cell S (.ref hi) h
        exact .inr (.inr (.inl ⟨rfl, .inr ⟨_, h1⟩⟩))
  · exact h.elim
def dMt (T : String) (o : RMD) (wo : WE) (w : WA) : WE := fun r m F => wo r m fun d m1 => isTy T m1 d ∧ w r m1 fun ds m2 => o d ds m2 F
theorem de_mt {rd : RMD} (pa : PlainAttrs T) (slot : Slot T name id) (hty : typeOf (.builtin id) = pure (.type "method_descriptor")) (hm : MtR X id (liftM X.K rd)) (ho : DE X o wo) (ha : DA X (e :: es) w)
    (hbase : attributeBase o name X.env (eval o X.env) = eval o X.env := by rfl)
    (hfew : ((backTo cpos (starEach (e :: es) X.env)).all (fun x => !x.1) && (backToKw cpos (keywordEach [] X.env)).all (fun x => x.1.isSome)
      && decide ((e :: es).length + ([] : List Keyword).length + (if ([] : List Keyword).isEmpty then 0 else 1) < 30)) = true := by rfl)
    (hline : (apos.endLine == cpos.line) = true := by rfl) (hs : starEach (e :: es) X.env = (false, eval e X.env) :: starEach es X.env := by rfl) (hplain : (backTo cpos (starEach es X.env)).any (·.1) = false := by rfl) :
    DE X (.Call (.Attribute o name apos) (e :: es) [] cpos) (dMt T rd wo w) :=
  PE.imp (pe_bm pa slot hty hm ho ha hbase hfew hline hs hplain) fun σ H Q ⟨W, r, m, F, e0, S, V, h, k⟩ => ⟨W, r, m, _, e0, S, V, h, fun W1 m1 v d l1 S1 x1 ⟨ht, q1⟩ => ⟨isTy_tyV S1 x1 ht, W1, r, m1, _, rfl, S1, V.up l1.up, q1, fun W2 m2 vs ds l2 S2 x2 q2 =>
    ⟨W2, m2, d, ds, F, rfl, S2, x1.up l2.up, x2, q2, fun W3 m3 v3 d3 l3 S3 x3 q3 => k W3 m3 v3 d3 ((l1.trans l2).trans l3) S3 x3 q3⟩⟩⟩
theorem de_mt0 {rd : RMD} (pa : PlainAttrs T) (slot : Slot T name id) (hty : typeOf (.builtin id) = pure (.type "method_descriptor")) (hm : MtR X id (liftM X.K rd)) (ho : DE X o wo)
    (hbase : attributeBase o name X.env (eval o X.env) = eval o X.env := by rfl) (hline : (apos.endLine == cpos.line) = true := by rfl) : DE X (.Call (.Attribute o name apos) [] [] cpos) (dMt T rd wo daNil) :=
  PE.imp (pe_bm0 pa slot hty hm ho hbase hline) fun σ H Q ⟨W, r, m, F, e0, S, V, h, k⟩ => ⟨W, r, m, _, e0, S, V, h, fun W1 m1 v d l1 S1 x1 ⟨ht, q1⟩ => ⟨isTy_tyV S1 x1 ht,
    W1, m1, d, [], F, rfl, S1, x1, .nil, q1, fun W3 m3 v3 d3 l3 S3 x3 q3 => k W3 m3 v3 d3 (l1.trans l3) S3 x3 q3⟩⟩
def rCountS : RMD := fun d ds m F => ∃ a b, d = .str a ∧ ds = [.str b] ∧ F (.int (Txt.count a b)) m
theorem m_countS : MtR X "str.count" (liftM X.K rCountS) := by
  rintro pins s σ H x xs v us Q I rx rs ⟨W, m, d, ds, F, e, S, xa, xb, ⟨a, b, rfl, rfl, h⟩, k⟩
  subst e
  obtain ⟨u, rfl, x2⟩ := dall1 xb
  cases xa
  cases x2
  exact mt_count pins s σ _ _ _ v us Q I rx rs ⟨_, _, rfl, rfl, fin0 S k h (.int _)⟩
def rEndsS : RMD := fun d ds m F => ∃ a b, d = .str a ∧ ds = [.str b] ∧ F (.bl (Txt.endswith a b)) m
theorem m_endsS : MtR X "str.endswith" (liftM X.K rEndsS) := by
  rintro pins s σ H x xs v us Q I rx rs ⟨W, m, d, ds, F, e, S, xa, xb, ⟨a, b, rfl, rfl, h⟩, k⟩
  subst e
  obtain ⟨u, rfl, x2⟩ := dall1 xb
  cases xa
  cases x2
  exact mt_endswith pins s σ _ _ _ v us Q I rx rs ⟨_, _, rfl, rfl, fin0 S k h (.bl _)⟩
def rUpper : RMD := fun d ds m F => ∃ a, d = .str a ∧ ds = [] ∧ a.length ≤ 5592405 ∧ F (.str (Txt.upper a)) m
theorem m_upper : MtR X "str.upper" (liftM X.K rUpper) := by
  rintro pins s σ H x xs v us Q I rx rs ⟨W, m, d, ds, F, e, S, xa, xb, ⟨a, rfl, rfl, hl, h⟩, k⟩
  subst e
  cases xb
  cases xa
  exact mt_upper pins s σ _ _ _ v us Q I rx rs ⟨_, rfl, rfl, hl, fin0 S k h (.str _)⟩
def rJoin : RMD := fun d ds m F => ∃ a c es ys, d = .str a ∧ ds = [c] ∧ (c = .tup es ∨ items m c = some es) ∧ es = ys.map .str ∧ (ys.map (·.length)).sum + ys.length * a.length ≤ 16777216 ∧ F (.str (Txt.join a ys)) m
theorem dall_strs {K : PySem.W.Frag} {W : Wd} : ∀ {ys : List Str} {vs : List V}, DAll K W vs (ys.map .str) → vs = ys.map V.str
  | [], _, h => by cases h; rfl
  | y :: ys, _, h => by
    cases h with
    | cons a b => cases a; rw [dall_strs b]; rfl
theorem m_join : MtR X "str.join" (liftM X.K rJoin) := by
  rintro pins s σ H x xs v us Q I rx rs ⟨W, m, d, ds, F, e, S, xa, xb, ⟨a, c, es, ys, rfl, rfl, hc, rfl, hz, h⟩, k⟩
  subst e
  obtain ⟨u, rfl, x2⟩ := dall1 xb
  cases xa
  rcases hc with rfl | hc
  · obtain ⟨a, rfl⟩ : ∃ a, u = .ref a := by cases x2 <;> exact ⟨_, rfl⟩
    obtain ⟨vs, t, q⟩ := x2.sqT
    have e2 := dall_strs q
    subst e2
    exact mt_join pins s σ _ _ _ v us Q I rx rs ⟨_, a, ys, rfl, rfl, .inr t, hz, fin0 S k h (.str _)⟩
  · obtain ⟨a, vs, rfl, e1, q⟩ := x2.items S hc
    have e2 := dall_strs q
    subst e2
    exact mt_join pins s σ _ _ _ v us Q I rx rs ⟨_, a, ys, rfl, rfl, .inl (SqL.of e1), hz, fin0 S k h (.str _)⟩
/-- append to a cell -/
def rAppend : RMD := fun d ds m F => ∃ n es c, d = .ref n ∧ ds = [c] ∧ m n = some (.lst es) ∧ es.length < sizeLine ∧ F .non (m.set n (.lst (es ++ [c])))
theorem m_append : MtR X "list.append" (liftM X.K rAppend) := by
  rintro pins s σ H x xs v us Q I rx rs ⟨W, m, d, ds, F, e, S, xa, xb, ⟨n, es, c, rfl, rfl, hm, hl, h⟩, k⟩
  subst e
  obtain ⟨u, rfl, x2⟩ := dall1 xb
  obtain ⟨a, rfl⟩ : ∃ a, x = .ref a := by cases xa; exact ⟨_, rfl⟩
  obtain ⟨⟨vs, h1, h2⟩, hi⟩ := D.cell S xa hm
  obtain ⟨l2, S2⟩ := S.write (o := .lst (vs ++ [u])) (c' := .lst (es ++ [c])) hm hi
  exact mt_append pins s σ _ _ _ v us Q I rx rs ⟨a, vs, u, rfl, rfl, h1, by rw [h2.length]; exact hl, k _ _ _ _ l2 (S2 ⟨_, upd_same, (h2.up l2.up).append (.cons (x2.up l2.up) .nil)⟩) .non h⟩

/-! ### a constant of the module -/
theorem de_glob {v : V} {u : Value} {d : Dat} (hg : Gl X x) (hm : X.mg x = some u) (r : RelV v u) (hd : ∀ W, D X.K W v d) (hdb : (x == ("__debug__" : Str)) = false := by decide) : DE X (.Name x pos) (dC d) := de_const (pe_glob hg hm r hdb) hd
/-- a tuple of texts that stands at the top -/
theorem ktup_strs {K : PySem.W.Frag} {a : Addr} {o : Obj} {its : Array Value} {n : Nat} {ys : List Str} (hk : K.lookup a = some o) (hc : o.cls = .type "tuple") (hd : o.data = .seq its n) (hz : its.size ≤ sizeLine) (hv : Vals (ys.map V.str) its.toList) (W : Wd) : D K W (.ref a) (.ktp (ys.map .str)) :=
  .ktup ⟨o, its, n, hk, hc, hd, hz, hv⟩ (by
    induction ys with
    | nil => exact .nil
    | cons y ys ih =>
      clear hv
      have : ∀ l : List Str, DAll K W (l.map V.str) (l.map .str) := fun l => by
        induction l with
        | nil => exact .nil
        | cons z l ih => exact .cons (.str z) ih
      exact this (y :: ys))
end

/-! ### the law's call, and the row's end -/
/-- what is known of the law: from the script it gives True -/
def lawSp : Spec := fun ds m F _ => ∃ ns : List Int, ds = [.scr ns] ∧ ns.length ≤ 63 ∧ (∀ n, m n = none) ∧ ∀ m', F (.bl true) m'
theorem law_run {P : Program} {w : World} {K : PySem.W.Frag} {mg mb : Str → Option Value} {k : Nat} {fa a : Addr} {fd : FuncData} {x : Str} {s1 : Shared} {vs : List Value} {ns : List Int}
    (inK : K.In s1.heap) (hns : s1.heap.Ns mainGlobals mg) (hb : s1.heap.Ns builtinsNs mb) (hbb : ∀ x : Str, x ≠ "__name__" → mb x = bootBuiltins x) (lim : s1.heap.NoLimit) (hg : s1.gens = #[])
    (ha : s1.heap.get? a = some { cls := .type "list", data := .seq vs.toArray }) (hi : IntsAre vs ns) (hl : ns.length ≤ 63) (hr : Room k callerA)
    (G : ∀ base : Heap, K.In base → base.Ns mainGlobals mg → DFn P w K mg base CX0 k fa fd [x] lawSp) (hbind : ∀ (s : Shared) (u : Value), BindsTo s fd ⟨[u], []⟩ [(x, u)]) :
    codeAny (model P w) callerA (.call (.ref fa) ⟨[.ref a], []⟩) (fun r s' => r = .ok (.ret (.bool true)) ∧ OldK s1.heap s'.heap ∧ s'.os = s1.os ∧ AllBare s'.gens) s1 := by
  have small : ns.length ≤ sizeLine := by rw [sizeLine_eq]; omega
  have rv : Vals (ns.map V.int) vs := vals_of_ints hi
  have szv : vs.length = ns.length := by rw [← rv.length, List.length_map]
  -- the abstract heap: nothing but the script, unless the module holds it
  have main : ∀ H : Hp, (∀ b, H b ≠ none → b = a ∧ K.lookup a = none ∧ H b = some (.frz { cls := .type "list", data := .seq vs.toArray } (.lst (ns.map V.int)))) → (H a = none → KLst K a (ns.map V.int)) →
      codeAny (model P w) callerA (.call (.ref fa) ⟨[.ref a], []⟩) (fun r s' => r = .ok (.ret (.bool true)) ∧ OldK s1.heap s'.heap ∧ s'.os = s1.os ∧ AllBare s'.gens) s1 := by
    intro H hH hN
    have hok : HOk P w H s1.heap := fun b u e => by
      obtain ⟨rfl, _, h3⟩ := hH b (by rw [e]; simp)
      rw [h3] at e; cases e
      exact ⟨ha, by rw [List.length_map]; exact small, vs, _, rv, ha⟩
    have off : ∀ {b : Addr} {o : Obj}, s1.heap.get? b = some o → (∀ es ep, o.data = .dict es ep → H b = none) := fun {b o} e es ep hd => by
      cases q : H b with
      | none => rfl
      | some u =>
        obtain ⟨rfl, _, _⟩ := hH b (by rw [q]; simp)
        rw [ha] at e; cases e; cases hd
    have ns2 : ∀ {b : Addr} {m : Str → Option Value}, s1.heap.Ns b m → (hidT s1.heap H).Ns b m := fun {b m} z => by
      obtain ⟨o, es, ep, e, hd, q⟩ := z
      exact ⟨o, es, ep, hidT_get e (off e es ep hd), hd, q⟩
    have inB : K.In (hidT s1.heap H) := fun b o e => hidT_get (inK b o e) (by
      cases q : H b with
      | none => rfl
      | some u =>
        obtain ⟨rfl, h2, _⟩ := hH b (by rw [q]; simp)
        rw [h2] at e; cases e)
    obtain ⟨mc, c1, c2⟩ := lim
    have M : Mod K mg (hidT s1.heap H) := { kin := inB, glob := ns2 hns, blt := ⟨mb, ns2 hb, hbb⟩, nolimit := ⟨mc, ns2 c1, c2⟩ }
    have env : Env0 P w K mg (hidT s1.heap H) callerA [] s1 H := { frames := rfl, mod := M, bs := fun b o e => of_hidT e, bsz := (by rw [hidT_size]; exact Nat.le_refl _), funs := trivial, frf := (fun b z => by cases z), hok := hok, bare := .of_eq hg }
    have W0 : ∃ W : Wd, W.H = H ∧ Sim K W (fun _ => none) ∧ D K W (.ref a) (.scr ns) := by
      refine ⟨⟨fun b => (H b).isSome = true, fun _ => none, H⟩, rfl, ⟨(fun _ _ z => by cases z), (fun _ _ _ z => by cases z), (fun _ _ z => by cases z), (fun _ z => z), ⟨0, fun _ _ => rfl⟩⟩, ?_⟩
      cases q : H a with
      | none => exact .kscr (hN q)
      | some u =>
        obtain ⟨_, _, h3⟩ := hH a (by rw [q]; simp)
        exact .scr (by show (H a).isSome = true; rw [q]; rfl) h3
    obtain ⟨W, eW, S, xd⟩ := W0
    have call := (G _ inB (ns2 hns)).run callerA [] s1 H ⟨[.ref a], []⟩ [.ref a] [.ref a] (fun v _ => v = .bl true) E0 hr rfl env (hbind s1 (.ref a)) (.cons rfl .nil)
      ⟨W, _, [.scr ns], fun d _ => d = .bl true, X0, eW, S, .cons xd .nil, ⟨ns, rfl, hl, fun _ => rfl, fun _ => rfl⟩, (fun W' m' v d _ _ y hd => by subst hd; cases y; rfl), .no⟩
    refine codeAny_mono call ?_
    rintro (err | fl) s2 h
    · exact h.elim
    · cases fl with
      | ret u =>
        obtain ⟨v, H', os, bare, un, hok', ru, rfl⟩ := h
        obtain rfl : u = Value.bool true := ru
        refine ⟨rfl, OldK.of_keep fun b o e => ?_, os, bare⟩
        cases q : H b with
        | none => exact un.keep b o e q (fun z => by cases z) (by simp)
        | some u =>
          obtain ⟨rfl, _, h3⟩ := hH b (by rw [q]; simp)
          have z := (hok' _ _ (un.frzs _ _ _ h3)).1
          rw [ha] at e
          cases e
          exact z
      | _ => exact h.elim
  cases hk : K.lookup a with
  | some o =>
    have e := inK a o hk
    rw [ha] at e
    cases e
    exact main (fun _ => none) (fun b z => absurd rfl z) fun _ => ⟨_, vs.toArray, _, hk, rfl, rfl, rfl, by rw [List.size_toArray, szv]; exact small, by simpa using rv⟩
  | none =>
    refine main (fun b => if b = a then some (.frz { cls := .type "list", data := .seq vs.toArray } (.lst (ns.map V.int))) else none) (fun b z => ?_) (fun z => by simp at z)
    by_cases hb : b = a
    · exact ⟨hb, hk, if_pos hb⟩
    · exact absurd (if_neg hb) z
theorem walk {l : PySem.W.OpenLaw} {k : Nat} {q : Program} {loose : List Str} {XP : (Str → Option Value) → Heap → Prop} {YP : World → Heap → Prop} {d : DefRec} {K : Params → PySem.W.Frag} {x : Str}
    (hn : l.most = some 63) (hdf : d.params.defaults = []) (hr : Room k callerA) (hY : ∀ (w : World) (h : Heap), YP w h → (K w.params).In h)
    (G : ∀ (w : World) (mg : Str → Option Value) (fa : Addr) (h : Heap), (K w.params).In h → h.Ns mainGlobals mg → mg d.name = some (.ref fa) →
      ∃ fd : FuncData, (∀ (s : Shared) (u : Value), BindsTo s fd ⟨[u], []⟩ [(x, u)]) ∧ ∀ base : Heap, (K w.params).In base → base.Ns mainGlobals mg → DFn l.prog w (K w.params) mg base CX0 k fa fd [x] lawSp) :
    PySem.W.WalkO q loose XP YP l.row.toRowW d [] (fun f vs => PySem.call f vs) := by
  refine Att.attach_call hn hdf ?_
  intro w s0 s1 mg mb fa o pm cd doc a vs ns Gr Y ho hd hcd hmg hobj hints hlen hg
  obtain ⟨fd, hb, hF⟩ := G w mg fa _ (hY w _ Y) Gr.T.g hmg
  exact law_run (hY w _ Y) Gr.T.g Gr.T.b Gr.T.builtins Gr.T.nolimit hg hobj hints hlen hr hF hb
end DL

namespace DL
open PySem PySem.Spec PyProof.Rows L2 CwR
/-! ### where a token must be out: s.replace -/
section
variable {X : Cx} {e a b o : Expr} {es : List Expr} {wa wb : WE} {w : WA} {pos apos : Pos} {st : Stmt} {rest : List Stmt} {t u : WS}
abbrev TE' (X : Cx) (e : Expr) (w : WE) : Prop := PET X e (liftE X.K w)
abbrev TS' (X : Cx) (st : Stmt) (w : WS) : Prop := PST X st (liftS X.K w)
abbrev TSs' (X : Cx) (sts : List Stmt) (w : WS) : Prop := PSsT X sts (liftS X.K w)
theorem te_of (h : DE X e wa) : TE' X e wa := PET.of h
theorem ts_of (h : DS X st t) : TS' X st t := PST.of h
theorem tss_cons (h1 : TS' X st t) (h2 : TSs' X rest u) : TSs' X (st :: rest) (dSeq t u) := fun pins s σ H E h0 I q => psst_cons h1 h2 pins s σ H E h0 I (seq_lift q)
theorem tss_one (h1 : TS' X st t) : TSs' X [st] t := psst_one h1
theorem ts_ret (he : TE' X e wa) : TS' X (.Return (some e) pos) (dRet wa) := fun pins s σ H E h0 I ⟨W, r, m, G, e0, S, V, h, _, k2, _⟩ => pst_ret he pins s σ H E h0 I ⟨W, r, m, _, e0, S, V, h, k2⟩
theorem ts_set {i : Nat} {x : Str} {pos' : Pos} (hN : X.N.Nodup) (hi : X.N[i]? = some x) (hx : Loc X.env.scope x) (he : TE' X e wa) (hs : swapsWith e (some (.Name x pos')) pos.line X.env = pure false := by rfl) (hf : X.fn x = true ∨ X.env.scope.names.lookup x = some .local := by first | exact .inl rfl | exact .inr rfl | assumption) :
    TS' X (.Assign [.Name x pos'] e pos) (dAsg wa (dgName i)) := by
  rintro pins s σ H E h0 I ⟨W, r, m, G, e0, S, V, h, k1, _⟩
  refine wpAny_Assign_Name (thn (he pins s σ H (fun v H1 => E.nx (σ.set i (some v)) H1) h0 I ⟨W, r, m, _, e0, S, V, h, fun W1 m1 v d l1 S1 x1 q1 => k1 W1 m1 _ _ l1 S1 ((V.up l1.up).set i x1) q1⟩) ?_) hs
  rintro v s1 ⟨y, H1, I1, r1, q1⟩
  exact store_ok I1 hN hi hx r1 (fun s2 I2 => ⟨_, H1, I2, q1⟩) hf
theorem te_cmp {op : CmpOp} {o : R2D} (ho : OpR X (compareOp op) (lift2 X.K o)) (ha : TE' X a wa) (hb : TE' X b wb) (hm : behindInMarks op b = false) : TE' X (.Compare a [op] [b] pos) (dOp o wa wb) := by
  rintro pins s σ H Q h0 I q
  have q := op_lift q
  refine wpAny_Compare1 ?_ hm
  refine wpAny_mono (PySem.wpAny_toks (ha pins s σ H _ h0 I q)) ?_ (fun _ _ z => z.2)
  rintro v s1 ⟨hk, x, H1, I1, r1, q1⟩
  refine thn (hb pins s1 σ H1 _ (Nat.le_trans h0 hk) I1 q1) ?_
  rintro u s2 ⟨y, H2, I2, r2, q2⟩
  exact ho pins s2 σ H2 x y v u Q I2 r1 r2 q2
theorem te_and {rest : List Expr} (ha : TE' X a wa) (hb : TE' X (.BoolOp .And (b :: rest) pos) wb) : TE' X (.BoolOp .And (a :: b :: rest) pos) (dAndV wa wb) := by
  rintro pins s σ H Q h0 I ⟨W, r, m, F, e, S, V, h2, k⟩
  refine BoolOp_and (wpAny_mono (PySem.wpAny_toks (ha pins s σ H (fun v H1 => ∃ c, v = .bl c ∧ if c = true then liftE X.K wb σ H1 Q else Q (.bl false) H1) h0 I ⟨W, r, m, _, e, S, V, h2, fun W1 m1 v d l1 S1 x1 q1 => ?_⟩)) ?_ (fun _ _ z => z.2))
  · obtain ⟨c, rfl, q⟩ := q1
    cases x1
    refine ⟨c, rfl, ?_⟩
    cases c with
    | true => exact ⟨W1, r, m1, F, rfl, S1, V.up l1.up, q, fun W2 m2 v d l2 S2 x2 q2 => k W2 m2 v d (l1.trans l2) S2 x2 q2⟩
    | false => exact k W1 m1 _ _ l1 S1 (.bl false) q
  · rintro v s1 ⟨hk, y, H1, I1, r1, c, rfl, q1⟩
    cases r1
    refine wpAny_truthy_bool ?_
    cases c with
    | true => exact hb pins s1 σ H1 Q (Nat.le_trans h0 hk) I1 q1
    | false => exact ⟨.bl false, H1, I1, rfl, q1⟩
theorem te_one {op} (h : TE' X a wa) : TE' X (.BoolOp op [a] pos) wa := fun pins s σ H Q h0 I q => BoolOp_one (h pins s σ H Q h0 I q)
def dRepl (y z : Str) (w : WE) : WE := fun r m F => w r m fun d m1 => ∃ x, d = .str x ∧ x.length + (x.length + 1) * z.length ≤ 16777216 ∧ F (.str (Txt.replace x y z)) m1
theorem repl_lift {y z : Str} {σ : L2.St} {H : Hp} {Q : VK} (h : liftE X.K (dRepl y z wa) σ H Q) : tReplC (liftE X.K wa) y z σ H Q := by
  obtain ⟨W, r, m, F, e, S, V, h2, k⟩ := h
  refine ⟨W, r, m, _, e, S, V, h2, ?_⟩
  rintro W1 m1 v d l1 S1 x1 ⟨x, rfl, hz, q⟩
  cases x1
  exact ⟨x, rfl, hz, k W1 m1 _ _ l1 S1 (.str _) q⟩
theorem te_repl {y z : Str} {j k : Nat} {c0 c1 : Pos} (ho : TE' X o wa) (hyz : (y == z) = false := by decide)
    (hst : starEach [.Constant (.str y) j c0, .Constant (.str z) k c1] X.env = [(false, eval (.Constant (.str y) j c0) X.env), (false, eval (.Constant (.str z) k c1) X.env)] := by rfl)
    (hbase : attributeBase o "replace" X.env (eval o X.env) = eval o X.env := by rfl) (hline : (apos.endLine == pos.line) = true := by rfl) :
    TE' X (.Call (.Attribute o "replace" apos) [.Constant (.str y) j c0, .Constant (.str z) k c1] [] pos) (dRepl y z wa) := fun pins s σ H Q h0 I q => pet_replT ho hyz hst hbase hline pins s σ H Q h0 I (repl_lift q)
abbrev TA' (X : Cx) (es : List Expr) (w : WA) : Prop := PAT X es (liftA X.K w)
theorem ta_nil : TA' X [] daNil := fun ps pins s σ H Q h0 I q => da_nil.run ps pins s σ H Q I q
theorem ta_cons {wr : WA} (ha : TE' X e wa) (hr : TA' X es wr) (hs : starEach (e :: es) X.env = (false, eval e X.env) :: starEach es X.env := by rfl) : TA' X (e :: es) (daCons wa wr) := by
  rintro ps pins s σ H Q h0 I ⟨W, r, m, F, e, S, V, h2, k⟩
  refine pat_cons ha hr hs ps pins s σ H Q h0 I ⟨W, r, m, _, e, S, V, h2, fun W1 m1 v1 d1 l1 S1 x1 q1 => ⟨W1, r, m1, _, rfl, S1, V.up l1.up, q1, fun W2 m2 vs ds l2 S2 x2 q2 => ?_⟩⟩
  exact k W2 m2 (v1 :: vs) (d1 :: ds) (l1.trans l2) S2 (.cons (x1.up l2.up) x2) q2
theorem te_lst (h : TA' X es w) : TE' X (.List es pos) (dLst w) := by
  rintro pins s σ H Q h0 I ⟨W, r, m, F, e, S, V, h2, k⟩
  refine pet_lst h pins s σ H Q h0 I ⟨W, r, m, _, e, S, V, h2, fun W1 m1 vs ds l1 S1 x1 q1 => ⟨by rw [x1.length]; exact q1.1, fun p hp => ?_⟩⟩
  obtain ⟨l2, S2⟩ := S1.newF (o := .lst vs) hp
  exact k _ m1 _ _ (l1.trans l2) S2 (.lst (.inr rfl) upd_same (x1.up l2.up)) q1.2
end
section
variable {CX : CXT} {k : Nat} {f : Addr} {fd : FuncData} {ps : List Str} {sp : Spec} {x : Str} {P : Program} {wd : World} {K : PySem.W.Frag} {mg : Str → Option Value} {base : Heap}
/-- the rule for a def with parameters, without cells: a token is out ahead of its body -/
theorem dfnT {qual : Str} {st : Stmt} {N : List Str} (F : Fun K x qual st f fd) (Sc : FnScope N ps (defScope st)) (hnc : ∀ y ∈ (defScope st).names, y.2 ≠ .cell) (hps : 1 ≤ ps.length) (len : ∀ ds m F Z, sp ds m F Z → ds.length = ps.length)
    (hbody : ∀ (cdv : Value) (A : Around) (outer : List PySem.Env) (s : Shared) (H : Hp) (E : XK) (ds : List Dat) (m : Mu) (G : KD) (Z : KX), Room k (A.deeper (envOfC qual (defScope st) s.heap.objs.size f cdv)) → sp ds m G Z →
      ∃ w : WS, TSs' (cxOf CX0 P wd K mg base N qual (defScope st) f cdv A outer s H E) (defBody st) w ∧ w { nx := fun _ m' => G .non m', rt := G } (dstart N ds) m) : DFn P wd K mg base CX0 (k + 1) f fd ps sp := by
  refine ⟨len, fun A outer s H args us vs Q E hr hgd he hb hv hsp => ?_⟩
  obtain ⟨oc, od, kV, doc, pm, an, cdv, ct, osl, efd, lk, hcd⟩ := F.ex
  have R := fn_ofT (CX := CX0) (P := P) (w := wd) (mg := mg) (base := base) (k := k) (sp := fun vs' H' Q' E' => dSp K sp vs' H' Q' E') (N := N) (ps := ps) (efd ▸ lk) hcd Sc hnc hps (sp_len len) (fun A' outer' s' H' vs' Q' E' hr' hs' => ?_)
  · subst efd
    exact R.run A outer s H args us vs Q E hr he hb hv hsp
  · obtain ⟨W, m, ds, G, Z, eW, S, x1, q, kk, z⟩ := hs'
    obtain ⟨w, hw, hq⟩ := hbody cdv A' outer' s' H' E' ds m G Z hr' q
    exact ⟨_, hw, W, _, m, _, eW, S, env_start x1, hq, fun W' m' _ _ l S' _ g => kk W' m' _ _ l S' .non g, fun W' m' v d l S' y g => kk W' m' v d l S' y g, fun _ _ _ _ _ _ _ g => g, fun _ _ _ _ _ _ _ g => g⟩
theorem dfxT {qual : Str} {st : Stmt} {N : List Str} (F : At K mg x qual st ps f) (Sc : FnScope N ps (defScope st)) (hnc : ∀ y ∈ (defScope st).names, y.2 ≠ .cell) (hps : 1 ≤ ps.length) (len : ∀ ds m F Z, sp ds m F Z → ds.length = ps.length)
    (hbody : ∀ (cdv : Value) (A : Around) (outer : List PySem.Env) (s : Shared) (H : Hp) (E : XK) (ds : List Dat) (m : Mu) (G : KD) (Z : KX), Room k (A.deeper (envOfC qual (defScope st) s.heap.objs.size f cdv)) → sp ds m G Z →
      ∃ w : WS, TSs' (cxOf CX0 P wd K mg base N qual (defScope st) f cdv A outer s H E) (defBody st) w ∧ w { nx := fun _ m' => G .non m', rt := G } (dstart N ds) m) : DF P wd K mg base CX0 (k + 1) f ps sp := by
  obtain ⟨fd, F1, F2⟩ := F.fn
  exact ⟨⟨fd, F2, dfnT F1 Sc hnc hps len hbody⟩, F1.kp⟩
end
end DL

namespace DL
open PySem PySem.Spec PyProof.Rows L2
section
variable {X : Cx} {e : Expr} {pos : Pos}
/-- x += y: ints, texts; a cell grows -/
def rIAdd : R2D := fun a b m F => match a, b with
  | .int i, .int j => F (.int (i + j)) m
  | .str x, .str y => x.length + y.length ≤ sizeLine ∧ F (.str (x ++ y)) m
  | .ref n, .lst ys => ∃ xs, m n = some (.lst xs) ∧ xs.length + ys.length ≤ sizeLine ∧ F (.ref n) (m.set n (.lst (xs ++ ys)))
  | _, _ => False
theorem i_addA : PIp X .Add (lift2 X.K rIAdd) := by
  rintro pins s σ H x y v u Q I rx ry ⟨W, m, a, b, F, e, S, xa, yb, h, k⟩
  subst e
  unfold rIAdd at h
  split at h
  · cases xa; cases yb
    exact ip_add pins s σ _ _ _ v u Q I rx ry ⟨_, _, rfl, rfl, fin0 S k h (.int _)⟩
  · cases xa; cases yb
    exact iop_add_str pins s σ _ _ _ v u Q I rx ry ⟨_, _, rfl, rfl, h.1, fin0 S k h.2 (.str _)⟩
  · obtain ⟨xs, hm, hz, h⟩ := h
    obtain ⟨p, rfl⟩ : ∃ p, x = .ref p := by cases xa; exact ⟨_, rfl⟩
    obtain ⟨q, rfl⟩ : ∃ p, y = .ref p := by cases yb; exact ⟨_, rfl⟩
    obtain ⟨⟨vs, h1, h2⟩, hi⟩ := D.cell S xa hm
    obtain ⟨ws, e2, h4⟩ := yb.sqL
    obtain ⟨l2, S2⟩ := S.write (o := .lst (vs ++ ws)) (c' := .lst (xs ++ _)) hm hi
    exact iop_ext pins s σ _ _ _ v u Q I rx ry ⟨p, q, vs, ws, rfl, rfl, h1, e2, by rw [h2.length, h4.length]; exact hz, k _ _ _ _ l2 (S2 ⟨_, upd_same, (h2.up l2.up).append (h4.up l2.up)⟩) (xa.up l2.up) h⟩
  · exact h.elim
/-- (a, b, ..) = a tuple or a list of that length -/
def dgSeq (n : Nat) (gs : WGs) : WG := fun d r m k => ∃ ds, (d = .tup ds ∨ items m d = some ds) ∧ ds.length = n ∧ gs ds r m k
theorem PG.or {tg : Expr} {g g' : TG} (h : PG X tg g) (h' : PG X tg g') : PG X tg (fun v σ H Q => g v σ H Q ∨ g' v σ H Q) := ⟨fun pins s σ H v u Q I r q => q.elim (h.run pins s σ H v u Q I r) (h'.run pins s σ H v u Q I r)⟩
theorem dg_seq {es : List Expr} {k : Nat} {js : List Nat} {gs : WGs} {n : Nat} (hc : X.calm = true) (h : DGs X es js gs) (hn : (assignEach es X.env).length = n := by rfl) (hst : (assignEach es X.env).findIdx? (·.1) = none := by rfl) : DG X (.Tuple es k pos) js (dgSeq n gs) :=
  PG.imp (PG.or (pg_tup hc h hn hst) (pg_unl hc h hn hst)) fun v σ H Q ⟨W, r, m, d, k, e, S, V, x, ⟨ds, h1, h2, h⟩, q⟩ => by
    subst e
    rcases h1 with h1 | h1
    · subst h1
      obtain ⟨a, rfl⟩ : ∃ a, v = .ref a := by cases x <;> exact ⟨_, rfl⟩
      obtain ⟨xs, t, x1⟩ := x.sqT
      exact .inl ⟨a, xs, rfl, t, by rw [x1.length]; exact h2, W, r, m, ds, k, rfl, S, V, x1, h, q⟩
    · obtain ⟨a, xs, rfl, e1, x1⟩ := x.items S h1
      exact .inr ⟨a, xs, rfl, SqL.of e1, by rw [x1.length]; exact h2, W, r, m, ds, k, rfl, S, V, x1, h, q⟩
end
theorem rel_strs {ys : List Str} : ∀ {us : List Value}, us.map absV = ys.map (fun z => some (V.str z)) → Vals (ys.map V.str) us := by
  induction ys with
  | nil =>
    intro us h
    cases us with
    | nil => exact .nil
    | cons u us => cases h
  | cons y ys ih =>
    intro us h
    cases us with
    | nil => cases h
    | cons u us =>
      simp only [List.map_cons, List.cons.injEq] at h
      refine .cons ?_ (ih h.2)
      have h1 := h.1
      cases u <;> simp only [absV, reduceCtorEq, Option.some.injEq, V.str.injEq] at h1
      exact ⟨_, by rw [h1]⟩
/-- a tuple of texts at the top, by what its items are -/
theorem ktup_abs {K : PySem.W.Frag} {a : Addr} {od : Option Addr} {it : Array Value} {n : Nat} {sl : Array (Option Value)} {ys : List Str} (l : K.lookup a = some ⟨.type "tuple", od, .seq it n, sl⟩) (v : (it.map absV).toList = ys.map (fun z => some (V.str z))) (hz : ys.length ≤ 1000 := by decide) :
    ∀ W, D K W (.ref a) (.ktp (ys.map .str)) := by
  have v2 : it.toList.map absV = ys.map (fun z => some (V.str z)) := by rw [← v, Array.toList_map]
  refine ktup_strs l rfl rfl ?_ (rel_strs v2)
  have e := congrArg List.length v2
  simp only [List.length_map, Array.length_toList] at e
  rw [e, sizeLine_eq]
  omega
end DL

namespace DL
open PySem PySem.Spec PyProof.Rows L2
section
variable {X : Cx} {e o : Expr} {pos : Pos}
/-! ### written dicts -/
def keyD : Dat → Option Key
  | .int i => some (.inl i)
  | .str x => some (.inr x)
  | _ => none
def keysD : List Dat → Option (List Key)
  | [] => some []
  | d :: ds => match keyD d, keysD ds with
    | some k, some ks => some (k :: ks)
    | _, _ => none
theorem keyD_of {K : PySem.W.Frag} {W : Wd} {d : Dat} {v : V} {k : Key} (h : D K W v d) (e : keyD d = some k) : v = kV k ∧ d = datK k := by
  cases d <;> simp only [keyD] at e <;> cases e <;> cases h <;> exact ⟨rfl, rfl⟩
theorem keysD_of {K : PySem.W.Frag} {W : Wd} : ∀ {ds : List Dat} {vs : List V} {ks : List Key}, DAll K W vs ds → keysD ds = some ks → vs = ks.map kV ∧ ds = ks.map datK
  | [], _, _, h, e => by cases h; cases e; exact ⟨rfl, rfl⟩
  | d :: ds, _, _, h, e => by
    simp only [keysD] at e
    split at e
    · rename_i k ks e1 e2
      cases e
      cases h with
      | cons h1 h2 =>
        obtain ⟨rfl, rfl⟩ := keyD_of h1 e1
        obtain ⟨rfl, rfl⟩ := keysD_of h2 e2
        exact ⟨rfl, rfl⟩
    · cases e
def dDict0 : WE := fun _ m F => F (.dct []) m
theorem de_dict0 : DE X (.Dict [] [] pos) dDict0 := PE.imp pe_dnewK fun σ H Q ⟨W, r, m, F, e, S, V, h, k⟩ => by
  subst e
  intro p hp
  obtain ⟨l2, S2⟩ := S.newF (o := .dK []) hp
  exact k _ m _ _ l2 S2 (.dctK (.inr rfl) upd_same rfl .nil) h
/-- {k: v}, k an int or a text -/
def dDict1 (wk wv : WE) : WE := fun r m F => wk r m fun d m1 => wv r m1 fun e m2 => (∃ k, keyD d = some k) ∧ F (.dct [(d, e)]) m2
theorem de_dict1 {kx vx : Expr} {wk wv : WE} (hk : DE X kx wk) (hv : DE X vx wv) : DE X (.Dict [some kx] [vx] pos) (dDict1 wk wv) :=
  PE.imp (pe_disp (pps_cons hk hv pps_nil) rfl rfl (fun z => by cases z) (by show 1 ≤ 15; decide)) fun σ H Q ⟨W, r, m, F, e, S, V, h, k⟩ => by
    subst e
    intro p hp
    have pr := S.priv hp
    refine ⟨⟨W.S, W.io, upd W.H p (.dK [])⟩, r, m, _, rfl, S.off pr, V.up (Up.off pr), h, ?_⟩
    intro W1 m1 v1 d1 l1 S1 x1 q1
    obtain ⟨p1, h1⟩ := (pr.off (o := .dK [])).le (o := .dK []) upd_same l1
    refine ⟨W1, r, m1, _, rfl, S1, (V.up (Up.off pr)).up l1.up, q1, ?_⟩
    rintro W2 m2 v2 d2 l2 S2 x2 ⟨⟨ky, hky⟩, q2⟩
    obtain ⟨p2, h2⟩ := p1.le h1 l2
    obtain ⟨rfl, rfl⟩ := keyD_of x1 hky
    refine ⟨h2, [(ky, v2)], rfl, by show 1 ≤ 15; decide, ?_⟩
    have S3 : Sim X.K ⟨W2.S, W2.io, upd W2.H p (.dK (mergeK [] [(ky, v2)]))⟩ m2 := S2.off p2
    have l3 : Le W ⟨W2.S, W2.io, upd W2.H p (.dK (mergeK [] [(ky, v2)]))⟩ := by
      have a := l1.trans l2
      refine ⟨a.sS, a.sI, fun b u eb hb => ?_, fun b hb => ?_, fun n b z => ?_, fun b z => ?_, fun b xs eb => ?_⟩
      · show upd W2.H p _ b = some u
        have nb : b ≠ p := ne_of_none eb hp
        rw [upd_ne nb]
        exact a.keep b u (by show upd W.H p _ b = some u; rw [upd_ne nb]; exact eb) hb
      · show (upd W2.H p _ b).isSome = true
        by_cases nb : b = p
        · rw [nb, upd_same]; rfl
        · rw [upd_ne nb]
          exact a.there b (by show (upd W.H p _ b).isSome = true; rw [upd_ne nb]; exact hb)
      · rcases a.nI n b z with y | y
        · exact .inl y
        · have y' : upd W.H p (.dK []) b = none := y
          by_cases nb : b = p
          · rw [nb, upd_same] at y'; cases y'
          · rw [upd_ne nb] at y'; exact .inr y'
      · rcases a.nS b z with y | y | y
        · exact .inl y
        · have y' : upd W.H p (.dK []) b = none := y
          by_cases nb : b = p
          · rw [nb, upd_same] at y'; cases y'
          · rw [upd_ne nb] at y'; exact .inr (.inl y')
        · exact .inr (.inr y)
      · show upd W2.H p _ b = _
        have nb : b ≠ p := ne_of_none eb hp
        rw [upd_ne nb]
        exact a.kT b xs (by show upd W.H p _ b = _; rw [upd_ne nb]; exact eb)
    obtain ⟨l4, S4, u4⟩ := S3.settleP l3 hp p2.off (by show (upd W2.H p _ p).isSome = true; rw [upd_same]; rfl)
    exact k ⟨fun b => W2.S b ∨ b = p, W2.io, upd W2.H p (.dK (mergeK [] [(ky, v2)]))⟩ m2 _ _ l4 S4 (.dctK (kvs := [(ky, v2)]) (ds := [(datK ky, d2)]) (.inr rfl) (by show upd W2.H p _ p = _; rw [upd_same]; rfl) rfl (.cons (x2.up ((Up.off p2).trans u4)) .nil)) q2
/-- {k: v}, k a tuple of ints and texts made within -/
theorem pe_dispT1 {kx vx : Expr} {tk tv : TE} (hk : PE X kx tk) (hv : PE X vx tv) (hu : X.A.units + 64 < cLine) : PE X (.Dict [some kx] [vx] pos) (fun σ H Q => ∀ p, H p = none →
    tk σ (upd H p (.dT [])) fun x H1 => tv σ H1 fun y H2 => H2 p = some (.dT []) ∧ ∃ b ks, x = .ref b ∧ H2 b = some (.tup (ks.map kV)) ∧ Q (.ref p) (upd H2 p (.dT (putK [] ks y)))) := by
  refine ⟨fun pins s σ H Q I q => ?_⟩
  have hu1 : X.A.units + 1 < cLine := by omega
  have hn := I.hok.fresh (Nat.le_refl s.heap.objs.size)
  have I1 := I.laid (a := s.heap.objs.size) (o := .dT []) (h' := s.heap.push { cls := .type "dict", data := .dict #[] }) (t' := s.toks) (fun _ _ q => Heap.get?_push_of_some _ q) (Nat.le_refl _) (dt_empty s.heap I.big)
  have hz : (pairTrees [some kx] [vx] X.env pos).length = 1 := rfl
  rw [arm_eval_Dict, zip_pairTrees [some kx] [vx] X.env pos rfl rfl, dictDisplay_pairs _ (by intro z; rw [z] at hz; cases hz) (by rw [hz]; decide)]
  refine wpAny_bind (wpAny_standAt (wpAny_bind ?_))
  unfold subDict
  refine wpAny_bind (wpAny_alloc ?_)
  refine wpAny_bind (wpAny_holding ?_)
  rw [if_pos (by rw [hz]; decide)]
  refine wpAny_bind ?_
  refine pairTrees_cons_walk (thn (hk.run pins _ σ _ _ I1 (q _ hn)) fun u s1 ⟨x, H1, J1, rx, q1⟩ => thn (hv.run pins s1 σ H1 _ J1 q1) fun w2 s2 ⟨y, H2, J2, ry, q2⟩ => pairTrees_nil_walk ?_)
  obtain ⟨e, b, ks, rfl, eb, q3⟩ := q2
  cases (show u = Value.ref b from rx)
  obtain ⟨z, hd, xs, rel, dd⟩ := dt_of J2.hok e
  cases rel
  refine wpAny_holding (wpAny_bind ?_)
  simp only [List.forIn_cons, List.forIn_nil]
  refine wpAny_bind (wpAny_bind (wpAny_dictSet_heap (knd := tupleKind (mixKind X.prog X.w)) (hsz := Nat.zero_le _) (by show X.A.units < cLine; omega) (key_of J2.hok eb) dd fun h' dd' hs => wpAny_pure (wpAny_pure ?_)))
  refine wpAny_pure (wpAny_pure (wpAny_pure ?_))
  obtain ⟨o, es, ep, hq, h2, h3, h4, _, h5⟩ := dd'
  refine ⟨.ref s.heap.objs.size, _, d_write J2 (ob := .dT (putK [] ks y)) (by rw [e]; exact True.intro) hs ⟨o, hq⟩ ⟨?_, hd, _, ((KT.put (H := H2) (.nil) ks eb ry)).keeps fun c ys ec => ?_, o, es, ep, hq, h2, h3, h4, h5⟩, rfl, q3⟩
  · have := length_putK ([] : List (List Key × V)) ks y
    rw [sizeLine_eq]; simp at this; omega
  · rw [upd_ne (ne_of ec e (fun z => nomatch z))]
    exact ec
def dDict1T (wk : WA) (wv : WE) : WE := fun r m F => wk r m fun ds m1 => ds.length ≤ sizeLine ∧ wv r m1 fun e m2 => (∃ ks, keysD ds = some ks) ∧ F (.dct [(.tup ds, e)]) m2
theorem de_dict1T {es : List Expr} {x1 : Nat} {p2 : Pos} {vx : Expr} {wk : WA} {wv : WE} (hk : DA X es wk) (hv : DE X vx wv) (hu : X.A.units + 64 < cLine) : DE X (.Dict [some (.Tuple es x1 p2)] [vx] pos) (dDict1T wk wv) :=
  PE.imp (pe_dispT1 (pe_tup hk) hv hu) fun σ H Q ⟨W, r, m, F, e, S, V, h, k⟩ => by
    subst e
    intro p hp
    have pr := S.priv hp
    refine ⟨⟨W.S, W.io, upd W.H p (.dT [])⟩, r, m, _, rfl, S.off pr, V.up (Up.off pr), h, ?_⟩
    rintro W1 m1 vs1 ds1 l1 S1 x1 ⟨hz, q1⟩
    obtain ⟨p1, h1⟩ := (pr.off (o := .dT [])).le (o := .dT []) upd_same l1
    refine ⟨by rw [x1.length]; exact hz, fun c hc => ?_⟩
    obtain ⟨lc, Sc⟩ := S1.newF (o := .tup vs1) hc
    have ncp : c ≠ p := fun z => by rw [z, h1] at hc; cases hc
    obtain ⟨pc, hpc⟩ := p1.le h1 lc
    refine ⟨_, r, m1, _, rfl, Sc, ((V.up (Up.off pr)).up l1.up).up lc.up, q1, ?_⟩
    rintro W2 m2 v2 d2 l2 S2 x2 ⟨⟨ks, hks⟩, q2⟩
    obtain ⟨p2, h2⟩ := pc.le hpc l2
    obtain ⟨rfl, rfl⟩ := keysD_of x1 hks
    refine ⟨h2, c, ks, rfl, l2.keep c _ (by show upd W1.H c _ c = _; exact upd_same) (.inl (.inr rfl)), ?_⟩
    have S3 : Sim X.K ⟨W2.S, W2.io, upd W2.H p (.dT (putK [] ks v2))⟩ m2 := S2.off p2
    have l3 : Le W ⟨W2.S, W2.io, upd W2.H p (.dT (putK [] ks v2))⟩ := by
      have a := (l1.trans lc).trans l2
      refine ⟨a.sS, a.sI, fun b u eb hb => ?_, fun b hb => ?_, fun n b z => ?_, fun b z => ?_, fun b xs eb => ?_⟩
      · show upd W2.H p _ b = some u
        have nb : b ≠ p := ne_of_none eb hp
        rw [upd_ne nb]
        exact a.keep b u (by show upd W.H p _ b = some u; rw [upd_ne nb]; exact eb) hb
      · show (upd W2.H p _ b).isSome = true
        by_cases nb : b = p
        · rw [nb, upd_same]; rfl
        · rw [upd_ne nb]
          exact a.there b (by show (upd W.H p _ b).isSome = true; rw [upd_ne nb]; exact hb)
      · rcases a.nI n b z with y | y
        · exact .inl y
        · have y' : upd W.H p (.dT []) b = none := y
          by_cases nb : b = p
          · rw [nb, upd_same] at y'; cases y'
          · rw [upd_ne nb] at y'; exact .inr y'
      · rcases a.nS b z with y | y | y
        · exact .inl y
        · have y' : upd W.H p (.dT []) b = none := y
          by_cases nb : b = p
          · rw [nb, upd_same] at y'; cases y'
          · rw [upd_ne nb] at y'; exact .inr (.inl y')
        · exact .inr (.inr y)
      · show upd W2.H p _ b = _
        have nb : b ≠ p := ne_of_none eb hp
        rw [upd_ne nb]
        exact a.kT b xs (by show upd W.H p _ b = _; rw [upd_ne nb]; exact eb)
    obtain ⟨l4, S4, u4⟩ := S3.settleP l3 hp p2.off (by show (upd W2.H p _ p).isSome = true; rw [upd_same]; rfl)
    exact k ⟨fun b => W2.S b ∨ b = p, W2.io, upd W2.H p (.dT (putK [] ks v2))⟩ m2 _ _ l4 S4 (.dctT (kvs := [(ks, v2)]) (ds := [(datT ks, d2)]) (.inr rfl) (by show upd W2.H p _ p = _; rw [upd_same]; rfl) rfl (.cons (x2.up ((Up.off p2).trans u4)) .nil)) q2
end
end DL

namespace DL
open PySem PySem.Spec PyProof.Rows L2
section
variable {r : Ro} {m : Mu} {F : KD} {wa wb wc : WE} {t u : WT} {wA : WA} {s s2 : WS} {a b c : Ro → Mu → Prop} {v : KD} {d e x y : Dat} {i j : Int} {n : Nat} {FT : Bool → Mu → Prop} {FA : List Dat → Mu → Prop} {ds es : List Dat} {k : Bool} {A B : Prop} {P : Prop}
/-! ### reading a term: a step each -/
theorem u_seq {G : DEnds} (h : s { G with nx := s2 G } r m) : dSeq s s2 G r m := h
theorem u_seq' (h : s ⟨s2 ⟨a, v, b, c⟩, v, b, c⟩ r m) : dSeq s s2 ⟨a, v, b, c⟩ r m := h
theorem u_next (h : a r m) : dNext ⟨a, v, b, c⟩ r m := h
theorem u_break (h : b r m) : dBreak ⟨a, v, b, c⟩ r m := h
theorem u_cont (h : c r m) : dCont ⟨a, v, b, c⟩ r m := h
theorem u_drop (h : wa r m fun _ m1 => a r m1) : dDrop wa ⟨a, v, b, c⟩ r m := h
theorem u_ret (h : wa r m v) : dRet wa ⟨a, v, b, c⟩ r m := h
theorem u_retF (h : wa r m fun d m1 => ∃ n ds, d = .ref n ∧ m1 n = some (.lst ds) ∧ v (.lst ds) (m1.del n)) : dRetF wa ⟨a, v, b, c⟩ r m := h
theorem u_retN (h : v .non m) : dRetN ⟨a, v, b, c⟩ r m := h
theorem u_ifS {G : DEnds} (h : t r m fun k m1 => if k = true then s G r m1 else s2 G r m1) : dIfS t s s2 G r m := h
theorem u_asg {g : WG} (h : wa r m fun d m1 => g d r m1 a) : dAsg wa g ⟨a, v, b, c⟩ r m := h
theorem u_name {i : Nat} {k : Ro → Mu → Prop} (h : k (r.set i (some d)) m) : dgName i d r m k := h
theorem u_par {i j : Nat} (h : wA r m fun ds m1 => ∃ d e, ds = [d, e] ∧ a ((r.set i (some d)).set j (some e)) m1) : dPar i j wA ⟨a, v, b, c⟩ r m := h
theorem u_aug {i : Nat} {o : R2D} (h1 : r[i]? = some (some d)) (h : wa r m fun e m1 => o d e m1 fun z m2 => a (r.set i (some z)) m2) : dAug i wa o ⟨a, v, b, c⟩ r m := ⟨d, h1, h⟩
theorem u_augS {wo wi : WE} {get o : R2D} {t : WSet} (h : wo r m fun p m1 => wi r m1 fun q m2 => get p q m2 fun x m3 => wa r m3 fun y m4 => o x y m4 fun z m5 => t p q z m5 fun m6 => a r m6) : dAugS wo wi get wa o t ⟨a, v, b, c⟩ r m := h
theorem u_sub {wo wi : WE} {t : WSet} {k : Ro → Mu → Prop} (h : wo r m fun p m1 => wi r m1 fun q m2 => t p q d m2 fun m3 => k r m3) : dgSub wo wi t d r m k := h
theorem u_var {i : Nat} (h1 : r[i]? = some (some d)) (h : F d m) : dVar i r m F := ⟨d, h1, h⟩
theorem u_c (h : F d m) : dC d r m F := h
theorem u_op {o : R2D} (h : wa r m fun x m1 => wb r m1 fun y m2 => o x y m2 F) : dOp o wa wb r m F := h
theorem u_un {o : R1D} (h : wa r m fun x m1 => o x m1 F) : dUn o wa r m F := h
theorem u_tb (h : wa r m fun d m1 => ∃ k, d = .bl k ∧ FT k m1) : dTB wa r m FT := h
theorem u_andT (h : t r m fun c m1 => if c = true then u r m1 FT else FT false m1) : dAndT t u r m FT := h
theorem u_orT (h : t r m fun c m1 => if c = true then FT true m1 else u r m1 FT) : dOrT t u r m FT := h
theorem u_notT (h : t r m fun c m1 => FT (!c) m1) : dNotT t r m FT := h
theorem u_andV (h : wa r m fun x m1 => ∃ c, x = .bl c ∧ if c = true then wb r m1 F else F (.bl false) m1) : dAndV wa wb r m F := h
theorem u_orV (h : wa r m fun x m1 => ∃ c, x = .bl c ∧ if c = true then F (.bl true) m1 else wb r m1 F) : dOrV wa wb r m F := h
theorem u_notV (h : wa r m fun x m1 => ∃ c, x = .bl c ∧ F (.bl (!c)) m1) : dNotV wa r m F := h
theorem u_if (h : t r m fun c m1 => if c = true then wa r m1 F else wb r m1 F) : dIf t wa wb r m F := h
theorem u_bl {Q : Bool → Prop} (h : Q k) : ∃ c, Dat.bl k = .bl c ∧ Q c := ⟨k, rfl, h⟩
theorem u_iteT (hk : k = true) (h : A) : if k = true then A else B := by rw [if_pos hk]; exact h
theorem u_iteF (hk : k = false) (h : B) : if k = true then A else B := by rw [hk]; exact h
theorem u_ited {p : Prop} [Decidable p] (h1 : p → A) (h2 : ¬ p → B) : if decide p = true then A else B := by by_cases q : p <;> simp [q, h1, h2]
theorem u_itei (h1 : i = j → A) (h2 : i ≠ j → B) : if (i == j) = true then A else B := by by_cases q : i = j <;> simp [q, h1, h2]
theorem u_ites {x y : Str} (h1 : x = y → A) (h2 : x ≠ y → B) : if (x == y) = true then A else B := by
  by_cases q : x = y
  · subst q; rw [if_pos (by simp)]; exact h1 rfl
  · rw [if_neg (by simpa using q)]; exact h2 q
theorem u_iten (h1 : if k = true then B else A) : if (!k) = true then A else B := by cases k <;> simpa using h1
theorem u_ite (h1 : k = true → A) (h2 : k = false → B) : if k = true then A else B := by cases k <;> simp_all
theorem u_nil (h : FA [] m) : daNil r m FA := h
theorem u_cons (h : wa r m fun d m1 => wA r m1 fun ds m2 => FA (d :: ds) m2) : daCons wa wA r m FA := h
theorem u_tup (h : wA r m fun ds m1 => ds.length ≤ sizeLine ∧ F (.tup ds) m1) : dTup wA r m F := h
theorem u_lst (h : wA r m fun ds m1 => ds.length ≤ sizeLine ∧ F (.lst ds) m1) : dLst wA r m F := h
theorem u_lstM (h : wA r m fun ds m1 => ds.length ≤ sizeLine ∧ ∀ n, m1 n = none → F (.ref n) (m1.set n (.lst ds))) : dLstM wA r m F := h
theorem u_dict0 (h : F (.dct []) m) : dDict0 r m F := h
theorem u_dict1 (h : wa r m fun d m1 => wb r m1 fun e m2 => (∃ k, keyD d = some k) ∧ F (.dct [(d, e)]) m2) : dDict1 wa wb r m F := h
theorem u_dict1T (h : wA r m fun ds m1 => ds.length ≤ sizeLine ∧ wb r m1 fun e m2 => (∃ ks, keysD ds = some ks) ∧ F (.dct [(.tup ds, e)]) m2) : dDict1T wA wb r m F := h
theorem u_sz (hz : ds.length ≤ 1000) (h : P) : ds.length ≤ sizeLine ∧ P := ⟨by rw [sizeLine_eq]; omega, h⟩
theorem u_call {sp : Spec} {Z : KX} (h : wA r m fun ds m1 => sp ds m1 F Z) : dCall sp Z wA r m F := h
theorem u_cb {o : RLD} (h : wA r m fun ds m1 => o ds m1 F) : dCB o wA r m F := h
theorem u_mt {T : String} {o : RMD} (h : wa r m fun d m1 => isTy T m1 d ∧ wA r m1 fun ds m2 => o d ds m2 F) : dMt T o wa wA r m F := h
theorem u_isi {T : String} (h : wa r m fun d m1 => ∃ t, tyD m1 d = some t ∧ F (.bl (isiD T t)) m1) : dIsi T wa r m F := h
theorem u_sl {wl wh : WO} (h : wa r m fun x m1 => wl r m1 fun l m2 => wh r m2 fun h m3 => rSl l h x m3 F) : dSl wa wl wh r m F := h
theorem u_np {FO : Option Int → Mu → Prop} (h : FO none m) : dNoPart r m FO := h
theorem u_pt {FO : Option Int → Mu → Prop} (h : wa r m fun d m1 => ∃ i, d = .int i ∧ FO (some i) m1) : dPart wa r m FO := h
theorem u_int {Q : Int → Prop} (h : Q i) : ∃ j, Dat.int i = .int j ∧ Q j := ⟨i, rfl, h⟩
theorem u_repl {y z : Str} (h : wa r m fun d m1 => ∃ x, d = .str x ∧ x.length + (x.length + 1) * z.length ≤ 16777216 ∧ F (.str (Txt.replace x y z)) m1) : dRepl y z wa r m F := h
theorem u_str {x : Str} {Q : Str → Prop} (h : Q x) : ∃ j, Dat.str x = .str j ∧ Q j := ⟨x, rfl, h⟩
theorem u_yes (h : FT true m) : dYes r m FT := h
theorem u_lc {wi : WI} {g : WG} {vs : List Nat} (h : wi r m fun src m1 => src.items.length < sizeLine ∧ dcomp src.guard g t wa (dwipe r vs) (fun acc m2 => F (.lst acc) m2) src.items [] m1) : dLc wi g t wa vs r m F := h
theorem u_for {wi : WI} {g : WG} {G : DEnds} (h : wi r m fun src m1 => dloop src.guard g s G src.items r m1) : dFor wi g s G r m := h
/-! ### operations at known data -/
theorem p_addI (h : F (.int (i + j)) m) : rAdd (.int i) (.int j) m F := h
theorem p_addS {x y : Str} (hz : x.length + y.length ≤ sizeLine) (h : F (.str (x ++ y)) m) : rAdd (.str x) (.str y) m F := ⟨hz, h⟩
theorem p_addT {x y : List Dat} (hz : x.length + y.length ≤ sizeLine) (h : F (.tup (x ++ y)) m) : rAdd (.tup x) (.tup y) m F := ⟨hz, h⟩
theorem p_addL {x y : List Dat} (hz : x.length + y.length ≤ sizeLine) (h : F (.lst (x ++ y)) m) : rAdd (.lst x) (.lst y) m F := ⟨x, y, rfl, rfl, hz, h⟩
theorem p_addRL {x y : List Dat} (hm : m n = some (.lst x)) (hz : x.length + y.length ≤ sizeLine) (h : F (.lst (x ++ y)) m) : rAdd (.ref n) (.lst y) m F := ⟨x, y, by simp [items, hm], rfl, hz, h⟩
theorem p_addLR {x y : List Dat} (hm : m n = some (.lst y)) (hz : x.length + y.length ≤ sizeLine) (h : F (.lst (x ++ y)) m) : rAdd (.lst x) (.ref n) m F := ⟨x, y, rfl, by simp [items, hm], hz, h⟩
theorem p_sub (h : F (.int (i - j)) m) : rSub (.int i) (.int j) m F := ⟨i, j, rfl, rfl, h⟩
theorem p_mulI (hb : MulB i j) (h : F (.int (i * j)) m) : rMul (.int i) (.int j) m F := ⟨hb, h⟩
theorem p_mulS {x : Str} (hb : MulOk x j) (h : F (.str (Txt.mul x j)) m) : rMul (.str x) (.int j) m F := ⟨hb, h⟩
theorem p_mulL {x : List Dat} (h1 : -(2 ^ 63) ≤ j) (h2 : j < 2 ^ 63) (h3 : x.length * j.toNat ≤ sizeLine) (h : F (.lst (List.replicate j.toNat x).flatten) m) : rMul (.lst x) (.int j) m F := ⟨x, rfl, h1, h2, h3, h⟩
theorem p_mod (hj : 0 < j) (h : F (.int (i % j)) m) : rMod (.int i) (.int j) m F := ⟨i, j, rfl, rfl, hj, h⟩
theorem p_fdiv (hj : 0 < j) (hb : j.natAbs.log2 < 9000) (h : F (.int (i / j)) m) : rFdiv (.int i) (.int j) m F := ⟨i, j, rfl, rfl, hj, hb, h⟩
theorem p_neg (h : F (.int (-i)) m) : rNeg (.int i) m F := ⟨i, rfl, h⟩
theorem p_lt (h : F (.bl (decide (i < j))) m) : rLt (.int i) (.int j) m F := ⟨i, j, rfl, rfl, h⟩
theorem p_le (h : F (.bl (decide (i ≤ j))) m) : rLe (.int i) (.int j) m F := ⟨i, j, rfl, rfl, h⟩
theorem p_gt (h : F (.bl (decide (j < i))) m) : rGt (.int i) (.int j) m F := ⟨i, j, rfl, rfl, h⟩
theorem p_ge (h : F (.bl (decide (j ≤ i))) m) : rGe (.int i) (.int j) m F := ⟨i, j, rfl, rfl, h⟩
theorem p_eqI (h : F (.bl (i == j)) m) : rEq (.int i) (.int j) m F := h
theorem p_eqS {x y : Str} (h : F (.bl (x == y)) m) : rEq (.str x) (.str y) m F := h
theorem p_eq {p q : PyData} (he : eqS x y = none) (hp : viewPy m x = some p) (hq : viewPy m y = some q) (h1 : SeqAt.shaped p = true) (h2 : SeqAt.shaped q = true) (h : F (.bl (PyData.eqv p q)) m) : rEq x y m F := by
  unfold rEq; rw [he]; exact ⟨p, q, .inl hp, .inl hq, h1, h2, h⟩
theorem p_eqD {p q : PyData} (he : eqS x y = none) (hp : DView m x p) (hq : DView m y q) (h1 : SeqAt.shaped p = true) (h2 : SeqAt.shaped q = true) (h : F (.bl (PyData.eqv p q)) m) : rEq x y m F := by
  unfold rEq; rw [he]; exact ⟨p, q, hp, hq, h1, h2, h⟩
theorem p_neD {p q : PyData} (he : eqS x y = none) (hp : DView m x p) (hq : DView m y q) (h1 : SeqAt.shaped p = true) (h2 : SeqAt.shaped q = true) (h : F (.bl (!PyData.eqv p q)) m) : rNe x y m F := by
  unfold rNe; rw [he]; exact ⟨p, q, hp, hq, h1, h2, h⟩
theorem p_eqK (he : eqS x y = some k) (h : F (.bl k) m) : rEq x y m F := by unfold rEq; rw [he]; exact h
theorem p_neK (he : eqS x y = some k) (h : F (.bl (!k)) m) : rNe x y m F := by unfold rNe; rw [he]; exact h
theorem p_ixR (hm : m n = some (.lst ds)) (hi : atI ds i = some d) (h : F d m) : rIx (.ref n) (.int i) m F := ⟨i, rfl, ds, d, by simp [items, hm], hi, h⟩
theorem p_ixL (hi : atI ds i = some d) (h : F d m) : rIx (.lst ds) (.int i) m F := ⟨i, rfl, ds, d, rfl, hi, h⟩
theorem p_ixT (hi : atI ds i = some d) (h : F d m) : rIx (.tup ds) (.int i) m F := ⟨i, rfl, d, hi, h⟩
theorem p_ixS {z : Str} {c : Nat} (hz : z.length ≤ sizeLine) (hi : atI z.cps.toList i = some c) (h : F (.str ⟨#[c]⟩) m) : rIx (.str z) (.int i) m F := ⟨i, rfl, hz, c, hi, h⟩
theorem p_getR (hm : m n = some (.lst ds)) (h0 : 0 ≤ i) (hi : ds[i.toNat]? = some d) (h : F d m) : rGetL (.ref n) (.int i) m F := ⟨ds, i, d, by simp [items, hm], rfl, h0, hi, h⟩
theorem p_setR' {j : Nat} {K : Mu → Prop} (hi : ixN ds.length i = some j) (h : K (m.set n (.lst (ds.set j d)))) : rSet (.ref n) (.int i) d (m.set n (.lst ds)) K := ⟨n, ds, i, j, rfl, Mu.set_same .., rfl, hi, by rw [Mu.set_set]; exact h⟩
theorem p_setR {j : Nat} {K : Mu → Prop} (hm : m n = some (.lst ds)) (hi : ixN ds.length i = some j) (h : K (m.set n (.lst (ds.set j d)))) : rSet (.ref n) (.int i) d m K := ⟨n, ds, i, j, rfl, hm, rfl, hi, h⟩
theorem p_iaddI (h : F (.int (i + j)) m) : rIAdd (.int i) (.int j) m F := h
theorem p_iaddS {x y : Str} (hz : x.length + y.length ≤ sizeLine) (h : F (.str (x ++ y)) m) : rIAdd (.str x) (.str y) m F := ⟨hz, h⟩
theorem p_iaddR' {xs ys : List Dat} (hz : xs.length + ys.length ≤ sizeLine) (h : F (.ref n) (m.set n (.lst (xs ++ ys)))) : rIAdd (.ref n) (.lst ys) (m.set n (.lst xs)) F := ⟨xs, Mu.set_same .., hz, by rw [Mu.set_set]; exact h⟩
theorem p_iaddR {xs ys : List Dat} (hm : m n = some (.lst xs)) (hz : xs.length + ys.length ≤ sizeLine) (h : F (.ref n) (m.set n (.lst (xs ++ ys)))) : rIAdd (.ref n) (.lst ys) m F := ⟨xs, hm, hz, h⟩
theorem p_lenS {z : Str} (hz : z.length ≤ sizeLine) (h : F (.int z.length) m) : rLen [.str z] m F := ⟨_, rfl, hz, h⟩
theorem p_lenT (h : F (.int ds.length) m) : rLen [.tup ds] m F := ⟨_, rfl, h⟩
theorem p_lenL (h : F (.int ds.length) m) : rLen [.lst ds] m F := ⟨_, rfl, ds, rfl, h⟩
theorem p_lenR (hm : m n = some (.lst ds)) (h : F (.int ds.length) m) : rLen [.ref n] m F := ⟨_, rfl, ds, by simp [items, hm], h⟩
theorem p_intI (h : F (.int i) m) : rInt [.int i] m F := ⟨_, rfl, h⟩
theorem p_intS {z : Str} (hp : PySem.intText? z = some i) (hz : z.length ≤ 640) (h : F (.int i) m) : rInt [.str z] m F := ⟨_, rfl, i, hp, hz, h⟩
theorem p_intB (h : F (.int (if k then 1 else 0)) m) : rInt [.bl k] m F := ⟨_, rfl, h⟩
theorem p_abs (h : F (.int (i.natAbs : Int)) m) : rAbs [.int i] m F := ⟨_, rfl, h⟩
theorem p_repr {p : PyData} (hp : viewPy m d = some p) (hk : reprOk p = true) (h : F (.str p.shown) m) : rRepr [d] m F := ⟨d, p, rfl, .inl hp, hk, h⟩
theorem p_reprD {p : PyData} (hp : DView m d p) (hk : reprOk p = true) (h : F (.str p.shown) m) : rRepr [d] m F := ⟨d, p, rfl, hp, hk, h⟩
theorem p_slScr {ns : List Int} {lo hi : Option Int} (h : F (.lst (cutD (ns.map .int) lo hi)) m) : rSl lo hi (.scr ns) m F := h
theorem p_slS {z : Str} {lo hi : Option Int} (hz : z.length ≤ sizeLine) (h : F (.str (cutS z lo hi)) m) : rSl lo hi (.str z) m F := ⟨hz, h⟩
theorem p_slT {lo hi : Option Int} (h : F (.tup (cutD ds lo hi)) m) : rSl lo hi (.tup ds) m F := h
theorem p_slL {lo hi : Option Int} (h : F (.lst (cutD ds lo hi)) m) : rSl lo hi (.lst ds) m F := ⟨ds, rfl, h⟩
theorem p_inK {a : Dat} (h1 : isFlat a = true) (h2 : ds.all isFlat = true) (h : F (.bl (ds.any fun e => eqF e a)) m) : rInF false a (.ktp ds) m F := ⟨ds, .inr (.inl rfl), h1, h2, h⟩
theorem p_inT {a : Dat} (h1 : isFlat a = true) (h2 : ds.all isFlat = true) (h : F (.bl (ds.any fun e => eqF e a)) m) : rInF false a (.tup ds) m F := ⟨ds, .inl rfl, h1, h2, h⟩
theorem p_inL {a : Dat} (h1 : isFlat a = true) (h2 : ds.all isFlat = true) (h : F (.bl (ds.any fun e => eqF e a)) m) : rInF false a (.lst ds) m F := ⟨ds, .inr (.inr rfl), h1, h2, h⟩
theorem p_rng1 {w : WA} {k : Src → Mu → Prop} (h : w r m fun ds m1 => ∃ j : Int, ds = [.int j] ∧ -(2 ^ 62) ≤ j ∧ j < 2 ^ 62 ∧ k ⟨rangeD 0 j.toNat, gTrue⟩ m1) : diRng1 w r m k := h
theorem p_rngE {Q : Int → Mu → Prop} (h1 : -(2 ^ 62) ≤ i) (h2 : i < 2 ^ 62) (h : Q i m) : ∃ j : Int, [Dat.int i] = [.int j] ∧ -(2 ^ 62) ≤ j ∧ j < 2 ^ 62 ∧ Q j m := ⟨i, rfl, h1, h2, h⟩
theorem mulb_l (h1 : -(2 ^ 64) < i) (h2 : i < 2 ^ 64) : MulB i j := .inl (.inl ⟨h1, h2⟩)
theorem mulb_r (h1 : -(2 ^ 64) < j) (h2 : j < 2 ^ 64) : MulB i j := .inl (.inr ⟨h1, h2⟩)
theorem u_ty {t : String} {Q : String → Prop} (h : tyD m d = some t) (q : Q t) : ∃ t, tyD m d = some t ∧ Q t := ⟨t, h, q⟩
theorem Mu.set_id {c : Cell} (h : m n = some c) : m.set n c = m := by
  funext k; simp only [Mu.set]; split
  · rename_i e; rw [e, h]
  · rfl
theorem len_repl0 (x : Str) {y : Str} (hy : 1 ≤ y.length) : (Txt.replace x y ⟨#[]⟩).length ≤ x.length := by
  have e := StrLaws.replace_list (x := x) (z := ⟨#[]⟩) hy
  have q : ∀ (s : Nat) (l : List Nat), (StrLaws.replS y.cps.toList [] s l).length ≤ l.length := by
    intro s l
    induction l generalizing s with
    | nil => cases s <;> simp [StrLaws.replS]
    | cons c r ih =>
      cases s with
      | zero =>
        rw [StrLaws.replS]
        split
        · have := ih (y.cps.toList.length - 1); simp only [List.nil_append, List.length_cons]; omega
        · have := ih 0; simp only [List.length_cons]; omega
      | succ s => rw [StrLaws.replS]; have := ih s; simp only [List.length_cons]; omega
  have := q 0 x.cps.toList
  have l1 : ∀ z : Str, z.length = z.cps.toList.length := fun z => by simp [Str.length]
  rw [l1, l1, e]; exact this
theorem p_repl0 {x z : Str} {Q : Str → Prop} (hx : x.length ≤ 16777216) (hz : z.length = 0) (h : Q x) : ∃ x', Dat.str x = .str x' ∧ x'.length + (x'.length + 1) * z.length ≤ 16777216 ∧ Q x' := ⟨x, rfl, by rw [hz]; omega, h⟩
theorem loop_ind {gd : Mu → Prop} {g : WG} {G : DEnds} (I : List Dat → Ro → Mu → Prop) (h0 : ∀ r m, I [] r m → gd m ∧ G.nx r m)
    (h1 : ∀ x xs r m, I (x :: xs) r m → (∀ r m, I xs r m → dloop gd g s G xs r m) → dloop gd g s G (x :: xs) r m) : ∀ xs r m, I xs r m → dloop gd g s G xs r m
  | [], r, m, h => h0 r m h
  | x :: xs, r, m, h => h1 x xs r m h fun r m h' => loop_ind I h0 h1 xs r m h'
theorem loop_c {gd : Mu → Prop} {g : WG} {G : DEnds} {xs : List Dat} (h0 : gd m) (h : g x r m fun r1 m1 => s ⟨dloop gd g s G xs, G.rt, G.nx, dloop gd g s G xs⟩ r1 m1) : dloop gd g s G (x :: xs) r m := ⟨h0, h⟩
theorem comp_c {gd : Mu → Prop} {g : WG} {xs acc : List Dat} {FL : List Dat → Mu → Prop} (h0 : gd m) (h : g x r m fun r2 m2 => t r2 m2 fun b m3 => if b = true then wa r2 m3 fun y m4 => dcomp gd g t wa r FL xs (acc ++ [y]) m4 else dcomp gd g t wa r FL xs acc m3) : dcomp gd g t wa r FL (x :: xs) acc m := ⟨h0, h⟩
theorem comp_ind {gd : Mu → Prop} {g : WG} {FL : List Dat → Mu → Prop} (I : List Dat → List Dat → Mu → Prop) (h0 : ∀ acc m, I [] acc m → gd m ∧ FL acc m)
    (h1 : ∀ x xs acc m, I (x :: xs) acc m → (∀ acc m, I xs acc m → dcomp gd g t wa r FL xs acc m) → dcomp gd g t wa r FL (x :: xs) acc m) : ∀ xs acc m, I xs acc m → dcomp gd g t wa r FL xs acc m
  | [], acc, m, h => h0 acc m h
  | x :: xs, acc, m, h => h1 x xs acc m h fun acc m h' => comp_ind I h0 h1 xs acc m h'
theorem atI_at {α : Type} {xs : List α} {i : Int} {x : α} (h0 : 0 ≤ i) (h : xs[i.toNat]? = some x) : atI xs i = some x := by
  have hl := (List.getElem?_eq_some_iff.mp h).1
  unfold atI ixN
  rw [if_pos h0, if_pos (by omega)]
  exact h
theorem atI_some {α : Type} {xs : List α} {i : Int} (h0 : 0 ≤ i) (h : i < xs.length) : ∃ x, x ∈ xs ∧ xs[i.toNat]? = some x ∧ atI xs i = some x := by
  have hl : i.toNat < xs.length := by omega
  have e : xs[i.toNat]? = some xs[i.toNat] := List.getElem?_eq_getElem hl
  exact ⟨_, List.getElem_mem hl, e, atI_at h0 e⟩
theorem p_count {x y : Str} (h : F (.int (Txt.count x y)) m) : rCountS (.str x) [.str y] m F := ⟨x, y, rfl, rfl, h⟩
theorem p_ends {x y : Str} (h : F (.bl (Txt.endswith x y)) m) : rEndsS (.str x) [.str y] m F := ⟨x, y, rfl, rfl, h⟩
theorem p_upper {x : Str} (hz : x.length ≤ 5592405) (h : F (.str (Txt.upper x)) m) : rUpper (.str x) [] m F := ⟨x, rfl, rfl, hz, h⟩
theorem p_join {x : Str} {ys : List Str} (hz : (ys.map (·.length)).sum + ys.length * x.length ≤ 16777216) (h : F (.str (Txt.join x ys)) m) : rJoin (.str x) [.lst (ys.map .str)] m F := ⟨x, _, _, ys, rfl, rfl, .inr rfl, rfl, hz, h⟩
theorem u_isTyS {x : Str} (h : P) : isTy "str" m (.str x) ∧ P := ⟨⟨x, rfl⟩, h⟩
theorem u_isTyL {n : Nat} (hm : m n = some (.lst ds)) (h : P) : isTy "list" m (.ref n) ∧ P := ⟨⟨ds, by simp [items, hm]⟩, h⟩
theorem u_key {k : Key} (h1 : keyD d = some k) (h : P) : (∃ k, keyD d = some k) ∧ P := ⟨⟨k, h1⟩, h⟩
theorem u_keys {k : List Key} (h1 : keysD ds = some k) (h : P) : (∃ k, keysD ds = some k) ∧ P := ⟨⟨k, h1⟩, h⟩
theorem len_gone (x : Str) {y : Str} (hy : 1 ≤ y.length) : (Txt.replace x y (Str.ofString "")).length ≤ x.length := len_repl0 x hy
theorem loop_c' {gd : Mu → Prop} {g : WG} {xs : List Dat} (h0 : gd m) (h : g x r m fun r1 m1 => s ⟨dloop gd g s ⟨a, v, b, c⟩ xs, v, a, dloop gd g s ⟨a, v, b, c⟩ xs⟩ r1 m1) : dloop gd g s ⟨a, v, b, c⟩ (x :: xs) r m := ⟨h0, h⟩
theorem loop_ind' {gd : Mu → Prop} {g : WG} (I : List Dat → Ro → Mu → Prop) (h0 : ∀ r m, I [] r m → gd m ∧ a r m)
    (h1 : ∀ x xs r m, I (x :: xs) r m → (∀ r m, I xs r m → dloop gd g s ⟨a, v, b, c⟩ xs r m) → dloop gd g s ⟨a, v, b, c⟩ (x :: xs) r m) (xs : List Dat) (r : Ro) (m : Mu) (h : I xs r m) : dloop gd g s ⟨a, v, b, c⟩ xs r m := loop_ind I h0 h1 xs r m h
end
end DL

namespace DL
open PySem PySem.Spec PyProof.Rows L2
section
variable {r : Ro} {m : Mu} {F : KD} {n : Nat} {i j : Int} {ds : List Dat}
theorem len_join (x : Str) (ys : List Str) : (Txt.join x ys).length ≤ (ys.map (·.length)).sum + ys.length * x.length := by
  show (Builtin.Str.glued x ys).length ≤ _
  rw [StrLaws.glued_eq_join]
  exact StrLaws.join_length_le x ys
theorem mulok {x : Str} {v : Int} (hx : x.length ≤ 1000) (h0 : 0 ≤ v) (h1 : v ≤ 1000) : MulOk x v := by
  refine ⟨by rw [Bool.or_eq_false_iff]; exact ⟨decide_eq_false (by omega), decide_eq_false (by omega)⟩, fun _ _ => ?_, fun _ _ => ?_⟩
  · intro z
    have h3 : (1000 : Int) ≤ (2 ^ 63 - 1) / v := by
      rw [Int.le_ediv_iff_mul_le (by omega)]
      omega
    omega
  · unfold Builtin.Str.tooLong
    refine decide_eq_false ?_
    rw [sizeLine_eq]
    have : x.length * v.toNat ≤ 1000 * 1000 := Nat.mul_le_mul hx (by omega)
    omega
theorem len_mulN {x : Str} {v : Int} (N : Nat) (hv : v ≤ N) : (Txt.mul x v).length ≤ x.length * N := PyProof.Rows.len_mul_leN (Nat.le_refl _) hv
theorem p_mulS' {x : Str} (hx : x.length ≤ 1000) (h0 : 0 ≤ j) (h1 : j ≤ 1000) (h : F (.str (Txt.mul x j)) m) : rMul (.str x) (.int j) m F := p_mulS (mulok hx h0 h1) h
theorem p_addS' {x y : Str} (h1 : x.length ≤ 1000000) (h2 : y.length ≤ 1000000) (h : F (.str (x ++ y)) m) : rAdd (.str x) (.str y) m F := p_addS (by rw [sizeLine_eq]; omega) h
theorem log_small (h0 : 0 < j) (h : j < 2 ^ 64) : j.natAbs.log2 < 9000 := by
  have h1 : j.natAbs < 2 ^ 64 := by omega
  have := (Nat.log2_lt (n := j.natAbs) (k := 64) (by omega)).mpr h1
  omega
theorem len_pos {k : Nat} (h : Nat.ble 1 k = true) : 0 < (k : Int) := by have := Nat.le_of_ble_eq_true h; omega
theorem len_log {k : Nat} (h0 : Nat.ble 1 k = true) (h : Nat.ble k 100000 = true) : (k : Int).natAbs.log2 < 9000 := log_small (len_pos h0) (by have := Nat.le_of_ble_eq_true h; omega)
end
end DL

namespace DL
open PySem PySem.Spec PyProof.Rows L2
/-! ### defs whose promise asks nothing of what is around: for what methods call -/
structure DO (P : Program) (wd : World) (K : PySem.W.Frag) (mg : Str → Option Value) (base : Heap) (k : Nat) (f : Addr) (ps : List Str) (sp : Spec) : Prop where
  len : ∀ ds m F Z, sp ds m F Z → ds.length = ps.length
  ex : ∃ fd, Binds K fd ps [] ∧ FnOk P wd K mg base CX0 k f fd ps (dSp K sp)
  kp : PySem.W.keepIn K (.ref f) = true
section
variable {X : Cx} {k : Nat} {f C : Addr} {fd : FuncData} {ps : List Str} {sp : Spec} {x nm : Str} {p pos apos : Pos} {e o : Expr} {es : List Expr} {wa wo : WE} {w : WA}
variable {P : Program} {wd : World} {K : PySem.W.Frag} {mg : Str → Option Value} {base : Heap}
theorem DO.mono {j k : Nat} (F : DO P wd K mg base j f ps sp) (h : j ≤ k) : DO P wd K mg base k f ps sp :=
  ⟨F.len, let ⟨fd, a, b⟩ := F.ex; ⟨fd, a, b.mono h⟩, F.kp⟩
theorem DO.df (F : DO P wd K mg base k f ps sp) : DF P wd K mg base CX0 k f ps sp :=
  ⟨let ⟨fd, a, b⟩ := F.ex; ⟨fd, a, F.len, fun A outer s H args us vs Q E hr _ => b.run A outer s H args us vs Q E hr⟩, F.kp⟩
abbrev FnAt (K : PySem.W.Frag) (x qual : Str) (st : Stmt) (ps : List Str) (f : Addr) : Prop := ∃ fd, Fun K x qual st f fd ∧ Binds K fd ps []
theorem dfo {qual : Str} {st : Stmt} {N : List Str} (F : FnAt K x qual st ps f) (Sc : FnScope N ps (defScope st)) (len : ∀ ds m F Z, sp ds m F Z → ds.length = ps.length)
    (hbody : ∀ (cdv : Value) (A : Around) (outer : List PySem.Env) (s : Shared) (H : Hp) (E : XK) (ds : List Dat) (m : Mu) (G : KD) (Z : KX), Room k (A.deeper (envOfC qual (defScope st) s.heap.objs.size f cdv)) → base.objs.size ≤ s.heap.objs.size → sp ds m G Z →
      ∃ w : WS, DSs (cxOf CX0 P wd K mg base N qual (defScope st) f cdv A outer s H E).nox (defBody st) w ∧ w { nx := fun _ m' => G .non m', rt := G } (dstart N ds) m) : DO P wd K mg base (k + 1) f ps sp := by
  obtain ⟨fd, F1, F2⟩ := F
  refine ⟨len, ⟨fd, F2, ?_⟩, F1.kp⟩
  obtain ⟨oc, od, kV, doc, pm, an, cdv, ct, osl, efd, lk, hcd⟩ := F1.ex
  refine ⟨sp_len len, fun A outer s H args us vs Q E hr he hb hv hsp => ?_⟩
  obtain ⟨W, m, ds, G, Z, eW, S, x1, q, kk, z⟩ := hsp
  have hl : vs.length = ps.length := x1.length.trans (len _ _ _ _ q)
  have inK : K.In s.heap := (he.mod.kin).keeps fun b o e => And.left (he.bs b o e)
  have lim : s.heap.NoLimit := (he.mod.nolimit).keeps fun b o e => And.left (he.bs b o e)
  have kinds : ∀ y ∈ ps.zip us, (defScope st).names.lookup y.1 = some .local ∨ ((defScope st).names.lookup y.1 = some .cell ∧ ((cellsFrom (s.heap.objs.size + 1) (defScope st).names []).lookup y.1).isSome = true) := by
    rintro ⟨y, v⟩ hy
    exact (Sc.par y (List.of_mem_zip hy).1).imp id fun z => And.intro z (PySem.W.cellsFrom_some _ _ _ (.inl z))
  subst efd
  have rec' := PySem.W.codeRec_of inK hcd
  refine codeAny_call_function (args := args) hr.depth (inK f _ lk) rfl Sc.co Sc.gen rfl rec' (hb _ _ _ _ (wpAny_newFunctionEnv_cells Sc.kind kinds fun env eenv s1 xc => ?_))
  subst eenv
  refine And.intro (lim.keeps (xc.toInCall).keep) (codeAny_func ?_)
  have room := hr.deeper (envOfC qual (defScope st) s.heap.objs.size f cdv)
  obtain ⟨w, hw, hq⟩ := hbody cdv A outer s H E ds m G Z room he.bsz q
  have I0 : L2.Inv (cxOf CX0 P wd K mg base N qual (defScope st) f cdv A outer s H E) [] (L2.start N vs) H s1 := inv_start Sc hr.hd he hl hv xc
  have run := (PSs.nox hw).run [] s1 (L2.start N vs) H { nx := fun _ H' => Q .non H', rt := Q } I0
    ⟨W, _, m, _, eW, S, env_start x1, hq, fun W' m' _ _ l S' _ g => kk W' m' _ _ l S' .non g, fun W' m' v d l S' y g => kk W' m' v d l S' y g, fun _ _ _ _ _ _ _ g => g, fun _ _ _ _ _ _ _ g => g⟩
  refine wpAny_mono run ?_ (fun _ _ g => g)
  rintro (_ | _ | _ | u) s2 g
  · obtain ⟨σ', H', J, g⟩ := g
    exact ⟨V.non, H', J.os, J.bare, J.base, J.hok, rfl, g⟩
  · obtain ⟨_, _, _, g⟩ := g
    exact g.elim
  · obtain ⟨_, _, _, g⟩ := g
    exact g.elim
  · obtain ⟨v, σ', H', J, rv, g⟩ := g
    exact ⟨v, H', J.os, J.bare, J.base, J.hok, rv, g⟩
theorem de_callO (F : DO X.prog X.w X.K X.mg X.base k f ps sp) (hr : Room k X.A) (hg : Gl X x) (hm : X.mg x = some (.ref f))
    (ha : DA X (e :: es) w) (hdb : (x == ("__debug__" : Str)) = false := by decide) (he : starEach (e :: es) X.env = (false, eval e X.env) :: starEach es X.env := by rfl) (hpl : (backTo pos (starEach es X.env)).any (·.1) = false := by rfl) :
    DE X (.Call (.Name x p) (e :: es) [] pos) (dCall sp X0 w) := by
  obtain ⟨fd, hb, F2⟩ := F.ex
  refine PE.imp (pe_call (E := E0) (dvs := []) (ds := []) F2 hr hg hm F.kp hb .nil pass0 ha hdb he hpl) fun σ H Q ⟨W, r, m, G, e0, S, V, h, q⟩ => ⟨W, r, m, _, e0, S, V, h, fun W1 m1 vs ds l1 S1 x1 q1 => ?_⟩
  show dSp X.K sp (vs ++ []) W1.H Q E0
  rw [List.append_nil]
  exact call_dsp (E := E0) (σ := σ) (r := r) (m := m) (H1 := H) l1 S1 x1 q1 q .no

/-! ### objects -/
def insD (m : Mu) : Dat → Option (Addr × List (Str × Dat))
  | .obj C fs => some (C, fs)
  | .ref n => match m n with
    | some (.ins C fs) => some (C, fs)
    | _ => none
  | _ => none
theorem D.ins {W : Wd} {m : Mu} {v : V} {d : Dat} {gs : List (Str × Dat)} (S : Sim K W m) (h : D K W v d) (e : insD m d = some (C, gs)) :
    ∃ a dx fs, v = .ref a ∧ W.H a = some (.ins C dx fs) ∧ fs.map (·.1) = gs.map (·.1) ∧ DAll K W (fs.map (·.2)) (gs.map (·.2)) := by
  cases d with
  | obj C' gs' =>
    cases e
    cases h with
    | obj h1 h2 h3 h4 => exact ⟨_, _, _, rfl, h2, h3, h4⟩
  | ref n =>
    simp only [insD] at e
    split at e
    · rename_i C' fs' hm
      cases e
      obtain ⟨a, rfl⟩ : ∃ a, v = .ref a := by cases h; exact ⟨_, rfl⟩
      obtain ⟨⟨dx, fs, h1, h2, h3⟩, _⟩ := D.cell S h hm
      exact ⟨a, dx, fs, rfl, h1, h2, h3⟩
    · cases e
  | _ => cases e
theorem look_some {W : Wd} {f : Str} {d : Dat} : ∀ {fs : List (Str × V)} {gs : List (Str × Dat)}, fs.map (·.1) = gs.map (·.1) → DAll K W (fs.map (·.2)) (gs.map (·.2)) → gs.lookup f = some d → ∃ v, fs.lookup f = some v ∧ D K W v d
  | [], [], _, _, e => by cases e
  | [], _ :: _, h, _, _ => by cases h
  | _ :: _, [], h, _, _ => by cases h
  | (a, v) :: fs, (b, d') :: gs, h, x, e => by
    simp only [List.map_cons, List.cons.injEq] at h
    obtain ⟨rfl, h2⟩ := h
    cases x with
    | cons x1 x2 =>
      rw [List.lookup_cons] at e ⊢
      by_cases q : (f == a) = true
      · rw [q] at e ⊢; cases e; exact ⟨_, rfl, x1⟩
      · have q' : (f == a) = false := by simpa using q
        rw [q'] at e ⊢
        exact look_some h2 x2 e
theorem look_none {f : Str} : ∀ {fs : List (Str × V)} {gs : List (Str × Dat)}, fs.map (·.1) = gs.map (·.1) → gs.lookup f = none → fs.lookup f = none
  | [], [], _, _ => rfl
  | [], _ :: _, h, _ => by cases h
  | _ :: _, [], h, _ => by cases h
  | (a, v) :: fs, (b, d') :: gs, h, e => by
    simp only [List.map_cons, List.cons.injEq] at h
    obtain ⟨rfl, h2⟩ := h
    rw [List.lookup_cons] at e ⊢
    by_cases q : (f == a) = true
    · rw [q] at e; cases e
    · have q' : (f == a) = false := by simpa using q
      rw [q'] at e ⊢
      exact look_none h2 e
/-- e.f, stored -/
def dFld (C : Addr) (nm : Str) (w : WE) : WE := fun r m F => w r m fun d m1 => ∃ gs v, insD m1 d = some (C, gs) ∧ gs.lookup nm = some v ∧ F v m1
theorem de_fld (c : Cls X.K C) (n : NoAttr X.K C nm) (he : DE X e wa) (hb : attributeBase e nm X.env (eval e X.env) = eval e X.env := by rfl) : DE X (.Attribute e nm pos) (dFld C nm wa) :=
  PE.imp (pe_fld he hb) fun σ H Q ⟨W, r, m, F, e0, S, V, h, k⟩ => ⟨W, r, m, _, e0, S, V, h, fun W1 m1 v d l1 S1 x1 ⟨gs, y, h1, h2, q⟩ => by
    obtain ⟨a, dx, fs, rfl, h3, h4, h5⟩ := x1.ins S1 h1
    obtain ⟨u, h6, h7⟩ := look_some h4 h5 h2
    exact ⟨a, C, dx, fs, u, rfl, h3, c, n, h6, k W1 m1 _ _ l1 S1 h7 q⟩⟩
/-- e.f, a property -/
def dProp (C : Addr) (sp : Spec) (w : WE) : WE := fun r m F => w r m fun d m1 => (∃ gs, insD m1 d = some (C, gs)) ∧ sp [d] m1 F X0
theorem de_prop {pr : Addr} (c : Cls X.K C) (hp : PropOf X.K C nm pr f) (F : DO X.prog X.w X.K X.mg X.base k f ps sp) (hr : Room (k + 1) X.A) (he : DE X e wa)
    (hab : attributeBase e nm X.env (eval e X.env) = eval e X.env := by rfl) : DE X (.Attribute e nm pos) (dProp C sp wa) := by
  obtain ⟨fd, hb, F2⟩ := F.ex
  refine PE.imp (pe_prop (E := E0) (dvs := []) (ds := []) he c hp F2 hr hb .nil pass0 hab) fun σ H Q ⟨W, r, m, G, e0, S, V, h, q⟩ => ⟨W, r, m, _, e0, S, V, h, fun W1 m1 v d l1 S1 x1 ⟨⟨gs, h1⟩, q1⟩ => ?_⟩
  obtain ⟨a, dx, fs, rfl, h3, h4, h5⟩ := x1.ins S1 h1
  exact ⟨a, dx, fs, rfl, h3, call_dsp (E := E0) (σ := σ) (r := r) (m := m) (H1 := H) l1 S1 (.cons x1 .nil) q1 q .no⟩
/-- o.m(..) -/
def dMeth (C : Addr) (nm : Str) (sp : Spec) (wo : WE) (w : WA) : WE := fun r m F => wo r m fun d m1 => (∃ gs, insD m1 d = some (C, gs) ∧ gs.lookup nm = none) ∧ w r m1 fun ds m2 => sp (d :: ds) m2 F X0
theorem de_meth {pl : Sem Bool} (c : Cls X.K C) (hm : Meth X.K C nm f) (F : DO X.prog X.w X.K X.mg X.base k f ps sp) (hr : Room k X.A) (ho : DE X o wo) (ha : DA X (e :: es) w)
    (hst : starEach (e :: es) X.env = (false, eval e X.env) :: starEach es X.env := by rfl) (hpl : (backTo pos (starEach es X.env)).any (·.1) = false := by rfl)
    (ht : eval (.Call (.Attribute o nm apos) (e :: es) [] pos) X.env = (do
      let ov ← eval o X.env
      standAt apos.atName
      let (f, first) ← holding [ov] (getMethod ov nm pl)
      callWith pos f first (backTo pos (starEach (e :: es) X.env)) (backToKw pos (keywordEach [] X.env))) := by rfl) :
    DE X (.Call (.Attribute o nm apos) (e :: es) [] pos) (dMeth C nm sp wo w) := by
  obtain ⟨fd, hb, F2⟩ := F.ex
  refine PE.imp (pe_meth (E := E0) (dvs := []) (ds := []) ho c hm F2 hr hb .nil pass0 ha hst hpl ht) fun σ H Q ⟨W, r, m, G, e0, S, V, h, q⟩ => ⟨W, r, m, _, e0, S, V, h, fun W1 m1 v d l1 S1 x1 ⟨⟨gs, h1, hn⟩, q1⟩ => ?_⟩
  obtain ⟨a, dx, fs, rfl, h3, h4, h5⟩ := x1.ins S1 h1
  refine ⟨a, dx, fs, rfl, h3, look_none h4 hn, W1, r, m1, _, rfl, S1, V.up l1.up, q1, fun W2 m2 vs ds l2 S2 x2 q2 => ?_⟩
  show dSp X.K sp (L2.V.ref a :: (vs ++ [])) W2.H Q E0
  rw [List.append_nil]
  exact call_dsp (E := E0) (σ := σ) (r := r) (m := m) (H1 := H) (l1.trans l2) S2 (.cons (x1.up l2.up) x2) q2 q .no
theorem de_meth0 {pl : Sem Bool} (c : Cls X.K C) (hm : Meth X.K C nm f) (F : DO X.prog X.w X.K X.mg X.base k f ps sp) (hr : Room k X.A) (ho : DE X o wo)
    (ht : eval (.Call (.Attribute o nm apos) [] [] pos) X.env = (do
      let ov ← eval o X.env
      standAt apos.atName
      let (f, first) ← holding [ov] (getMethod ov nm pl)
      callWith pos f first (backTo pos (starEach [] X.env)) (backToKw pos (keywordEach [] X.env))) := by rfl) :
    DE X (.Call (.Attribute o nm apos) [] [] pos) (dMeth C nm sp wo daNil) := by
  obtain ⟨fd, hb, F2⟩ := F.ex
  refine PE.imp (pe_meth0 (E := E0) (dvs := []) (ds := []) ho c hm F2 hr hb .nil pass0 ht) fun σ H Q ⟨W, r, m, G, e0, S, V, h, q⟩ => ⟨W, r, m, _, e0, S, V, h, fun W1 m1 v d l1 S1 x1 ⟨⟨gs, h1, hn⟩, q1⟩ => ?_⟩
  obtain ⟨a, dx, fs, rfl, h3, h4, h5⟩ := x1.ins S1 h1
  refine ⟨a, dx, fs, rfl, h3, look_none h4 hn, ?_⟩
  exact call_dsp (E := E0) (σ := σ) (r := r) (m := m) (H1 := H) l1 S1 (.cons x1 .nil) q1 q .no
/-- C(..): made, and from then on it stays as it is -/
def dMake (C : Addr) (sp : Spec) (w : WA) : WE := fun r m F => w r m fun ds m1 => ∀ n, m1 n = none → sp (.ref n :: ds) (m1.set n (.ins C [])) (fun v m2 => v = .non ∧ ∃ gs, m2 n = some (.ins C gs) ∧ F (.obj C gs) (m2.del n)) X0
theorem de_make (M : Mk X.K C f) (F : DO X.prog X.w X.K X.mg X.base k f ps sp) (hr : Room (k + 1) X.A) (hg : Gl X x) (hm : X.mg x = some (.ref C)) (ha : DA X (e :: es) w)
    (hdb : (x == ("__debug__" : Str)) = false := by decide) (he : starEach (e :: es) X.env = (false, eval e X.env) :: starEach es X.env := by rfl) (hpl : (backTo pos (starEach es X.env)).any (·.1) = false := by rfl) :
    DE X (.Call (.Name x p) (e :: es) [] pos) (dMake C sp w) := by
  obtain ⟨fd, hb, F2⟩ := F.ex
  refine PE.imp (pe_make (E := E0) (dvs := []) (ds := []) M F2 hr hg hm hb .nil pass0 ha hdb he hpl) fun σ H Q ⟨W, r, m, G, e0, S, V, h, q⟩ => ⟨W, r, m, _, e0, S, V, h, fun W1 m1 vs ds l1 S1 x1 q1 a dx ha hdx hne => ?_⟩
  rw [List.append_nil]
  have l2 := (Le.refl W1).off (o := .own a) hdx
  have S2 := S1.off (o := .own a) (S1.priv hdx)
  have ha2 : (⟨W1.S, W1.io, upd W1.H dx (.own a)⟩ : Wd).H a = none := by
    show upd W1.H dx _ a = none
    rw [upd_ne (Ne.symm hne)]; exact ha
  obtain ⟨n, hn, hi, l3, S3⟩ := S2.newM (o := .ins C dx []) (c := .ins C []) ha2
  refine ⟨_, _, .ref n :: ds, _, X0, rfl, S3 ⟨dx, [], upd_same, rfl, .nil⟩, .cons (.ref (by simp)) ((x1.up l2.up).up l3.up), q1 n hn, fun W4 m4 v d l4 S4 x4 ⟨hd, gs, hg4, q4⟩ => ?_, .no⟩
  subst hd
  cases x4
  refine ⟨rfl, ?_⟩
  have io4 : W4.io n = some a := l4.sI n a (by simp)
  obtain ⟨a', h1, _, dx4, fs4, h2, h3, h5⟩ := S4.cell n _ hg4
  rw [io4] at h1; cases h1
  obtain ⟨l5, S5⟩ := S4.settle io4
  exact q ⟨fun b => W4.S b ∨ b = a, W4.io, W4.H⟩ _ _ _ ((((l1.trans l2).trans l3).trans l4).trans l5) S5 (.obj (.inr rfl) h2 h3 (h5.up l5.up)) q4
end
end DL

namespace DL
open PySem PySem.Spec PyProof.Rows L2
section
variable {X : Cx} {k : Nat} {f C : Addr} {fd : FuncData} {ps : List Str} {sp : Spec} {x nm : Str} {p pos apos : Pos} {e o : Expr} {es : List Expr} {wa wo wv : WE} {w : WA}
/-! ### self.x = v -/
def putD (f : Str) (d : Dat) : List (Str × Dat) → List (Str × Dat)
  | [] => [(f, d)]
  | (g, x) :: r => if g = f then (g, d) :: r else (g, x) :: putD f d r
theorem put_both {K : PySem.W.Frag} {W : Wd} {v : V} {d : Dat} (xd : D K W v d) : ∀ {fs : List (Str × V)} {gs : List (Str × Dat)}, fs.map (·.1) = gs.map (·.1) → DAll K W (fs.map (·.2)) (gs.map (·.2)) →
    (putF nm v fs).map (·.1) = (putD nm d gs).map (·.1) ∧ DAll K W ((putF nm v fs).map (·.2)) ((putD nm d gs).map (·.2))
  | [], [], _, _ => ⟨rfl, .cons xd .nil⟩
  | [], _ :: _, h, _ => by cases h
  | _ :: _, [], h, _ => by cases h
  | (a, u) :: fs, (b, d') :: gs, h, z => by
    simp only [List.map_cons, List.cons.injEq] at h
    obtain ⟨rfl, h2⟩ := h
    cases z with
    | cons z1 z2 =>
      unfold putF putD
      by_cases q : a = nm
      · rw [if_pos q, if_pos q]
        exact ⟨by simp [h2], .cons xd z2⟩
      · rw [if_neg q, if_neg q]
        obtain ⟨i1, i2⟩ := put_both xd h2 z2
        exact ⟨by simp [i1], .cons z1 i2⟩
def dSetF (C : Addr) (nm : Str) (wo wv : WE) : WS := fun G r m => wv r m fun y m1 => wo r m1 fun d m2 => ∃ n gs, d = .ref n ∧ m2 n = some (.ins C gs) ∧ gs.length < 1000 ∧ G.nx r (m2.set n (.ins C (putD nm y gs)))
theorem ds_setF {pos' : Pos} {value : Expr} (c : Cls X.K C) (n : NoAttr X.K C nm) (ho : DE X o wo) (hv : DE X value wv) (hs : swapsWith value (some (.Attribute o nm pos')) pos.line X.env = pure false := by rfl) : DS X (.Assign [.Attribute o nm pos'] value pos) (dSetF C nm wo wv) :=
  PS.imp (ps_fld ho hv hs) fun E σ H ⟨W, r, m, G, e0, S, V, h, k1, _⟩ => ⟨W, r, m, _, e0, S, V, h, fun W1 m1 v1 d1 l1 S1 x1 q1 => ⟨W1, r, m1, _, rfl, S1, V.up l1.up, q1, fun W2 m2 v d l2 S2 x2 ⟨k, gs, hd, hm, hl, q⟩ => by
    subst hd
    obtain ⟨a, rfl⟩ : ∃ a, v = .ref a := by cases x2; exact ⟨_, rfl⟩
    obtain ⟨⟨dx, fs, h1, h2, h3⟩, hi⟩ := D.cell S2 x2 hm
    have hz : fs.length < 1000 := by have := congrArg List.length h2; simp only [List.length_map] at this; omega
    refine ⟨a, C, dx, fs, rfl, h1, c, n, hz, ?_⟩
    obtain ⟨l3, S3⟩ := S2.write (o := .ins C dx (putF nm v1 fs)) (c' := .ins C (putD nm d1 gs)) hm hi
    obtain ⟨i1, i2⟩ := put_both (nm := nm) (x1.up l2.up) h2 h3
    exact k1 _ _ _ _ ((l1.trans l2).trans l3) (S3 ⟨dx, _, upd_same, i1, i2.up l3.up⟩) (V.up ((l1.trans l2).trans l3).up) q⟩⟩
/-! ### own operators -/
theorem back_ok {pins : List (Addr × Obj)} {σ : L2.St} {Q : VK} {u : Value} {s' : Shared} (h : EP X pins σ Q u s') : PySem.W.CmpBack (EP X pins σ Q) u s' := by
  obtain ⟨v, H', I, r, q⟩ := h
  cases u <;> first | exact ⟨v, H', I, r, q⟩ | (exfalso; cases v <;> simp [L2.RelV] at r)
def rOwn (C : Addr) (sp : Spec) : R2D := fun a b m F => (∃ gs, insD m a = some (C, gs)) ∧ (∃ gs, insD m b = some (C, gs)) ∧ sp [a, b] m F X0
theorem o_bin {op : Operator} (hB : X.base.objs.size ≤ X.env.locals) (hc : PySem.W.selfFirst X.K C = true) (hs : PySem.W.findIn X.K (.ref C) (PySem.dunder op.info.2) = some (some (.ref f))) (hf : PySem.W.isFn X.K (.ref f) = true)
    (F : DO X.prog X.w X.K X.mg X.base k f ps sp) (hr : Room k X.A) : OpR X (binaryOp op) (lift2 X.K (rOwn C sp)) := by
  rintro pins s σ H x y v u Q I rx ry ⟨W, m, a, b, G, e, S, xa, yb, ⟨⟨gs, h1⟩, ⟨gs', h2⟩, h⟩, kk⟩
  subst e
  obtain ⟨fd, hb, F2⟩ := F.ex
  obtain ⟨p, dx, fs, rfl, h3, _⟩ := xa.ins S h1
  obtain ⟨q, dx', fs', rfl, h4, _⟩ := yb.ins S h2
  obtain rfl : v = Value.ref p := rx
  obtain rfl : u = Value.ref q := ry
  obtain ⟨_, O, _⟩ := ins_get I.hok h3
  obtain ⟨od, J, _⟩ := O.look
  obtain ⟨_, O2, _⟩ := ins_get I.hok h4
  obtain ⟨od2, J2, _⟩ := O2.look
  obtain ⟨mm, hns, _⟩ := I.loc
  refine PySem.W.binop_K (h₀ := X.base) ⟨hns, I.bk, hB⟩ I.ok.mod.kin J J2.type hc hs hf (wpAny_mono (run_fn (us := [.ref p, .ref q]) (vs := [.ref p, .ref q]) (E := E0) (dvs := []) (ds := []) F2 hr hb .nil pass0 I (.cons rfl (.cons rfl .nil)) ?_) (fun _ _ z => back_ok z) fun _ _ z => z)
  exact ⟨W, m, [a, b], G, X0, rfl, S, .cons xa (.cons yb .nil), h, kk, .no⟩
def rOwn1 (C : Addr) (sp : Spec) : R1D := fun a m F => (∃ gs, insD m a = some (C, gs)) ∧ sp [a] m F X0
theorem o_inv (hB : X.base.objs.size ≤ X.env.locals) (hs : PySem.W.findIn X.K (.ref C) "__invert__" = some (some (.ref f))) (hf : PySem.W.isFn X.K (.ref f) = true)
    (F : DO X.prog X.w X.K X.mg X.base k f ps sp) (hr : Room k X.A) : UnR X (unaryOp .Invert) (lift1 X.K (rOwn1 C sp)) := by
  rintro pins s σ H x v Q I rx ⟨W, m, a, G, e, S, xa, ⟨⟨gs, h1⟩, h⟩, kk⟩
  subst e
  obtain ⟨fd, hb, F2⟩ := F.ex
  obtain ⟨p, dx, fs, rfl, h3, _⟩ := xa.ins S h1
  obtain rfl : v = Value.ref p := rx
  obtain ⟨_, O, _⟩ := ins_get I.hok h3
  obtain ⟨od, J, _⟩ := O.look
  obtain ⟨mm, hns, _⟩ := I.loc
  refine PySem.W.ksp_inv (h₀ := X.base) ⟨hns, I.bk, hB⟩ I.ok.mod.kin J hs hf (run_fn (us := [.ref p]) (vs := [.ref p]) (E := E0) (dvs := []) (ds := []) F2 hr hb .nil pass0 I (.cons rfl .nil) ?_)
  exact ⟨W, m, [a], G, X0, rfl, S, .cons xa .nil, h, kk, .no⟩
/-- == by an own __eq__: the other one may be anything -/
def rOwnEq (C : Addr) (sp : Spec) : R2D := fun a b m F => (∃ gs, insD m a = some (C, gs)) ∧ ((∃ gs, insD m b = some (C, gs)) ∨ ∃ t, tyD m b = some t) ∧ sp [a, b] m F X0
theorem o_eqOwn (hu : X.A.units < cLine) (hB : X.base.objs.size ≤ X.env.locals) (hn : PySem.W.notFirst X.K C (.ref C) = true) (hs : PySem.W.findIn X.K (.ref C) "__eq__" = some (some (.ref f))) (hf : PySem.W.isFn X.K (.ref f) = true)
    (F : DO X.prog X.w X.K X.mg X.base k f ps sp) (hr : Room k X.A) : OpR X (compareOp .Eq) (lift2 X.K (rOwn C sp)) := by
  rintro pins s σ H x y v u Q I rx ry ⟨W, m, a, b, G, e, S, xa, yb, ⟨⟨gs, h1⟩, ⟨gs', h2⟩, h⟩, kk⟩
  subst e
  obtain ⟨fd, hb, F2⟩ := F.ex
  obtain ⟨p, dx, fs, rfl, h3, _⟩ := xa.ins S h1
  obtain ⟨q, dx', fs', rfl, h4, _⟩ := yb.ins S h2
  obtain rfl : v = Value.ref p := rx
  obtain rfl : u = Value.ref q := ry
  obtain ⟨_, O, _⟩ := ins_get I.hok h3
  obtain ⟨od, J, _⟩ := O.look
  obtain ⟨_, O2, _⟩ := ins_get I.hok h4
  obtain ⟨od2, J2, _⟩ := O2.look
  obtain ⟨mm, hns, _⟩ := I.loc
  refine PySem.W.cmp_K (op := .Eq) (h₀ := X.base) hu ⟨hns, I.bk, hB⟩ I.ok.mod.kin J J2.type hn hs hf (wpAny_mono (run_fn (us := [.ref p, .ref q]) (vs := [.ref p, .ref q]) (E := E0) (dvs := []) (ds := []) F2 hr hb .nil pass0 I (.cons rfl (.cons rfl .nil)) ?_) (fun _ _ z => back_ok z) fun _ _ z => z)
  exact ⟨W, m, [a, b], G, X0, rfl, S, .cons xa (.cons yb .nil), h, kk, .no⟩
variable {P : Program} {wd : World} {K : PySem.W.Frag} {mg : Str → Option Value} {base : Heap}
/-- THE RULE for a def: its body as a term, and what the term says by data -/
theorem dfnB {qual : Str} {st : Stmt} {N : List Str} (F : Fun K x qual st f fd) (Sc : FnScope N ps (defScope st)) (len : ∀ ds m F Z, sp ds m F Z → ds.length = ps.length)
    (hbody : ∀ (cdv : Value) (A : Around) (outer : List PySem.Env) (s : Shared) (H : Hp) (E : XK) (ds : List Dat) (m : Mu) (G : KD) (Z : KX), Room k (A.deeper (envOfC qual (defScope st) s.heap.objs.size f cdv)) → (A.deeper (envOfC qual (defScope st) s.heap.objs.size f cdv)).guards = some [] → base.objs.size ≤ s.heap.objs.size → sp ds m G Z →
      ∃ w : WS, DSs (cxOf CX0 P wd K mg base N qual (defScope st) f cdv A outer s H E).nox (defBody st) w ∧ w { nx := fun _ m' => G .non m', rt := G } (dstart N ds) m) : DFn P wd K mg base CX0 (k + 1) f fd ps sp := by
  obtain ⟨oc, od, kV, doc, pm, an, cdv, ct, osl, efd, lk, hcd⟩ := F.ex
  refine ⟨len, fun A outer s H args us vs Q E hr hgd he hb hv hsp => ?_⟩
  obtain ⟨W, m, ds, G, Z, eW, S, x1, q, kk, z⟩ := hsp
  have hl : vs.length = ps.length := x1.length.trans (len _ _ _ _ q)
  have inK : K.In s.heap := (he.mod.kin).keeps fun b o e => And.left (he.bs b o e)
  have lim : s.heap.NoLimit := (he.mod.nolimit).keeps fun b o e => And.left (he.bs b o e)
  have kinds : ∀ y ∈ ps.zip us, (defScope st).names.lookup y.1 = some .local ∨ ((defScope st).names.lookup y.1 = some .cell ∧ ((cellsFrom (s.heap.objs.size + 1) (defScope st).names []).lookup y.1).isSome = true) := by
    rintro ⟨y, v⟩ hy
    exact (Sc.par y (List.of_mem_zip hy).1).imp id fun z => And.intro z (PySem.W.cellsFrom_some _ _ _ (.inl z))
  subst efd
  have rec' := PySem.W.codeRec_of inK hcd
  refine codeAny_call_function (args := args) hr.depth (inK f _ lk) rfl Sc.co Sc.gen rfl rec' (hb _ _ _ _ (wpAny_newFunctionEnv_cells Sc.kind kinds fun env eenv s1 xc => ?_))
  subst eenv
  refine And.intro (lim.keeps (xc.toInCall).keep) (codeAny_func ?_)
  have room := hr.deeper (envOfC qual (defScope st) s.heap.objs.size f cdv)
  obtain ⟨w, hw, hq⟩ := hbody cdv A outer s H E ds m G Z room hgd he.bsz q
  have I0 : L2.Inv (cxOf CX0 P wd K mg base N qual (defScope st) f cdv A outer s H E) [] (L2.start N vs) H s1 := inv_start Sc hr.hd he hl hv xc
  have run := (PSs.nox hw).run [] s1 (L2.start N vs) H { nx := fun _ H' => Q .non H', rt := Q } I0
    ⟨W, _, m, _, eW, S, env_start x1, hq, fun W' m' _ _ l S' _ g => kk W' m' _ _ l S' .non g, fun W' m' v d l S' y g => kk W' m' v d l S' y g, fun _ _ _ _ _ _ _ g => g, fun _ _ _ _ _ _ _ g => g⟩
  refine wpAny_mono run ?_ (fun _ _ g => g)
  rintro (_ | _ | _ | u) s2 g
  · obtain ⟨σ', H', J, g⟩ := g
    exact ⟨V.non, H', J.os, J.bare, J.base, J.hok, rfl, g⟩
  · obtain ⟨_, _, _, g⟩ := g
    exact g.elim
  · obtain ⟨_, _, _, g⟩ := g
    exact g.elim
  · obtain ⟨v, σ', H', J, rv, g⟩ := g
    exact ⟨v, H', J.os, J.bare, J.base, J.hok, rv, g⟩
theorem dfxB {qual : Str} {st : Stmt} {N : List Str} (F : At K mg x qual st ps f) (Sc : FnScope N ps (defScope st)) (len : ∀ ds m F Z, sp ds m F Z → ds.length = ps.length)
    (hbody : ∀ (cdv : Value) (A : Around) (outer : List PySem.Env) (s : Shared) (H : Hp) (E : XK) (ds : List Dat) (m : Mu) (G : KD) (Z : KX), Room k (A.deeper (envOfC qual (defScope st) s.heap.objs.size f cdv)) → (A.deeper (envOfC qual (defScope st) s.heap.objs.size f cdv)).guards = some [] → base.objs.size ≤ s.heap.objs.size → sp ds m G Z →
      ∃ w : WS, DSs (cxOf CX0 P wd K mg base N qual (defScope st) f cdv A outer s H E).nox (defBody st) w ∧ w { nx := fun _ m' => G .non m', rt := G } (dstart N ds) m) : DF P wd K mg base CX0 (k + 1) f ps sp := by
  obtain ⟨fd, F1, F2⟩ := F.fn
  exact ⟨⟨fd, F2, dfnB F1 Sc len hbody⟩, F1.kp⟩
end
end DL

namespace DL
open PySem PySem.Spec PyProof.Rows L2
section
variable {r : Ro} {m : Mu} {F : KD} {wa wb wc wo wv : WE} {wA : WA} {a b c : Ro → Mu → Prop} {v : KD} {d e y : Dat} {n : Nat} {C : Addr} {nm : Str} {gs gs' : List (Str × Dat)} {sp : Spec} {P : Prop}
/-! ### reading objects -/
theorem u_fld (h : wa r m fun d m1 => ∃ gs v, insD m1 d = some (C, gs) ∧ gs.lookup nm = some v ∧ F v m1) : dFld C nm wa r m F := h
theorem p_fldO {Q : Dat → Prop} (hl : gs.lookup nm = some d) (h : Q d) : ∃ gs' v', insD m (.obj C gs) = some (C, gs') ∧ gs'.lookup nm = some v' ∧ Q v' := ⟨gs, d, rfl, hl, h⟩
theorem p_fldR {Q : Dat → Prop} (hm : m n = some (.ins C gs)) (hl : gs.lookup nm = some d) (h : Q d) : ∃ gs' v', insD m (.ref n) = some (C, gs') ∧ gs'.lookup nm = some v' ∧ Q v' := ⟨gs, d, by simp [insD, hm], hl, h⟩
theorem u_prop (h : wa r m fun d m1 => (∃ gs, insD m1 d = some (C, gs)) ∧ sp [d] m1 F X0) : dProp C sp wa r m F := h
theorem p_insO (h : P) : (∃ gs', insD m (.obj C gs) = some (C, gs')) ∧ P := ⟨⟨gs, rfl⟩, h⟩
theorem p_insR (hm : m n = some (.ins C gs)) (h : P) : (∃ gs', insD m (.ref n) = some (C, gs')) ∧ P := ⟨⟨gs, by simp [insD, hm]⟩, h⟩
theorem u_meth (h : wo r m fun d m1 => (∃ gs, insD m1 d = some (C, gs) ∧ gs.lookup nm = none) ∧ wA r m1 fun ds m2 => sp (d :: ds) m2 F X0) : dMeth C nm sp wo wA r m F := h
theorem p_methO (hl : gs.lookup nm = none) (h : P) : (∃ gs', insD m (.obj C gs) = some (C, gs') ∧ gs'.lookup nm = none) ∧ P := ⟨⟨gs, rfl, hl⟩, h⟩
theorem u_make (h : wA r m fun ds m1 => ∀ n, m1 n = none → sp (.ref n :: ds) (m1.set n (.ins C [])) (fun v m2 => v = .non ∧ ∃ gs, m2 n = some (.ins C gs) ∧ F (.obj C gs) (m2.del n)) X0) : dMake C sp wA r m F := h
theorem p_made {Q : List (Str × Dat) → Prop} (h : Q gs) : Dat.non = .non ∧ ∃ gs', (m.set n (.ins C gs)) n = some (.ins C gs') ∧ Q gs' := ⟨rfl, gs, Mu.set_same .., h⟩
theorem u_setF (h : wv r m fun y m1 => wo r m1 fun d m2 => ∃ n gs, d = .ref n ∧ m2 n = some (.ins C gs) ∧ gs.length < 1000 ∧ a r (m2.set n (.ins C (putD nm y gs)))) : dSetF C nm wo wv ⟨a, v, b, c⟩ r m := h
theorem p_setF' {Q : Nat → List (Str × Dat) → Prop} (hz : gs.length < 1000) (h : Q n gs) : ∃ n' gs', Dat.ref n = .ref n' ∧ (m.set n (.ins C gs)) n' = some (.ins C gs') ∧ gs'.length < 1000 ∧ Q n' gs' := ⟨n, gs, rfl, Mu.set_same .., hz, h⟩
theorem p_setF {Q : Nat → List (Str × Dat) → Prop} (hm : m n = some (.ins C gs)) (hz : gs.length < 1000) (h : Q n gs) : ∃ n' gs', Dat.ref n = .ref n' ∧ m n' = some (.ins C gs') ∧ gs'.length < 1000 ∧ Q n' gs' := ⟨n, gs, rfl, hm, hz, h⟩
theorem p_own (h : sp [.obj C gs, .obj C gs'] m F X0) : rOwn C sp (.obj C gs) (.obj C gs') m F := ⟨⟨gs, rfl⟩, ⟨gs', rfl⟩, h⟩
theorem p_own1 (h : sp [.obj C gs] m F X0) : rOwn1 C sp (.obj C gs) m F := ⟨⟨gs, rfl⟩, h⟩
end
section
variable {X : Cx} {tg e : Expr} {es : List Expr} {w : WE} {wA : WA} {pos p : Pos} {x : Str}
/-! ### over the signs of a text -/
def diStr (w : WE) : WI := fun r m k => w r m fun d m1 => ∃ x, d = .str x ∧ k ⟨x.cps.toList.map (fun c => .str ⟨#[c]⟩), gTrue⟩ m1
theorem src_str {K : PySem.W.Frag} {W : Wd} {z : Str} : SrcOk K W ⟨z.cps.toList.map (fun c => .str ⟨#[c]⟩), gTrue⟩ (Its z) := by
  refine ⟨fun _ => True, fun i H v H' => H' = H ∧ ∃ c, z.cps[i]? = some c ∧ v = .str ⟨#[c]⟩, ?_, fun _ _ _ _ _ => trivial, fun W1 m1 i v H' l S g hi ⟨h1, c, h2, h3⟩ => ?_⟩
  · show Walk (Its z) (List.map _ _).length _ _
    rw [List.length_map, Array.length_toList]; exact walk_str
  · subst h1 h3
    exact ⟨W1, .str ⟨#[c]⟩, rfl, .refl _, S, by simp [h2], .str _⟩
theorem di_str (h : DE X e w) : DI X tg e (diStr w) :=
  PI.imp (pi_str h) fun σ H R ⟨W, r, m, k, e0, S, V, h2, q⟩ => ⟨W, r, m, _, e0, S, V, h2, fun W1 m1 v d l1 S1 x1 ⟨x, hd, q1⟩ => by
    subst hd
    cases x1
    exact ⟨x, rfl, q W1 m1 _ _ l1 S1 src_str q1⟩⟩
/-- a list, a tuple, a text -/
def srcOf (d : Dat) (m1 : Mu) (k : Src → Mu → Prop) : Prop := match d with
  | .tup ds => k ⟨ds, gTrue⟩ m1
  | .ktp ds => k ⟨ds, gTrue⟩ m1
  | .lst ds => k ⟨ds, gTrue⟩ m1
  | .ref n => ∃ ds, m1 n = some (.lst ds) ∧ k ⟨ds, fun m => m n = some (.lst ds)⟩ m1
  | .str x => k ⟨x.cps.toList.map (fun c => .str ⟨#[c]⟩), gTrue⟩ m1
  | _ => False
def diAny (w : WE) : WI := fun r m k => w r m fun d m1 => srcOf d m1 k
theorem u_any {r : Ro} {m : Mu} {k : Src → Mu → Prop} (h : w r m fun d m1 => srcOf d m1 k) : diAny w r m k := h
theorem p_srcT {m : Mu} {k : Src → Mu → Prop} {ds : List Dat} (h : k ⟨ds, gTrue⟩ m) : srcOf (.tup ds) m k := h
theorem p_srcK {m : Mu} {k : Src → Mu → Prop} {ds : List Dat} (h : k ⟨ds, gTrue⟩ m) : srcOf (.ktp ds) m k := h
theorem p_srcL {m : Mu} {k : Src → Mu → Prop} {ds : List Dat} (h : k ⟨ds, gTrue⟩ m) : srcOf (.lst ds) m k := h
theorem p_srcR {m : Mu} {k : Src → Mu → Prop} {ds : List Dat} {n : Nat} (hm : m n = some (.lst ds)) (h : k ⟨ds, fun m => m n = some (.lst ds)⟩ m) : srcOf (.ref n) m k := ⟨ds, hm, h⟩
theorem p_srcS {m : Mu} {k : Src → Mu → Prop} {x : Str} (h : k ⟨x.cps.toList.map (fun c => .str ⟨#[c]⟩), gTrue⟩ m) : srcOf (.str x) m k := h
theorem di_any (h : DE X e w) : DI X tg e (diAny w) := by
  refine ⟨fun pins s σ H R I q => ?_⟩
  obtain ⟨W, r, m, k, e0, S, V, h2, q⟩ := q
  have h1 := h.run pins s σ H (fun v H1 => (∃ a, v = .ref a ∧ (∃ xs, SqL X.K H1 a xs) ∧ R (Itl X.K a) H1) ∨ (∃ a, v = .ref a ∧ (∃ xs, SqT X.K H1 a xs) ∧ R (Itt X.K a) H1) ∨ (∃ x, v = .str x ∧ R (Its x) H1)) I
    ⟨W, r, m, _, e0, S, V, h2, fun W1 m1 v d l1 S1 x1 q1 => by
      cases d with
      | tup ds =>
        obtain ⟨a, rfl⟩ : ∃ a, v = .ref a := by cases x1 <;> exact ⟨_, rfl⟩
        cases x1 with
        | tup e x => exact .inr (.inl ⟨a, rfl, ⟨_, SqT.of e⟩, q W1 m1 _ _ l1 S1 (src_tup (SqT.of e) (.inl e) x) q1⟩)
      | ktp ds =>
        obtain ⟨a, rfl⟩ : ∃ a, v = .ref a := by cases x1 <;> exact ⟨_, rfl⟩
        cases x1 with
        | ktup t x => exact .inr (.inl ⟨a, rfl, ⟨_, .inr t⟩, q W1 m1 _ _ l1 S1 (src_tup (.inr t) (.inr t) x) q1⟩)
      | lst ds =>
        cases x1 with
        | lst s e x => exact .inl ⟨_, rfl, ⟨_, SqL.of e⟩, q W1 m1 _ _ l1 S1 (src_lst e s x) q1⟩
      | ref n =>
        obtain ⟨ds, hm, q1⟩ := q1
        cases x1 with
        | ref hi =>
          obtain ⟨⟨ys, h3, h4⟩, _⟩ := D.cell S1 (.ref hi) hm
          exact .inl ⟨_, rfl, ⟨_, SqL.of h3⟩, q W1 m1 _ _ l1 S1 (src_cell hi) q1⟩
      | str z =>
        cases x1
        exact .inr (.inr ⟨z, rfl, q W1 m1 _ _ l1 S1 src_str q1⟩)
      | _ => exact q1.elim⟩
  refine thn h1 fun v s1 ⟨x, H1, I1, r1, alt⟩ => ?_
  have fp : ∀ b ∈ [s1.heap.objs.size], FpOk X pins H1 b := fun b hb => by
    obtain rfl : b = s1.heap.objs.size := by simpa using hb
    exact I1.fpOk (Nat.le_refl _) (I1.hok.fresh (Nat.le_refl _))
  rcases alt with ⟨a, rfl, ⟨xs, t⟩, fin⟩ | ⟨a, rfl, ⟨xs, t⟩, fin⟩ | ⟨z, rfl, fin⟩
  · cases r1
    obtain ⟨its, rv, pl, hz⟩ := I1.list t
    exact wpAny_pyIter_list pl.isList ⟨s1.heap.objs.size, [s1.heap.objs.size], _, _, H1, rfl, I1.kept (t' := s1.toks) fun b o e => Heap.get?_push_of_some _ e, turn_list a _, ⟨_, Heap.get?_push_size _ rfl, rfl, rfl⟩, fp, fin⟩
  · cases r1
    obtain ⟨its, rv, pl, hz⟩ := I1.tuple t
    exact wpAny_pyIter_tuple (show s1.heap.IsTuple a its.toArray from pl) ⟨s1.heap.objs.size, [s1.heap.objs.size], _, _, H1, rfl, I1.kept (t' := s1.toks) fun b o e => Heap.get?_push_of_some _ e, turn_tuple a _, ⟨_, Heap.get?_push_size _ rfl, rfl, rfl⟩, fp, fin⟩
  · obtain ⟨t, rfl⟩ := r1
    cases ha : z.cps.all (· < 128)
    · exact wpAny_pyIter_wide ha (pi_one (tk := s1.toks) I1 _ (turn_str _ z t "str_iterator" (.inr rfl)) ⟨_, Heap.get?_push_size _ rfl, rfl, rfl⟩ fin)
    · exact wpAny_pyIter_ascii ha (pi_one (tk := s1.toks) I1 _ (turn_str _ z t "str_ascii_iterator" (.inl rfl)) ⟨_, Heap.get?_push_size _ rfl, rfl, rfl⟩ fin)
/-! ### lcm, and names of a module that are built-in -/
def rLcm : RLD := fun ds m F => ∃ a b : Int, ds = [.int a, .int b] ∧ 0 < a ∧ a < 2 ^ 31 ∧ 0 < b ∧ b < 2 ^ 31 ∧ F (.int ((Nat.lcm a.natAbs b.natAbs : Nat) : Int)) m
theorem c_lcm : CallR X (.builtin "math.lcm") (liftL X.K rLcm) := by
  rintro pins s σ H xs us Q I r ⟨W, m, ds, F, e, S, xa, ⟨a, b, rfl, h1, h2, h3, h4, h⟩, k⟩
  subst e
  obtain ⟨v, u, rfl, x1, x2⟩ := dall2 xa
  cases x1; cases x2
  obtain ⟨t, u, rfl⟩ := Vals.int2 r
  have e1 : Nat.lcm 1 a.natAbs = a.natAbs := by simp
  have hsz : (Nat.lcm a.natAbs b.natAbs) < 2 ^ 62 := by
    have q1 : Nat.lcm a.natAbs b.natAbs ≤ a.natAbs * b.natAbs := Nat.le_of_dvd (Nat.mul_pos (by omega) (by omega)) (Nat.lcm_dvd_mul _ _)
    have q2 : a.natAbs * b.natAbs < 2 ^ 31 * 2 ^ 31 := Nat.mul_lt_mul'' (by omega) (by omega)
    omega
  have hpos : 0 < Nat.lcm a.natAbs b.natAbs := Nat.lcm_pos (by omega) (by omega)
  refine PySem.W.mg_lcm (by omega) (by omega) ?_ ?_
  · rw [e1, Int.natAbs_natCast]
    have := (Nat.log2_lt (n := Nat.lcm a.natAbs b.natAbs) (k := 62) (by omega)).mpr hsz
    have e : bitsLine = 134217728 := by decide
    omega
  · rw [e1]
    exact ⟨.int _, W.H, I.tok _, ⟨_, rfl⟩, k W m _ _ (.refl W) S (.int _) h⟩
theorem de_callBf {o : RLD} {id : String} (hc : CallR X (.builtin id) (liftL X.K o)) (hg : Gl X x) (hm : X.mg x = some (.builtin id)) (ha : DA X (e :: es) wA) (hdb : (x == ("__debug__" : Str)) = false := by decide)
    (he : starEach (e :: es) X.env = (false, eval e X.env) :: starEach es X.env := by rfl) (hpl : (backTo pos (starEach es X.env)).any (·.1) = false := by rfl) : DE X (.Call (.Name x p) (e :: es) [] pos) (dCB o wA) :=
  PE.imp (pe_callBfun hc hg hm ha hdb he hpl) fun _ _ _ h => cb_lift h
theorem p_lcm {m : Mu} {F : KD} {i j : Int} (h1 : 0 < i) (h2 : i < 2 ^ 31) (h3 : 0 < j) (h4 : j < 2 ^ 31) (h : F (.int ((Nat.lcm i.natAbs j.natAbs : Nat) : Int)) m) : rLcm [.int i, .int j] m F := ⟨i, j, rfl, h1, h2, h3, h4, h⟩
theorem p_max {m : Mu} {F : KD} {i j : Int} (h : F (.int (max i j)) m) : rMax2 [.int i, .int j] m F := ⟨i, j, rfl, h⟩
theorem p_min {m : Mu} {F : KD} {i j : Int} (h : F (.int (min i j)) m) : rMin2 [.int i, .int j] m F := ⟨i, j, rfl, h⟩
end
end DL

namespace DL
open PySem PySem.Spec PyProof.Rows L2
section
variable {X : Cx} {k : Nat} {f C : Addr} {ps : List Str} {sp : Spec} {x nm : Str} {p pos apos : Pos} {e o fe : Expr} {es : List Expr} {wa wo : WE} {w : WA}
/-! ### an object is called -/
theorem DO.fnR {P : Program} {wd : World} {K : PySem.W.Frag} {mg : Str → Option Value} {base : Heap} (F : DO P wd K mg base k f ps sp) : FnR P wd K mg base CX0 k f (dSp K sp) := by
  obtain ⟨fd, hb, F2⟩ := F.ex
  have := FnOk.raw F2 hb .nil
  refine this.imp fun vs H Q E h => ?_
  show dSp K sp (vs ++ []) H Q E
  rw [List.append_nil]; exact h
def dCallI (C : Addr) (sp : Spec) (wo : WE) (w : WA) : WE := fun r m F => wo r m fun d m1 => (∃ gs, insD m1 d = some (C, gs)) ∧ w r m1 fun ds m2 => (∃ gs, insD m2 d = some (C, gs)) ∧ sp (d :: ds) m2 F X0
theorem de_callI (c : StX.CallO X.K C f) (F : DO X.prog X.w X.K X.mg X.base k f ps sp) (hr : Room k X.A) (ho : DE X fe wo) (ha : DA X (e :: es) w)
    (ht : eval (.Call fe (e :: es) [] pos) X.env = (do callWith pos (← eval fe X.env) [] (backTo pos (starEach (e :: es) X.env)) (backToKw pos (keywordEach [] X.env))) := by rfl)
    (he : starEach (e :: es) X.env = (false, eval e X.env) :: starEach es X.env := by rfl) (hpl : (backTo pos (starEach es X.env)).any (·.1) = false := by rfl) : DE X (.Call fe (e :: es) [] pos) (dCallI C sp wo w) := by
  refine PE.imp (StX.pe_callO (E := E0) ho c F.fnR hr pass0 ha ht he hpl) fun σ H Q ⟨W, r, m, G, e0, S, V, h, q⟩ => ⟨W, r, m, _, e0, S, V, h, fun W1 m1 v d l1 S1 x1 ⟨⟨gs, h1⟩, q1⟩ => ?_⟩
  obtain ⟨a, dx, fs, rfl, h3, h4, h5⟩ := x1.ins S1 h1
  refine ⟨a, rfl, W1, r, m1, _, rfl, S1, V.up l1.up, q1, fun W2 m2 vs ds l2 S2 x2 ⟨⟨gs2, h6⟩, q2⟩ => ?_⟩
  obtain ⟨a', dx', fs', e', h7, _⟩ := (x1.up l2.up).ins S2 h6
  cases e'
  exact ⟨.inr ⟨dx', fs', h7⟩, call_dsp (E := E0) (σ := σ) (r := r) (m := m) (H1 := H) (l1.trans l2) S2 (.cons (x1.up l2.up) x2) q2 q .no⟩
/-! ### isinstance with an own class -/
structure IsC (K : PySem.W.Frag) (C : Addr) : Prop where
  cl : Cls K C
  ha : PySem.W.findIn K (.ref C) "__class__" = some (some (.builtin "object.__class__"))
  hn : PySem.W.specialIn K (.builtin "object.__class__") "__get__" = some (some (.builtin "getset_descriptor.__get__"))
  htk : PySem.W.takesIn K (.builtin "object.__class__") = some true
  hm : PySem.W.mroIn K C (.type "object") = some true
/-- c: the class that is asked for; own: what the object's own class answers; and the built-in ones never -/
def dIsiO (C : Addr) (w : WE) : WE := fun r m F => w r m fun d m1 => ((∃ gs, insD m1 d = some (C, gs)) ∧ F (.bl true) m1) ∨ ∃ t, tyD m1 d = some t ∧ F (.bl false) m1
theorem de_isiO {nT : Str} {p2 : Pos} (c : IsC X.K C) (no : ∀ t ∈ kinds7, PySem.W.kitOne X.K (.type t) (.ref C) = some false) (hg : Gl X "isinstance") (hm : X.mg "isinstance" = none) (hg2 : Gl X nT) (hm2 : X.mg nT = some (.ref C)) (he : DE X e wa)
    (hd2 : (nT == ("__debug__" : Str)) = false := by decide)
    (h1 : starEach [e, .Name nT p2] X.env = (false, eval e X.env) :: starEach [.Name nT p2] X.env := by rfl) (h2 : starEach [.Name nT p2] X.env = (false, eval (.Name nT p2) X.env) :: starEach [] X.env := by rfl) (hpl : (backTo pos (starEach [.Name nT p2] X.env)).any (·.1) = false := by rfl) :
    DE X (.Call (.Name "isinstance" p) [e, .Name nT p2] [] pos) (dIsiO C wa) :=
  PE.imp (pe_callB call_isi hg hm (by decide +kernel) (pa_cons he (pa_cons (pe_glob (v := .ref C) hg2 hm2 rfl hd2) pa_nil h2) h1) (by decide) (by decide) h1 hpl) fun σ H Q ⟨W, r, m, F, e0, S, V, h, k⟩ => ⟨W, r, m, _, e0, S, V, h, fun W1 m1 v d l1 S1 x1 q => by
    rcases q with ⟨⟨gs, g1⟩, q⟩ | ⟨t, ht, q⟩
    · obtain ⟨a, dx, fs, rfl, h3, h4, h5⟩ := x1.ins S1 g1
      exact ⟨_, .ref C, .ref C, .ref C, true, rfl, .own C, .base (.ins h3 c.cl c.ha c.hn c.htk c.hm), by unfold PySem.W.kitOne; simp, k W1 m1 _ _ l1 S1 (.bl _) q⟩
    · exact ⟨v, .ref C, .type t, .ref C, false, rfl, .own C, x1.tyx S1 ht, no t (tyD_in ht), k W1 m1 _ _ l1 S1 (.bl _) q⟩⟩
end
section
variable {r : Ro} {m : Mu} {a b c : Ro → Mu → Prop} {v : KD} {s : WS} {t : WT}
theorem rangeD_cons {lo : Int} {n i : Nat} {x : Dat} {xs : List Dat} (h : (rangeD lo n).drop i = x :: xs) : i < n ∧ x = .int (lo + (i : Nat)) ∧ (rangeD lo n).drop (i + 1) = xs := by
  have hl := congrArg List.length h
  simp only [rangeD, List.length_drop, List.length_map, List.length_range, List.length_cons] at hl
  have hi : i < n := by omega
  have e : (rangeD lo n).drop i = (rangeD lo n)[i]'(by simp [rangeD]; exact hi) :: (rangeD lo n).drop (i + 1) := List.drop_eq_getElem_cons _
  rw [e] at h
  injection h with h1 h2
  refine ⟨hi, ?_, h2⟩
  rw [← h1]; simp [rangeD]
theorem rangeD_nil {lo : Int} {n i : Nat} (h : (rangeD lo n).drop i = []) : n ≤ i := by
  have hl := congrArg List.length h
  simp only [rangeD, List.length_drop, List.length_map, List.length_range, List.length_nil] at hl
  omega
theorem u_while (J : Nat → Ro → Mu → Prop) (n : Nat) (h0 : J n r m) (h : ∀ n r m, J n r m → t r m fun k m1 => if k = true then s ⟨fun r' m' => ∃ n', n' < n ∧ J n' r' m', v, a, fun r' m' => ∃ n', n' < n ∧ J n' r' m'⟩ r m1 else a r m1) : dWhile t s ⟨a, v, b, c⟩ r m := ⟨J, ⟨n, h0⟩, h⟩
variable {F : KD} {w wo : WE} {wA : WA} {d : Dat} {C : Addr} {gs : List (Str × Dat)} {sp : Spec} {P Q : Prop} {n : Nat}
theorem u_isiO (h : w r m fun d m1 => ((∃ gs, insD m1 d = some (C, gs)) ∧ F (.bl true) m1) ∨ ∃ t, tyD m1 d = some t ∧ F (.bl false) m1) : dIsiO C w r m F := h
theorem p_isiO (h : P) : ((∃ gs', insD m (.obj C gs) = some (C, gs')) ∧ P) ∨ Q := .inl ⟨⟨gs, rfl⟩, h⟩
theorem p_isiN {t : String} (ht : tyD m d = some t) (h : P) : Q ∨ ∃ t, tyD m d = some t ∧ P := .inr ⟨t, ht, h⟩
theorem u_callI (h : wo r m fun d m1 => (∃ gs, insD m1 d = some (C, gs)) ∧ wA r m1 fun ds m2 => (∃ gs, insD m2 d = some (C, gs)) ∧ sp (d :: ds) m2 F X0) : dCallI C sp wo wA r m F := h
end
end DL

namespace DL
open PySem PySem.Spec PyProof.Rows L2
theorem glueL_ones (z : Str) (hz : z.cps.toList = []) : ∀ bs : List Nat, StrLaws.glueL z.cps.toList (bs.map fun b => (⟨#[b]⟩ : Str)) = bs
  | [] => rfl
  | b :: bs => by
    show z.cps.toList ++ ([b] ++ StrLaws.glueL z.cps.toList (bs.map fun b => (⟨#[b]⟩ : Str))) = _
    rw [glueL_ones z hz bs, hz]; rfl
theorem join_ones : ∀ bs : List Nat, (Txt.join (Str.ofString "") (bs.map fun b => (⟨#[b]⟩ : Str))).cps.toList = bs
  | [] => rfl
  | b :: bs => by
    show (Builtin.Str.glued (Str.ofString "") ((⟨#[b]⟩ : Str) :: bs.map fun b => (⟨#[b]⟩ : Str))).cps.toList = _
    rw [StrLaws.glued_list]
    show [b] ++ StrLaws.glueL _ (bs.map fun b => (⟨#[b]⟩ : Str)) = _
    rw [glueL_ones _ (by decide)]; rfl
section
variable {r : Ro} {m : Mu} {k : Ro → Mu → Prop} {g : WG} {gs : WGs} {d : Dat} {ds : List Dat} {n : Nat}
theorem p_dgT (hn : ds.length = n) (h : gs ds r m k) : dgSeq n gs (.tup ds) r m k := ⟨ds, .inl rfl, hn, h⟩
theorem p_dgL (hn : ds.length = n) (h : gs ds r m k) : dgSeq n gs (.lst ds) r m k := ⟨ds, .inr rfl, hn, h⟩
theorem p_dgc (h : g d r m fun r1 m1 => gs ds r1 m1 k) : dgCons g gs (d :: ds) r m k := ⟨d, ds, rfl, h⟩
theorem p_dgn (h : k r m) : dgNil [] r m k := ⟨rfl, h⟩
end
theorem toPys_bools : ∀ bs : List Bool, toPys (bs.map .bl) = some (bs.map .bool)
  | [] => rfl
  | b :: bs => by
    show (match toPy (.bl b), toPys (bs.map .bl) with
      | some p, some ps => some (p :: ps)
      | _, _ => none) = _
    rw [toPys_bools bs]; rfl
theorem eqv_bools : ∀ bs cs : List Bool, PyData.eqvAll (bs.map .bool) (cs.map .bool) = (bs == cs)
  | [], [] => by simp [PyData.eqvAll]
  | [], _ :: _ => by simp [PyData.eqvAll]
  | _ :: _, [] => by simp [PyData.eqvAll]
  | b :: bs, c :: cs => by
    rw [List.map_cons, List.map_cons, PyData.eqvAll, eqv_bools bs cs]
    simp [PyData.eqv]
theorem lay_bools : ∀ bs : List Bool, PyData.canLayAll0 (bs.map .bool) = true ∧ PyData.depthAll (bs.map .bool) = 0
  | [] => ⟨rfl, rfl⟩
  | b :: bs => by
    obtain ⟨h1, h2⟩ := lay_bools bs
    rw [List.map_cons]
    refine ⟨?_, ?_⟩
    · rw [PyData.canLayAll0, h1]; rfl
    · rw [PyData.depthAll, h2]; rfl
theorem shaped_bools (bs : List Bool) : SeqAt.shaped (.list (bs.map .bool)) = true := by
  obtain ⟨h1, h2⟩ := lay_bools bs
  unfold SeqAt.shaped
  rw [Bool.and_eq_true, decide_eq_true_eq]
  refine ⟨?_, ?_⟩
  · rw [PyData.canLay0]; exact h1
  · rw [PyData.depth, h2]; omega
/-- == of two lists of truths -/
theorem p_eqBools {m : Mu} {F : KD} {bs cs : List Bool} (h : F (.bl (bs == cs)) m) : rEq (.lst (bs.map .bl)) (.lst (cs.map .bl)) m F := by
  refine p_eq (p := .list (bs.map .bool)) (q := .list (cs.map .bool)) rfl ?_ ?_ (shaped_bools bs) (shaped_bools cs) ?_
  · show toPy (.lst (bs.map .bl)) = _
    rw [toPy, toPys_bools]; rfl
  · show toPy (.lst (cs.map .bl)) = _
    rw [toPy, toPys_bools]; rfl
  · rw [PyData.eqv, eqv_bools]; exact h
theorem p_par {d e : Dat} {Q : Dat → Dat → Prop} (h : Q d e) : ∃ d' e', [d, e] = [d', e'] ∧ Q d' e' := ⟨d, e, rfl, h⟩
theorem int_bit {b : Nat} (h : b = 48 ∨ b = 49) : ∃ i, PySem.intText? (⟨#[b]⟩ : Str) = some i ∧ 0 ≤ i ∧ i < 2 := by
  rcases h with rfl | rfl
  · exact ⟨0, by decide +kernel, by decide, by decide⟩
  · exact ⟨1, by decide +kernel, by decide, by decide⟩
end DL

namespace DL
open PySem PySem.Spec PyProof.Rows L2
/-- what == and repr ask of a thing that is compared with its like -/
theorem like_ok {p : PyData} (h1 : p.canLay0 = true) (h2 : p.depth ≤ 60) (h3 : p.showable = true) (h4 : p.hasDict = false) (h5 : p.leavesShort 4000 = true) (h6 : p.weight ≤ 4000) : SeqAt.shaped p = true ∧ PyData.eqv p p = true ∧ reprOk p = true := by
  refine ⟨?_, SeqAt.eqv_refl p h1, ?_⟩
  · unfold SeqAt.shaped
    rw [Bool.and_eq_true, decide_eq_true_eq]
    exact ⟨h1, by omega⟩
  · have := PyData.shown_le 4000 (by decide) p h5
    have q : (4000 + 2) * p.weight ≤ 4002 * 4000 := Nat.mul_le_mul (by decide) h6
    unfold reprOk
    rw [h3, h4]
    simp only [Bool.and_eq_true, decide_eq_true_eq, Bool.not_false, and_self, true_and]
    refine ⟨h2, ?_⟩
    rw [sizeLine_eq]; omega
end DL

/-! zip of two lists, tuples, texts, in any mixture -/
namespace DL
open PySem PySem.Spec PyProof.Rows L2
inductive ZK where
  | lst (a : Addr) | tup (a : Addr) | txt (x : Str) (t : Nat)
namespace ZK
def val : ZK → Value
  | lst a => .ref a
  | tup a => .ref a
  | txt x t => .str x t
def stands (K : PySem.W.Frag) (H : Hp) : ZK → List V → Prop
  | lst a, xs => SqL K H a xs
  | tup a, xs => SqT K H a xs
  | txt x _, xs => xs = x.cps.toList.map fun c => V.str ⟨#[c]⟩
def it (b : Addr) (i : Nat) (h : Heap) : ZK → Prop
  | lst a => h.IsListIter b a i
  | tup a => h.IsTupleIter b a i
  | txt x t => h.IsStrIter b (strIterType x) x t i
def fp : ZK → List Addr
  | lst a => [a]
  | tup a => [a]
  | txt _ _ => []
def ob : ZK → Obj
  | lst a => { cls := .type "list_iterator", data := .fields #[.ref a, .int 0 0] }
  | tup a => { cls := .type "tuple_iterator", data := .fields #[.ref a, .int 0 0] }
  | txt x t => { cls := .type (strIterType x), data := .fields #[.str x t, .int 0 0] }
theorem it_obj {k : ZK} {b : Addr} {i : Nat} {h : Heap} (q : k.it b i h) : ∃ o, h.get? b = some o ∧ ∀ v, o.data ≠ .cell v := by
  cases k with
  | lst a => obtain ⟨o, e, c, d⟩ := q; exact ⟨o, e, fun v z => by rw [d] at z; cases z⟩
  | tup a => obtain ⟨o, e, c, d⟩ := q; exact ⟨o, e, fun v z => by rw [d] at z; cases z⟩
  | txt x t => obtain ⟨o, e, c, d⟩ := q; exact ⟨o, e, fun v z => by rw [d] at z; cases z⟩
theorem it_keep {k : ZK} {b : Addr} {i : Nat} {h h' : Heap} (q : k.it b i h) (kk : ∀ o, h.get? b = some o → h'.get? b = some o) : k.it b i h' := by
  cases k with
  | lst a => obtain ⟨o, e, r⟩ := q; exact ⟨o, kk o e, r⟩
  | tup a => obtain ⟨o, e, r⟩ := q; exact ⟨o, kk o e, r⟩
  | txt x t => obtain ⟨o, e, r⟩ := q; exact ⟨o, kk o e, r⟩
theorem it_zero {k : ZK} {b : Addr} {h : Heap} (q : h.get? b = some k.ob) : k.it b 0 h := by
  cases k with
  | lst a => exact ⟨_, q, rfl, rfl⟩
  | tup a => exact ⟨_, q, rfl, rfl⟩
  | txt x t => exact ⟨_, q, rfl, rfl⟩
theorem back {xs : List V} {its : List Value} (rv : Vals xs its) {i : Nat} {u : Value} (h : its[i]? = some u) : ∃ x, xs[i]? = some x ∧ RelV x u := by
  have hl := rv.length
  have hi : i < its.length := (List.getElem?_eq_some_iff.mp h).1
  have hx : xs[i]? = some (xs[i]'(by omega)) := List.getElem?_eq_getElem (by omega)
  obtain ⟨u', h1, h2⟩ := rv.get hx
  rw [h] at h1; cases h1
  exact ⟨_, hx, h2⟩
theorem draws {X : Cx} {pins : List (Addr × Obj)} {σ : L2.St} {H : Hp} {s : Shared} (I : Inv X pins σ H s) (hc : X.calm = true) {k : ZK} {xs : List V} (h : k.stands X.K H xs) (b : Addr) (hb : b ∉ k.fp) :
    ∃ (P : Nat → Value → Prop) (St : Nat → Heap → Prop), Draws X.prog X.w X.A.in1 b (b :: k.fp) xs.length P St ∧ (∀ i, k.it b i s.heap → St i s.heap) ∧ (∀ i h, St i h → k.it b i h) ∧ ∀ i u, P i u → ∃ x, xs[i]? = some x ∧ RelV x u := by
  have hh : X.A.in1.handled = none := I.ok.hd hc
  cases k with
  | lst a =>
    obtain ⟨its, rv, pl, hz⟩ := I.list h
    have hne : a ≠ b := fun e => hb (by simp [fp, e])
    have hl : its.toArray.size = xs.length := by simp [rv.length]
    have q := Draws.list (prog := X.prog) (w := X.w) hh b a hne its.toArray
    rw [hl] at q
    exact ⟨_, _, q, fun i z => ⟨z, pl.isList⟩, fun i h z => z.1, fun i u z => back rv (by simpa using z)⟩
  | tup a =>
    obtain ⟨its, rv, pl, hz⟩ := I.tuple h
    have hne : a ≠ b := fun e => hb (by simp [fp, e])
    have hl : its.toArray.size = xs.length := by simp [rv.length]
    have q := Draws.tuple (prog := X.prog) (w := X.w) hh b a hne its.toArray
    rw [hl] at q
    exact ⟨_, _, q, fun i z => ⟨z, pl⟩, fun i h z => z.1, fun i u z => back rv (by simpa using z)⟩
  | txt x t =>
    have hx : xs = x.cps.toList.map fun c => V.str ⟨#[c]⟩ := h
    have hl : x.cps.size = xs.length := by rw [hx]; simp
    have q := Draws.text (prog := X.prog) (w := X.w) hh b x t
    rw [hl] at q
    refine ⟨_, _, q, fun i z => z, fun i h z => z, fun i u ⟨c, v, h1, h2⟩ => ⟨.str ⟨#[c]⟩, ?_, v, h2⟩⟩
    rw [hx, List.getElem?_map, Array.getElem?_toList, h1]; rfl
theorem begins {X : Cx} {pins : List (Addr × Obj)} {σ : L2.St} {H : Hp} {s : Shared} (I : Inv X pins σ H s) {k : ZK} {xs : List V} (h : k.stands X.K H xs) : ∃ Q : Heap → Prop, Begins k.val k.ob Q ∧ Q s.heap ∧ ∀ b ∈ k.fp, b < s.heap.objs.size := by
  cases k with
  | lst a =>
    obtain ⟨its, rv, pl, hz⟩ := I.list h
    refine ⟨_, begins_list a its.toArray, pl.isList, fun b hb => ?_⟩
    obtain rfl : b = a := by simpa [fp] using hb
    exact pl.lt
  | tup a =>
    obtain ⟨its, rv, pl, hz⟩ := I.tuple h
    refine ⟨_, begins_tuple a its.toArray, pl, fun b hb => ?_⟩
    obtain rfl : b = a := by simpa [fp] using hb
    obtain ⟨o, e, _⟩ := id pl
    exact Heap.lt_size e
  | txt x t => exact ⟨_, begins_text x t, trivial, fun b hb => by simp [fp] at hb⟩
theorem inj {X : Cx} {pins : List (Addr × Obj)} {σ : L2.St} {H : Hp} {s : Shared} (I : Inv X pins σ H s) {k : ZK} {xs ys : List V} (h : k.stands X.K H xs) (g : k.stands X.K H ys) : xs = ys := by
  cases k with
  | lst a => exact I.list_inj h g
  | tup a => exact I.tuple_inj h g
  | txt x t =>
    have h : xs = _ := h
    have g : ys = _ := g
    rw [h, g]
end ZK
def Itz2 (K : PySem.W.Frag) (k1 k2 : ZK) : It :=
  ⟨fun i H => ∃ (xs ys : List V) (x y : V), k1.stands K H xs ∧ k2.stands K H ys ∧ xs[i]? = some x ∧ ys[i]? = some y,
    fun i H v H' => ∃ T x y, v = .ref T ∧ H T = none ∧ H' = upd H T (.tup [x, y]) ∧ (∀ xs, k1.stands K H xs → xs[i]? = some x) ∧ ∀ ys, k2.stands K H ys → ys[i]? = some y,
    fun i H => ∃ xs ys : List V, k1.stands K H xs ∧ k2.stands K H ys ∧ i ≤ xs.length ∧ i ≤ ys.length ∧ (i = xs.length ∨ i = ys.length)⟩
/-- a zip on its way: its own five cells -/
structure ZSt (k1 k2 : ZK) (z TI TO i1 i2 : Addr) (i : Nat) (h : Heap) : Prop where
  zip : IsZip h z TI TO .none
  its : IsTupOf2 h TI (.ref i1) (.ref i2)
  out : ∃ x y, IsTupOf2 h TO x y
  one : k1.it i1 i h
  two : k2.it i2 i h
section
variable {k1 k2 : ZK} {z TI TO i1 i2 : Addr} {i : Nat} {h h' : Heap}
theorem ZSt.cells (q : ZSt k1 k2 z TI TO i1 i2 i h) : ∀ c ∈ [z, TI, TO, i1, i2], ∃ o, h.get? c = some o ∧ ∀ v, o.data ≠ .cell v := by
  obtain ⟨x, y, qo⟩ := q.out
  simp only [List.forall_mem_cons]
  exact ⟨⟨_, q.zip, nofun⟩, ⟨_, q.its, nofun⟩, ⟨_, qo, nofun⟩, ZK.it_obj q.one, ZK.it_obj q.two, nofun⟩
theorem ZSt.kept (q : ZSt k1 k2 z TI TO i1 i2 i h) (g : ∀ c ∈ [z, TI, TO, i1, i2], ∀ o, h.get? c = some o → h'.get? c = some o) : ZSt k1 k2 z TI TO i1 i2 i h' := by
  simp only [List.forall_mem_cons] at g
  obtain ⟨g0, g1, g2, g3, g4, _⟩ := g
  obtain ⟨x, y, qo⟩ := q.out
  exact ⟨g0 _ q.zip, g1 _ q.its, ⟨x, y, g2 _ qo⟩, ZK.it_keep q.one g3, ZK.it_keep q.two g4⟩
/-- what is none of the five stands through a turn -/
theorem away5 {g : Heap} (hk : ∀ c o, c ≠ z → c ≠ TO → c ≠ i1 → c ≠ i2 → h.get? c = some o → g.get? c = some o) : ∀ c o, c ∉ [z, TI, TO, i1, i2] → h.get? c = some o → g.get? c = some o := by
  intro c o hc
  simp only [List.mem_cons, not_or] at hc
  exact hk c o hc.1 hc.2.2.1 hc.2.2.2.1 hc.2.2.2.2.1
end
theorem turn_zipD {P : Program} {w : World} {K : PySem.W.Frag} {elts : List Expr} {kk : Nat} {tpos : Pos} {k1 k2 : ZK} {z TI TO i1 i2 : Addr} (D : ZipSep2 z TI TO i1 i2 (i1 :: k1.fp) (i2 :: k2.fp)) (n1 : i1 ∉ k1.fp) (n2 : i2 ∉ k2.fp) :
    Turn P w K (.Tuple elts kk tpos) (Itz2 K k1 k2) [z, TI, TO, i1, i2] z (ZSt k1 k2 z TI TO i1 i2) := by
  refine ⟨List.mem_cons_self .., fun i h => ZSt.cells, fun i h h' => ZSt.kept, ?_, ?_, fun A i s Q E st => wpAny_pyIter_zip st.zip⟩
  · rintro X rfl rfl rfl calm i pins s σ H E I free st ⟨xs, ys, x, y, sx, sy, ex, ey⟩
    obtain ⟨P1, St1, D1, a1, b1, c1⟩ := ZK.draws I calm sx i1 n1
    obtain ⟨P2, St2, D2, a2, b2, c2⟩ := ZK.draws I calm sy i2 n2
    obtain ⟨_, _, qo⟩ := st.out
    have young : ∀ c ∈ [z, TI, TO, i1, i2], c < s.heap.objs.size := fun c hc => (st.cells c hc).elim fun _ q => Heap.lt_size q.1
    have hz : s.heap.objs.size ≠ z := Nat.ne_of_gt (young z (List.mem_cons_self ..))
    refine wpAny_pyNext_zipD2_item D D1 D2 st.zip st.its qo (a1 i st.one) (a2 i st.two) (List.getElem?_eq_some_iff.mp ex).1 (List.getElem?_eq_some_iff.mp ey).1 fun u v g tk p1 p2 gz gO g1 g2 gT gs gk => ?_
    obtain ⟨x', ex', ru⟩ := c1 i u p1
    obtain ⟨y', ey', rv⟩ := c2 i v p2
    refine ⟨_, rfl, wpAny_letOwnedTupleGo_zip (s := { s with heap := g, toks := tk }) gz fun g' gz' sb => ?_⟩
    have up : ∀ c o, c ≠ z → g.get? c = some o → g'.get? c = some o := fun c o hc q => (sb.2 c hc).trans q
    have pair : g'.get? s.heap.objs.size = some { cls := .type "tuple", data := .seq #[u, v] } := up _ _ hz gT
    have J := I.turnedNew (t' := tk) (ch := [z, TI, TO, i1, i2]) (h' := g') (T := s.heap.objs.size) (ob := .tup [x', y'])
      (fun c o hc q => up c o (fun e => hc (by rw [e]; exact List.mem_cons_self ..)) (away5 gk c o hc q)) free (Nat.le_refl _)
      ⟨by show 2 ≤ sizeLine; decide, [u, v], .cons ru (.cons rv .nil), ⟨_, pair, rfl, _, rfl⟩⟩
    have fresh := I.hok.fresh (Nat.le_refl s.heap.objs.size)
    refine ⟨.ref s.heap.objs.size, _, J, rfl, ⟨_, x', y', rfl, fresh, rfl, fun l hl => (ZK.inj I hl sx).symm ▸ ex', fun l hl => (ZK.inj I hl sy).symm ▸ ey'⟩, ?_, fun c hc => ?_⟩
    · exact ⟨gz', up _ _ D.TIz (gk _ _ D.TIz D.TITO D.TIi1 D.TIi2 st.its), ⟨u, v, up _ _ D.TOz gO⟩, ZK.it_keep (b1 _ _ g1) fun o q => up _ o D.zi1.symm q, ZK.it_keep (b2 _ _ g2) fun o q => up _ o D.zi2.symm q⟩
    · rw [upd_ne (Nat.ne_of_lt (young c hc))]
      exact (free c hc).1
  · rintro X rfl rfl rfl calm i pins s σ H E I free st ⟨xs, ys, sx, sy, lx, ly, last⟩
    obtain ⟨P1, St1, D1, a1, b1, c1⟩ := ZK.draws I calm sx i1 n1
    obtain ⟨P2, St2, D2, a2, b2, c2⟩ := ZK.draws I calm sy i2 n2
    obtain ⟨_, _, qo⟩ := st.out
    exact wpAny_pyNext_zipD2_end D D1 D2 st.zip st.its qo (a1 i st.one) (a2 i st.two) lx ly last fun g tk gk => ⟨rfl, I.turnedL (t' := tk) (away5 gk) free⟩
/-- what is zipped stands as it is told while its guard holds -/
def ZOk (K : PySem.W.Frag) (W : Wd) (k : ZK) (src : Src) : Prop := ∀ W2 m2, Up W W2 → Sim K W2 m2 → src.guard m2 → ∃ xs, k.stands K W2.H xs ∧ DAll K W2 xs src.items
def zipS (a b : Src) : Src := ⟨List.zipWith (fun x y => .tup [x, y]) a.items b.items, fun m => a.guard m ∧ b.guard m⟩
theorem src_zip {K : PySem.W.Frag} {W : Wd} {k1 k2 : ZK} {a b : Src} (h1 : ZOk K W k1 a) (h2 : ZOk K W k2 b) : SrcOk K W (zipS a b) (Itz2 K k1 k2) := by
  have hl : (zipS a b).items.length = min a.items.length b.items.length := by simp [zipS]
  refine ⟨fun H => ∃ xs ys, k1.stands K H xs ∧ k2.stands K H ys ∧ xs.length = a.items.length ∧ ys.length = b.items.length, (Itz2 K k1 k2).yld, ⟨fun i H hi g => ?_, fun H g => ?_, fun i H x H' _ _ y => y⟩, fun W1 m1 l S g => ?_, fun W1 m1 i v H' l S g hlt y => ?_⟩
  · obtain ⟨xs, ys, q1, q2, l1, l2⟩ := g
    rw [hl] at hi
    exact ⟨xs, ys, xs[i]'(by omega), ys[i]'(by omega), q1, q2, List.getElem?_eq_getElem _, List.getElem?_eq_getElem _⟩
  · obtain ⟨xs, ys, q1, q2, l1, l2⟩ := g
    exact ⟨xs, ys, q1, q2, by omega, by omega, by omega⟩
  · obtain ⟨xs, q1, x1⟩ := h1 W1 m1 l S g.1
    obtain ⟨ys, q2, x2⟩ := h2 W1 m1 l S g.2
    exact ⟨xs, ys, q1, q2, x1.length, x2.length⟩
  · obtain ⟨xs, q1, x1⟩ := h1 W1 m1 l S g.1
    obtain ⟨ys, q2, x2⟩ := h2 W1 m1 l S g.2
    obtain ⟨T, x, y, rfl, hT, rfl, f1, f2⟩ := y
    obtain ⟨d, e1, r1⟩ := x1.getV (f1 xs q1)
    obtain ⟨e, e2, r2⟩ := x2.getV (f2 ys q2)
    obtain ⟨l2, S2⟩ := S.newF (o := .tup [x, y]) hT
    refine ⟨_, .tup [d, e], rfl, l2, S2, ?_, .tup upd_same (.cons (r1.up l2.up) (.cons (r2.up l2.up) .nil))⟩
    show (List.zipWith _ _ _)[i]? = _
    rw [List.getElem?_zipWith, e1, e2]
theorem zsrc_of {K : PySem.W.Frag} {W : Wd} {m : Mu} {v : V} {d : Dat} {k : Src → Mu → Prop} (S : Sim K W m) (x : D K W v d) (h : srcOf d m k) :
    ∃ (kk : Nat → ZK) (src : Src), (∀ u, RelV v u → ∃ t, (kk t).val = u) ∧ (∃ xs, ∀ t, (kk t).stands K W.H xs) ∧ (∀ t, ZOk K W (kk t) src) ∧ k src m := by
  cases d with
  | tup ds =>
    cases x with
    | @tup a xs ds e x =>
      refine ⟨fun _ => .tup a, ⟨ds, gTrue⟩, fun u r => ⟨0, by cases r; rfl⟩, ⟨xs, fun _ => SqT.of e⟩, fun _ W2 m2 l S2 _ => ⟨xs, SqT.of (l.kT _ _ e), x.up l⟩, h⟩
  | ktp ds =>
    cases x with
    | @ktup a xs ds t x =>
      exact ⟨fun _ => .tup a, ⟨ds, gTrue⟩, fun u r => ⟨0, by cases r; rfl⟩, ⟨xs, fun _ => .inr t⟩, fun _ W2 m2 l S2 _ => ⟨xs, .inr t, x.up l⟩, h⟩
  | lst ds =>
    cases x with
    | @lst a xs ds s e x =>
      exact ⟨fun _ => .lst a, ⟨ds, gTrue⟩, fun u r => ⟨0, by cases r; rfl⟩, ⟨xs, fun _ => SqL.of e⟩, fun _ W2 m2 l S2 _ => ⟨xs, SqL.of (l.kS _ _ s e), x.up l⟩, h⟩
  | ref n =>
    obtain ⟨ds, hm, q1⟩ := h
    cases x with
    | @ref a n hi =>
      obtain ⟨⟨ys, h3, h4⟩, _⟩ := D.cell S (.ref hi) hm
      refine ⟨fun _ => .lst a, ⟨ds, fun m => m n = some (.lst ds)⟩, fun u r => ⟨0, by cases r; rfl⟩, ⟨ys, fun _ => SqL.of h3⟩, fun _ W2 m2 l S2 g => ?_, q1⟩
      obtain ⟨⟨zs, h5, h6⟩, _⟩ := D.cell (a := a) S2 (.ref (l.sI _ _ hi)) g
      exact ⟨zs, SqL.of h5, h6⟩
  | str z =>
    cases x
    refine ⟨fun t => .txt z t, ⟨z.cps.toList.map (fun c => .str ⟨#[c]⟩), gTrue⟩, fun u r => ?_, ⟨_, fun _ => rfl⟩, fun _ W2 m2 l S2 _ => ⟨_, rfl, ?_⟩, h⟩
    · obtain ⟨t, rfl⟩ := r; exact ⟨t, rfl⟩
    · show DAll K W2 _ (z.cps.toList.map _)
      generalize z.cps.toList = l
      induction l with
      | nil => exact .nil
      | cons c l ih => exact .cons (.str _) ih
  | _ => exact h.elim
def diZip (w : WA) : WI := fun r m k => w r m fun ds m1 => ∃ d e, ds = [d, e] ∧ srcOf d m1 fun a m2 => srcOf e m2 fun b m3 => k (zipS a b) m3
section
variable {X : Cx} {e e2 : Expr} {wA : WA} {p pos tpos : Pos} {elts : List Expr} {kk : Nat}
theorem srcOf_m {d : Dat} {m : Mu} {k : Src → Mu → Prop} (h : srcOf d m k) : srcOf d m fun s m' => m' = m ∧ k s m := by
  cases d with
  | ref n => obtain ⟨ds, h1, h2⟩ := h; exact ⟨ds, h1, rfl, h2⟩
  | tup ds => exact ⟨rfl, h⟩
  | ktp ds => exact ⟨rfl, h⟩
  | lst ds => exact ⟨rfl, h⟩
  | str z => exact ⟨rfl, h⟩
  | _ => exact h.elim
theorem di_zip (hg : Gl X "zip") (hm : X.mg "zip" = none) (ha : DA X [e, e2] wA)
    (hs : starEach [e, e2] X.env = (false, eval e X.env) :: starEach [e2] X.env := by rfl) (hpl : (backTo pos (starEach [e2] X.env)).any (·.1) = false := by rfl) :
    DI X (.Tuple elts kk tpos) (.Call (.Name "zip" p) [e, e2] [] pos) (diZip wA) := by
  refine ⟨fun pins s σ H R I h => ?_⟩
  obtain ⟨W, r, m, k, e0, S, V, h2, q⟩ := h
  refine Call_ (ld_blt I hg hm PyProof.Rows.boot_zip (PyProof.Rows.callWith_type1 (thn (ha.run pos pins s σ H (fun vs H1 => ∃ v1 v2, vs = [v1, v2] ∧ ∃ kk1 kk2 : Nat → ZK, (∀ u, RelV v1 u → ∃ t, (kk1 t).val = u) ∧ (∀ u, RelV v2 u → ∃ t, (kk2 t).val = u) ∧ (∃ xs, ∀ t, (kk1 t).stands X.K H1 xs) ∧ (∃ ys, ∀ t, (kk2 t).stands X.K H1 ys) ∧ ∀ t1 t2, R (Itz2 X.K (kk1 t1) (kk2 t2)) H1) I
    ⟨W, r, m, _, e0, S, V, h2, fun W1 m1 vs ds l1 S1 x1 q1 => ?_⟩) fun us s1 ⟨vs, H1, I1, r1, q1⟩ => ?_) hs hpl))
  · obtain ⟨d, e, rfl, q1⟩ := q1
    cases x1 with
    | cons x1 x2 =>
      cases x2 with
      | cons x2 x3 =>
        cases x3
        obtain ⟨kk1, a, f1, g1, z1, rfl', q2⟩ := zsrc_of S1 x1 (srcOf_m q1)
        obtain ⟨kk2, b, f2, g2, z2, rfl'', q3⟩ := zsrc_of S1 x2 (srcOf_m q2)
        exact ⟨_, _, rfl, kk1, kk2, f1, f2, g1, g2, fun t1 t2 => q W1 m1 _ _ l1 S1 (src_zip (z1 t1) (z2 t2)) q3⟩
  · obtain ⟨v1, v2, rfl, kk1, kk2, f1, f2, ⟨xs, g1⟩, ⟨ys, g2⟩, fin⟩ := q1
    cases r1 with
    | cons r r' =>
      cases r' with
      | cons r' rr =>
        cases rr
        obtain ⟨t1, rfl⟩ := f1 _ r
        obtain ⟨t2, rfl⟩ := f2 _ r'
        obtain ⟨Q1, B1, b1, c1⟩ := ZK.begins I1 (g1 t1)
        obtain ⟨Q2, B2, b2, c2⟩ := ZK.begins I1 (g2 t2)
        have fresh5 : ∀ c ∈ [s1.heap.objs.size + 4, s1.heap.objs.size + 2, s1.heap.objs.size + 3, s1.heap.objs.size, s1.heap.objs.size + 1], FpOk X pins H1 c := by
          have one : ∀ j : Nat, FpOk X pins H1 (s1.heap.objs.size + j) := fun j => I1.fpOk (Nat.le_add_right _ j) (I1.hok.fresh (Nat.le_add_right _ j))
          simp only [List.forall_mem_cons]
          exact ⟨one 4, one 2, one 3, one 0, one 1, nofun⟩
        refine zip_begins2 B1 B2 b1 b2 fun h' hz hTI hTO o1 o2 hsz hk => wpAny_pyIter_zip hz ?_
        have I2 : Inv X pins σ H1 { s1 with heap := h' } := I1.kept (t' := s1.toks) hk
        exact ⟨s1.heap.objs.size + 4, [s1.heap.objs.size + 4, s1.heap.objs.size + 2, s1.heap.objs.size + 3, s1.heap.objs.size, s1.heap.objs.size + 1], _, _, H1, rfl, I2, turn_zipD (zip_sep2 c1 c2) (fun hm => absurd (c1 _ hm) (Nat.lt_irrefl _)) (fun hm => absurd (c2 _ hm) (Nat.not_lt_of_le (Nat.le_succ _))), (⟨hz, hTI, ⟨_, _, hTO⟩, ZK.it_zero o1, ZK.it_zero o2⟩ : ZSt _ _ _ _ _ _ _ _ _), fresh5, fin t1 t2⟩
end
theorem u_zip {r : Ro} {m : Mu} {k : Src → Mu → Prop} {w : WA} (h : w r m fun ds m1 => ∃ d e, ds = [d, e] ∧ srcOf d m1 fun a m2 => srcOf e m2 fun b m3 => k (zipS a b) m3) : diZip w r m k := h
theorem p_zip {d e : Dat} {m : Mu} {k : Src → Mu → Prop} (h : srcOf d m fun a m2 => srcOf e m2 fun b m3 => k (zipS a b) m3) : ∃ d' e', [d, e] = [d', e'] ∧ srcOf d' m fun a m2 => srcOf e' m2 fun b m3 => k (zipS a b) m3 := ⟨d, e, rfl, h⟩
end DL

/-! how often a truth stands in a list of truths; walks that make one item of each -/
namespace DL
open PySem PySem.Spec PyProof.Rows L2
def eqBl (b : Bool) (v : Value) : Bool := match v with
  | .bool c => c == b
  | _ => false
theorem eqbl_count {K : PySem.W.Frag} {W : Wd} {b : Bool} : ∀ {bs : List Bool} {vs : List V} {us : List Value}, DAll K W vs (bs.map .bl) → Vals vs us → us.countP (eqBl b) = bs.count b
  | [], _, _, x, r => by cases x; cases r; rfl
  | c :: bs, _, _, x, r => by
    cases x with
    | cons x1 x2 =>
      cases r with
      | cons r1 r2 =>
        cases x1
        have ih := eqbl_count (b := b) x2 r2
        cases r1
        rw [List.countP_cons, List.count_cons, ih] <;> rfl
theorem eqbl_is {K : PySem.W.Frag} {W : Wd} : ∀ {bs : List Bool} {vs : List V} {us : List Value}, DAll K W vs (bs.map .bl) → Vals vs us → ∀ y ∈ us, ∃ c, y = .bool c
  | [], _, _, x, r => fun y hy => by cases x; cases r; cases hy
  | c :: bs, _, _, x, r => fun y hy => by
    cases x with
    | cons x1 x2 =>
      cases r with
      | cons r1 r2 =>
        cases x1
        rcases List.mem_cons.mp hy with e | e
        · cases r1; exact ⟨c, e⟩
        · exact eqbl_is x2 r2 y e
section
variable {X : Cx}
def rCountB : RMD := fun d ds m F => ∃ (bs : List Bool) (b : Bool), items m d = some (bs.map .bl) ∧ ds = [.bl b] ∧ F (.int (bs.count b : Nat)) m
theorem m_countB : MtR X "list.count" (liftM X.K rCountB) := by
  rintro pins s σ H x xs v us Q I rx rs ⟨W, m, d, ds, F, e, S, xa, xb, ⟨bs, b, hd, rfl, h⟩, k⟩
  subst e
  obtain ⟨u, rfl, x2⟩ := dall1 xb
  cases x2
  obtain ⟨a, vs, rfl, e1, q⟩ := xa.items S hd
  cases rx
  obtain ⟨u, rfl, ru⟩ := rs.one
  cases ru
  obtain ⟨its, rv, ⟨⟨cls, dd, data, sl⟩, n, ho, hc, hdn, hd⟩, hlen⟩ := I.list (SqL.of e1)
  simp only at hc hd
  subst hc hd
  refine call_meets PySem.F.slot_list_count ⟨_, ho, rfl⟩ PySem.F.entry_list_count (PySem.F.args_list_count_2 _ _)
    (SeqAt.list_countAt a its.toArray n dd sl (.bool b) (eqBl b)) ⟨ho, fun y hy => ?_, ?_⟩
  · obtain ⟨c, rfl⟩ := eqbl_is q rv y (by simpa using hy)
    exact PySem.SeqAt.EqAt.bool_bool c b
  have ec : its.toArray.toList.countP (eqBl b) = bs.count b := eqbl_count q rv
  refine ⟨.int (bs.count b : Nat), W.H, I.tok _, ⟨s.toks, ?_⟩, fin0 S k h (.int _)⟩
  show Value.int ((its.toArray.toList.countP (eqBl b) : Nat) : Int) s.toks = Value.int ((bs.count b : Nat) : Int) s.toks
  rw [ec]
end
theorem p_countB {ds : List Dat} {b : Bool} {bs : List Bool} {m : Mu} {F : KD} (hd : ds = bs.map .bl) (h : F (.int (bs.count b : Nat)) m) : rCountB (.lst ds) [.bl b] m F := ⟨bs, b, by rw [hd]; rfl, rfl, h⟩
/-- one item of each -/
theorem dcomp_map {α : Type} {gd : Mu → Prop} {g : WG} {te : DL.WE} {r : Ro} {m : Mu} {FL : List Dat → Mu → Prop} (f h : α → Dat) (hgd : gd m) : ∀ (xs : List α) (acc : List Dat), (∀ x ∈ xs, ∀ k : Dat → Mu → Prop, k (h x) m → g (f x) r m fun r2 m2 => te r2 m2 k) → FL (acc ++ xs.map h) m → dcomp gd g dYes te r FL (xs.map f) acc m
  | [], acc, _, hF => ⟨hgd, by simpa using hF⟩
  | x :: xs, acc, hx, hF => ⟨hgd, hx x (List.mem_cons_self ..) _ (by
      have := dcomp_map (gd := gd) (g := g) (te := te) f h hgd xs (acc ++ [h x]) (fun y hy => hx y (List.mem_cons_of_mem _ hy)) (by simpa using hF)
      simpa [dYes] using this)⟩
/-- one item of each that passes -/
theorem dcomp_filt {α : Type} {gd : Mu → Prop} {g : WG} {t : WT} {te : DL.WE} {r : Ro} {m : Mu} {FL : List Dat → Mu → Prop} (f h : α → Dat) (p : α → Bool) (hgd : gd m) : ∀ (xs : List α) (acc : List Dat),
    (∀ x ∈ xs, ∀ (k1 : Dat → Mu → Prop) (k0 : Mu → Prop), (p x = true → k1 (h x) m) → (p x = false → k0 m) → g (f x) r m fun r2 m2 => t r2 m2 fun b m3 => if b = true then te r2 m3 k1 else k0 m3) → FL (acc ++ (xs.filter p).map h) m → dcomp gd g t te r FL (xs.map f) acc m
  | [], acc, _, hF => ⟨hgd, by simpa using hF⟩
  | x :: xs, acc, hx, hF => ⟨hgd, hx x (List.mem_cons_self ..) _ _ (fun hp => by
      refine dcomp_filt (gd := gd) (g := g) (t := t) (te := te) f h p hgd xs (acc ++ [h x]) (fun y hy => hx y (List.mem_cons_of_mem _ hy)) ?_
      rw [List.filter_cons, if_pos hp] at hF
      simpa using hF) (fun hp => by
      refine dcomp_filt (gd := gd) (g := g) (t := t) (te := te) f h p hgd xs acc (fun y hy => hx y (List.mem_cons_of_mem _ hy)) ?_
      rw [List.filter_cons, if_neg (by rw [hp]; exact Bool.false_ne_true)] at hF
      exact hF)⟩
theorem u_rng2 {r : Ro} {m : Mu} {w : WA} {k : Src → Mu → Prop} (h : w r m fun ds m1 => ∃ i j : Int, ds = [.int i, .int j] ∧ (-(2 ^ 62) ≤ i ∧ i < 2 ^ 62 ∧ -(2 ^ 62) ≤ j ∧ j < 2 ^ 62) ∧ k ⟨rangeD i (j - i).toNat, gTrue⟩ m1) : diRng2 w r m k := h
end DL

/-! & | ^ of two truths, of two integers -/
namespace DL
open PySem PySem.Spec PyProof.Rows L2
section
variable {X : Cx}
def rBit (fb : Bool → Bool → Bool) (fi : Int → Int → Int) : R2D := fun a b m F => (∃ p q, a = .bl p ∧ b = .bl q ∧ F (.bl (fb p q)) m) ∨ (∃ i j, a = .int i ∧ b = .int j ∧ F (.int (fi i j)) m)
theorem o_bitand : OpR X (binaryOp .BitAnd) (lift2 X.K (rBit (· && ·) Builtin.bitAnd)) := by
  intro pins s σ H x y v u Q I rx ry ⟨W, m, a, b, F, e, S, xa, yb, h, k⟩
  subst e
  rcases h with ⟨p, q, rfl, rfl, h⟩ | ⟨i, j, rfl, rfl, h⟩
  · cases xa; cases yb; cases rx; cases ry
    exact and_bool ⟨.bl _, W.H, I, rfl, fin0 S k h (.bl _)⟩
  · cases xa; cases yb
    exact op_and pins s σ _ _ _ v u Q I rx ry ⟨i, j, rfl, rfl, fin0 S k h (.int _)⟩
theorem o_bitor : OpR X (binaryOp .BitOr) (lift2 X.K (rBit (· || ·) Builtin.bitOr)) := by
  intro pins s σ H x y v u Q I rx ry ⟨W, m, a, b, F, e, S, xa, yb, h, k⟩
  subst e
  rcases h with ⟨p, q, rfl, rfl, h⟩ | ⟨i, j, rfl, rfl, h⟩
  · cases xa; cases yb; cases rx; cases ry
    exact or_bool ⟨.bl _, W.H, I, rfl, fin0 S k h (.bl _)⟩
  · cases xa; cases yb
    exact op_or pins s σ _ _ _ v u Q I rx ry ⟨i, j, rfl, rfl, fin0 S k h (.int _)⟩
theorem o_bitxor : OpR X (binaryOp .BitXor) (lift2 X.K (rBit (· ^^ ·) Builtin.bitXor)) := by
  intro pins s σ H x y v u Q I rx ry ⟨W, m, a, b, F, e, S, xa, yb, h, k⟩
  subst e
  rcases h with ⟨p, q, rfl, rfl, h⟩ | ⟨i, j, rfl, rfl, h⟩
  · cases xa; cases yb; cases rx; cases ry
    exact xor_bool ⟨.bl _, W.H, I, rfl, fin0 S k h (.bl _)⟩
  · cases xa; cases yb
    exact op_xor pins s σ _ _ _ v u Q I rx ry ⟨i, j, rfl, rfl, fin0 S k h (.int _)⟩
end
theorem p_bitB {fb : Bool → Bool → Bool} {fi : Int → Int → Int} {p q : Bool} {m : Mu} {F : KD} (h : F (.bl (fb p q)) m) : rBit fb fi (.bl p) (.bl q) m F := .inl ⟨p, q, rfl, rfl, h⟩
theorem p_bitI {fb : Bool → Bool → Bool} {fi : Int → Int → Int} {i j : Int} {m : Mu} {F : KD} (h : F (.int (fi i j)) m) : rBit fb fi (.int i) (.int j) m F := .inr ⟨i, j, rfl, rfl, h⟩
end DL

/-! != of own objects that have __eq__; is, is not of truths -/
namespace PySem.W
open Sem (wp)
open PySem PyProof.Rows
section
variable {K : Frag} {prog : Program} {w : World} {A : Around} {E : Value → Shared → Prop} {s : Shared} {C x y f : Addr} {ox : Obj} {od : Option Obj}
/-- a special method that a built-in class gives: it is found, and called with the object first -/
theorem ifBound_Kb {M : Model} {name : Str} {id : String} {more : List Value} {R : Option Value → Shared → Prop} (X : K.In s.heap) (I : InstAt s.heap x ox C od) (at_ : findIn K (.ref C) name = some (some (.builtin id)))
    (bind : ∀ v, bindSpecial (.builtin id) v = pure (.builtin id, [v])) (q : wpAny M A (call (.builtin id) (.ref x :: more)) (fun r => R (some r)) E s) : wpAny M A (callSpecialIfBound? (.ref x) name more) R E s := by
  have ends : wpAny M A (do return some (← call (.builtin id) ([.ref x] ++ more))) R E s := wpAny_bind (wpAny_mono q (fun _ _ z => wpAny_pure z) fun _ _ z => z)
  have found : wpAny M A (bindSpecialIfBound? (.ref x) name) (fun r s' => r = some (.builtin id, [.ref x]) ∧ s' = s) E s := by
    unfold bindSpecialIfBound?
    refine wpAny_bind (wpAny_bind (I.type.here ((looks_findIn X at_).here ?_)))
    simp only [bind]
    refine wpAny_bind (wpAny_askSetting (wpAny_ite ?_))
    split
    · exact wpAny_bind (wpAny_pure (wpAny_pure ⟨rfl, rfl⟩))
    · exact wpAny_tryCatch (wpAny_bind (wpAny_pure (wpAny_pure ⟨rfl, rfl⟩)))
  unfold callSpecialIfBound?
  refine wpAny_holding (wpAny_bind (wpAny_mono found (fun r s' z => ?_) fun _ _ z => z))
  obtain ⟨rfl, rfl⟩ := z
  exact ends
/-- object.__ne__ asks __eq__ and turns the truth about -/
theorem objNe_K (room : A.units < cLine) (X : K.In s.heap) (I : InstAt s.heap x ox C od) (eq : findIn K (.ref C) "__eq__" = some (some (.ref f))) (hf : isFn K (.ref f) = true) {R : Fin → Shared → Prop}
    (q : wpAny (model prog w) A (call (.ref f) [.ref x, .ref y]) (fun v s' => ∃ b, v = .bool b ∧ R (.done (.ret (.bool (!b)))) s') E s) : wpAny (model prog w) A (Builtin.«object.__ne__» ⟨[.ref x, .ref y], []⟩) R E s := by
  have asked := ifBound_K (M := model prog w) (args := [.ref y]) (Q := fun r s' => ∃ v, r = some v ∧ ∃ b, v = .bool b ∧ R (.done (.ret (.bool (!b)))) s') X I eq hf (wpAny_mono q (fun v s' z => ⟨v, rfl, z⟩) fun _ _ z => z)
  obtain ⟨hp, g, d, t, os⟩ := s
  unfold Builtin.«object.__ne__»
  repeat (first
    | with_reducible refine wpAny_cRoomFor room ?_
    | (refine wpAny_bind (m := callSpecialIfBound? (.ref x) (Str.ofString "__eq__") [.ref y]) (wpAny_mono asked (fun r s' z => ?_) fun _ _ e => e)
       obtain ⟨_, rfl, b, rfl, z⟩ := z
       repeat (first | exact z | exact wpAny_pure z | exact wpAny_truthy_bool z | (refine wpAny_bind (m := truthy (.bool _)) (wpAny_truthy_bool ?_)) | wp_step))
    | wp_step)
theorem check_ne_K {M : Model} {rest : List Value} {id n : String} {Q : Unit → Shared → Prop} (X : K.In s.heap) (I : InstAt s.heap x ox C od) (hm : mroIn K C (.type "object") = some true) (hk : builtinKind id = some .slot) (hs : splitId id = some ("object", n))
    (ha : argsOk id ⟨.ref x :: rest, []⟩) (hq : Q () s) : wpAny M A (checkBuiltinCall id ⟨.ref x :: rest, []⟩) Q E s := by
  simp only [checkBuiltinCall, hk, hs]
  have L : Looks M s.heap (isInstance (.ref x) (.type "object")) true := I.type.andThen (looks_mroIn X hm)
  refine wpAny_bind (L.here ?_)
  cases hsig : Manifest.signature? id with
  | none => exact wpAny_pure hq
  | some sig =>
    simp only [argsOk, hsig] at ha
    have h2 : Bind.checkArgs id sig ⟨.ref x :: rest, []⟩ = pure () := ha
    show wpAny M A (Bind.checkArgs id sig ⟨.ref x :: rest, []⟩) Q E _
    rw [h2]; exact wpAny_pure hq
/-- a != b of two objects of one class that has __eq__ and no __ne__ -/
theorem ne_own_K {tb : Value} {Q : Value → Shared → Prop} (room : A.units + 1 < cLine) (X : K.In s.heap) (I : InstAt s.heap x ox C od) (kind : Looks (model prog w) s.heap (typeOf (.ref y)) tb) (first : notFirst K C tb = true)
    (ne : findIn K (.ref C) "__ne__" = some (some (.builtin "object.__ne__"))) (hm : mroIn K C (.type "object") = some true) (eq : findIn K (.ref C) "__eq__" = some (some (.ref f))) (hf : isFn K (.ref f) = true)
    (q : wpAny (model prog w) A.in1 (call (.ref f) [.ref x, .ref y]) (fun v s' => ∃ b, v = .bool b ∧ Q (.bool (!b)) s') E s) : wpAny (model prog w) A (compareOp .NotEq (.ref x) (.ref y)) Q E s := by
  have body : wpAny (model prog w) A.in1 (Builtin.«object.__ne__» ⟨[.ref x, .ref y], []⟩) (fun fin s' => ∃ b, fin = .done (.ret (.bool b)) ∧ Q (.bool b) s') E s :=
    objNe_K room X I eq hf (wpAny_mono q (fun v s' ⟨b, e, z⟩ => ⟨b, e, !b, rfl, z⟩) fun _ _ z => z)
  have told : wpAny (model prog w) A (tryCompare (.ref x) "__ne__" (.ref y)) (fun r s' => ∃ v, r = some v ∧ Q v s') E s := by
    unfold tryCompare
    refine wpAny_bind (ifBound_Kb X I ne F.slot_object_ne.bind (wpAny_call (codeAny_call_builtin F.slot_object_ne.plain F.entry_object_ne (check_ne_K X I hm F.cmpKind_ne F.cmpSplit_ne (F.cmpArgs_ne _ _) (wpAny_mono body (fun fin s' z => ?_) fun _ _ z => z)))))
    obtain ⟨b, rfl, z⟩ := z
    exact wpAny_pure ⟨_, rfl, z⟩
  have ends : ∀ k : Option Value → Sem Value, (∀ v s', Q v s' → wpAny (model prog w) A (k (some v)) Q E s') → wpAny (model prog w) A (tryCompare (.ref x) "__ne__" (.ref y) >>= k) Q E s := fun k hk =>
    wpAny_bind (wpAny_mono told (fun r s' ⟨v, e, z⟩ => e ▸ hk v s' z) fun _ _ z => z)
  unfold compareOp richCompare
  simp only [oneThing_ref, cmpInfo_NotEq]
  refine wpAny_holding (wpAny_bind (wpAny_cRoomFor (Nat.lt_of_succ_lt room) (wpAny_bind (I.type.here (wpAny_bind (kind.here ?_))))))
  by_cases same : tb = .ref C
  · subst same
    simp only [bne_self_eq_false, Bool.false_eq_true, if_false]
    exact wpAny_bind (wpAny_pure (ends _ fun v s' z => wpAny_pure z))
  · have sub : subIn K tb (.ref C) = some false := (Bool.or_eq_true_iff.mp first).elim (fun e => absurd (beq_iff_eq.mp e) same) beq_iff_eq.mp
    have other : ¬ Value.ref C = tb := fun e => same e.symm
    rw [if_pos (by simpa using other)]
    refine wpAny_bind ((looks_subIn X sub).here ?_)
    simp only [Bool.false_eq_true, if_false]
    exact ends _ fun v s' z => wpAny_pure z
end
end PySem.W
namespace DL
open PySem PySem.Spec PyProof.Rows L2
section
variable {X : Cx} {CX : CXT} {k : Nat} {f C : Addr} {fd : FuncData} {ps : List Str}
theorem run_fn1 {sp : L2.Sp} {dvs : List V} {ds : List Value} {E : XK} {pins : List (Addr × Obj)} {σ : L2.St} {H : Hp} {s : Shared} {Q : VK} {us : List Value} {vs : List V} (F : FnOk X.prog X.w X.K X.mg X.base CX k f fd ps sp) (hr : Room k X.A.in1) (hb : Binds X.K fd ps ds) (hd : Vals dvs ds) (hx : Passes CX X E)
    (I : Inv X pins σ H s) (r : Vals vs us) (h : sp (vs ++ dvs) H Q E) : wpAny (model X.prog X.w) X.A.in1 (call (.ref f) us) (EP X pins σ Q) X.xe s := by
  have r2 : Vals (vs ++ dvs) (us ++ ds) := r.append hd
  have hl : (us ++ ds).length = ps.length := by rw [← r2.length]; exact F.len _ _ _ _ h
  have e0 := I.env0
  have e1 : Env0 X.prog X.w X.K X.mg X.base X.A.in1 X.stack s H := ⟨e0.frames, e0.mod, e0.bs, e0.bsz, e0.funs, e0.frf, e0.hok, e0.bare⟩
  refine wpAny_call (codeAny_mono (F.run X.A.in1 X.stack s H ⟨us, []⟩ (us ++ ds) (vs ++ dvs) Q E hr e1 (hb s us I.kIn hl) r2 h) fun r s' hq => ?_)
  cases r with
  | error e => exact hx pins σ H s e s' I hq
  | ok fl =>
    cases fl with
    | ret u => exact I.after hq
    | next => exact False.elim hq
    | brk => exact False.elim hq
    | cont => exact False.elim hq
def rOwnNe (C : Addr) (sp : Spec) : R2D := fun a b m F => (∃ gs, insD m a = some (C, gs)) ∧ (∃ gs, insD m b = some (C, gs)) ∧ sp [a, b] m (fun d m' => ∃ k, d = .bl k ∧ F (.bl (!k)) m') X0
theorem o_neOwn {sp : Spec} (hu : X.A.units + 1 < cLine) (hB : X.base.objs.size ≤ X.env.locals) (hn : PySem.W.notFirst X.K C (.ref C) = true) (hne : PySem.W.findIn X.K (.ref C) "__ne__" = some (some (.builtin "object.__ne__"))) (hm : PySem.W.mroIn X.K C (.type "object") = some true)
    (hs : PySem.W.findIn X.K (.ref C) "__eq__" = some (some (.ref f))) (hf : PySem.W.isFn X.K (.ref f) = true) (F : DO X.prog X.w X.K X.mg X.base k f ps sp) (hr : Room (k + 1) X.A) : OpR X (compareOp .NotEq) (lift2 X.K (rOwnNe C sp)) := by
  rintro pins s σ H x y v u Q I rx ry ⟨W, m, a, b, G, e, S, xa, yb, ⟨⟨gs, h1⟩, ⟨gs', h2⟩, h⟩, kk⟩
  subst e
  obtain ⟨fd, hb, F2⟩ := F.ex
  obtain ⟨p, dx, fs, rfl, h3, _⟩ := xa.ins S h1
  obtain ⟨q, dx', fs', rfl, h4, _⟩ := yb.ins S h2
  obtain rfl : v = Value.ref p := rx
  obtain rfl : u = Value.ref q := ry
  obtain ⟨_, O, _⟩ := ins_get I.hok h3
  obtain ⟨od, J, _⟩ := O.look
  obtain ⟨_, O2, _⟩ := ins_get I.hok h4
  obtain ⟨od2, J2, _⟩ := O2.look
  refine PySem.W.ne_own_K hu (I.kIn) J J2.type hn hne hm hs hf (wpAny_mono (run_fn1 (us := [.ref p, .ref q]) (vs := [.ref p, .ref q]) (E := E0) (dvs := []) (ds := []) (Q := fun v H' => ∃ b, v = .bl b ∧ Q (.bl (!b)) H') F2 hr.in1 hb .nil pass0 I (.cons rfl (.cons rfl .nil)) ?_) (fun r s' z => ?_) fun _ _ z => z)
  · refine ⟨W, m, [a, b], _, X0, rfl, S, .cons xa (.cons yb .nil), h, fun W' m' v d l S' xv q => ?_, .no⟩
    obtain ⟨k, rfl, q⟩ := q
    cases xv
    exact ⟨k, rfl, kk W' m' _ _ l S' (.bl _) q⟩
  · obtain ⟨v, H', I', rv, b, rfl, q⟩ := z
    obtain rfl : r = .bool b := rv
    exact ⟨b, rfl, .bl (!b), H', I', rfl, q⟩
/-- is True, is not True .. of truths -/
def rIsB : R2D := fun a b m F => ∃ p q, a = .bl p ∧ b = .bl q ∧ F (.bl (decide (p = q))) m
def rNotB : R2D := fun a b m F => ∃ p q, a = .bl p ∧ b = .bl q ∧ F (.bl (!decide (p = q))) m
theorem o_isB : OpR X (compareOp .Is) (lift2 X.K rIsB) := by
  rintro pins s σ H x y v u Q I rx ry ⟨W, m, a, b, F, e, S, xa, yb, ⟨p, q, rfl, rfl, h⟩, k⟩
  subst e
  cases xa; cases yb
  exact op_is_bl pins s σ _ _ _ v u Q I rx ry ⟨p, q, rfl, rfl, fin0 S k h (.bl _)⟩
theorem o_notB : OpR X (compareOp .IsNot) (lift2 X.K rNotB) := by
  rintro pins s σ H x y v u Q I rx ry ⟨W, m, a, b, F, e, S, xa, yb, ⟨p, q, rfl, rfl, h⟩, k⟩
  subst e
  cases xa; cases yb
  exact op_isnot_bl pins s σ _ _ _ v u Q I rx ry ⟨p, q, rfl, rfl, fin0 S k h (.bl _)⟩
theorem p_isB {p q : Bool} {m : Mu} {F : KD} (h : F (.bl (decide (p = q))) m) : rIsB (.bl p) (.bl q) m F := ⟨p, q, rfl, rfl, h⟩
theorem p_notB {p q : Bool} {m : Mu} {F : KD} (h : F (.bl (!decide (p = q))) m) : rNotB (.bl p) (.bl q) m F := ⟨p, q, rfl, rfl, h⟩
theorem p_ownNe {sp : Spec} {C : Addr} {gs hs : List (Str × Dat)} {m : Mu} {F : KD} (h : sp [.obj C gs, .obj C hs] m (fun d m' => ∃ k, d = .bl k ∧ F (.bl (!k)) m') X0) : rOwnNe C sp (.obj C gs) (.obj C hs) m F := ⟨⟨gs, rfl⟩, ⟨hs, rfl⟩, h⟩
end
end DL

/-! DL24: comprehensions of two clauses, displayed dicts, d[k], static methods, promises that never come to pass -/
namespace DL
open PySem PySem.Spec PyProof.Rows L2
/-! ### two clauses -/
theorem walk_it {J : It} {n : Nat} {G : Hp → Prop} {Y : Nat → Hp → V → Hp → Prop} {Qd : Hp → Prop} {T : V → Hp → (Hp → Prop) → Prop} {H0 : Hp} (w : Walk J n G Y) (Pv : Nat → Hp → Prop) (h0 : Pv 0 H0) (hG : ∀ i H, i ≤ n → Pv i H → G H)
    (hs : ∀ i x H H', i < n → Pv i H → Y i H x H' → T x H' (Pv (i + 1))) (hd : ∀ H, Pv n H → Qd H) :
    ∃ W : Nat → Nat → Hp → Prop, (∃ m, W 0 m H0) ∧ ∀ i m H, W i m H → (J.stop i H ∧ Qd H) ∨ (J.go i H ∧ ∃ Nx : Hp → Prop, (∀ H', Nx H' → ∃ m', m' < m ∧ W (i + 1) m' H') ∧ ∀ x H', J.yld i H x H' → T x H' Nx) := by
  refine ⟨fun i m H => m = n - i ∧ i ≤ n ∧ Pv i H, ⟨n, by simp, Nat.zero_le _, h0⟩, ?_⟩
  rintro i m H ⟨rfl, hi, p⟩
  have q := hG i H hi p
  by_cases hlt : i < n
  · exact .inr ⟨w.goes i H hlt q, Pv (i + 1), fun H' p' => ⟨n - (i + 1), by omega, rfl, hlt, p'⟩, fun x H' y => hs i x H H' hlt p (w.yields i H x H' hlt q y)⟩
  · have e : i = n := by omega
    subst e
    exact .inl ⟨w.stops H q, hd H p⟩
def dcomp2 (gd : Mu → Prop) (g : WG) (tt : WT) (wi1 : WI) (g1 : WG) (tt1 : WT) (te : WE) (r : Ro) (vs1 : List Nat) (F : List Dat → Mu → Prop) : List Dat → List Dat → Mu → Prop
  | [], acc, m => gd m ∧ F acc m
  | x :: xs, acc, m => gd m ∧ g x r m fun r2 m2 => tt r2 m2 fun b m3 => if b = true then wi1 r2 m3 fun src1 m4 => acc.length + src1.items.length < sizeLine ∧ dcomp src1.guard g1 tt1 te (dwipe r2 vs1) (fun acc' m5 => dcomp2 gd g tt wi1 g1 tt1 te r vs1 F xs acc' m5) src1.items acc m4
    else dcomp2 gd g tt wi1 g1 tt1 te r vs1 F xs acc m3
def dLc2 (wi : WI) (g : WG) (tt : WT) (wi1 : WI) (g1 : WG) (tt1 : WT) (te : WE) (vs vs1 : List Nat) : WE := fun r m F => wi r m fun src m1 => dcomp2 src.guard g tt wi1 g1 tt1 te (dwipe r vs) vs1 (fun acc m2 => F (.lst acc) m2) src.items [] m1
section
variable {X : Cx}
theorem wipe_back {σ σ' : L2.St} {vs : List Nat} (h : L2.wipe σ' vs = L2.wipe (L2.wipe σ vs) vs) : L2.wipe σ' vs = L2.wipe σ vs := by
  rw [h]
  apply List.ext_getElem?
  intro j
  rw [wipe_at, wipe_at]
  split
  · cases q : σ[j]? <;> rfl
  · rfl
theorem lc2F {wi wi1 : WI} {js js1 : List Nat} {g g1 : WG} {tt tt1 : WT} {te : WE} {vs vs1 : List Nat} {σ : L2.St} {H : Hp} {Q : VK} (hjs : ∀ j ∈ js, j ∈ vs) (hjs1 : ∀ j ∈ js1, j ∈ vs1)
    (h : liftE X.K (dLc2 wi g tt wi1 g1 tt1 te vs vs1) σ H Q) : tLc2 (liftI X.K wi) (liftG X.K js g) (liftT X.K tt) (liftI X.K wi1) (liftG X.K js1 g1) (liftT X.K tt1) (liftE X.K te) vs vs1 σ H Q := by
  obtain ⟨W, r, m, F, e0, S, V, h, q⟩ := h
  refine ⟨W, r, m, _, e0, S, V, h, fun W1 m1 src J l1 S1 so q1 => ?_⟩
  intro p hp
  obtain ⟨Gd, Y, wk, stay, yld⟩ := so.ok
  have pr := S1.priv hp
  refine walk_it wk (fun i H' => ∃ W2 m2 xs acc, W2.H = H' ∧ Le W1 W2 ∧ Sim X.K W2 m2 ∧ Priv W2 p ∧ W2.H p = some (.lst xs) ∧ DAll X.K W2 xs acc ∧ dcomp2 src.guard g tt wi1 g1 tt1 te (dwipe r vs) vs1 (fun acc m2 => F (.lst acc) m2) (src.items.drop i) acc m2) ?_ ?_ ?_ ?_
  · exact ⟨⟨W1.S, W1.io, upd W1.H p (.lst [])⟩, m1, [], [], rfl, (Le.refl W1).off hp, S1.off pr, pr.off, upd_same, .nil, q1⟩
  · rintro i H' hi ⟨W2, m2, xs, acc, rfl, l2, S2, p2, h2, x2, q2⟩
    refine stay W2 m2 l2.up S2 ?_
    cases hd : src.items.drop i with
    | nil => rw [hd] at q2; exact q2.1
    | cons x ys => rw [hd] at q2; exact q2.1
  · rintro i x H' H'' hlt ⟨W2, m2, xs, acc, rfl, l2, S2, p2, h2, x2, q2⟩ y
    rw [List.drop_eq_getElem_cons hlt] at q2
    obtain ⟨gd, q2⟩ := q2
    obtain ⟨W3, d, rfl, l3, S3, hd, x3⟩ := yld W2 m2 i x H'' l2.up S2 gd hlt y
    rw [List.getElem?_eq_getElem hlt] at hd
    cases hd
    obtain ⟨p3, h3⟩ := p2.le h2 l3
    refine ⟨W3, dwipe r vs, m2, _, _, rfl, S3, (V.wipe vs).up ((l1.trans l2).trans l3).up, x3, q2, fun W4 m4 σ4 r4 l4 S4 V4 ko q4 => ⟨wipe_back (ko vs hjs), ?_⟩⟩
    obtain ⟨p4, h4⟩ := p3.le h3 l4
    refine ⟨W4, r4, m4, _, rfl, S4, V4, q4, fun W5 m5 b l5 S5 q5 => ?_⟩
    obtain ⟨p5, h5⟩ := p4.le h4 l5
    have l25 := ((l2.trans l3).trans l4).trans l5
    have x5 := x2.up ((l3.trans l4).trans l5).up
    cases b with
    | false => exact ⟨W5, m5, xs, acc, rfl, l25, S5, p5, h5, x5, q5⟩
    | true =>
      rw [if_pos rfl] at q5 ⊢
      refine ⟨W5, r4, m5, _, rfl, S5, V4.up l5.up, q5, fun W6 m6 src1 J1 l6 S6 so1 ⟨hz, q6⟩ => ?_⟩
      obtain ⟨Gd1, Y1, wk1, stay1, yld1⟩ := so1.ok
      obtain ⟨p6, h6⟩ := p5.le h5 l6
      have l26 := l25.trans l6
      refine walk_it wk1 (fun j H' => ∃ W7 m7 xs7 acc7, W7.H = H' ∧ Up W6 W7 ∧ Le W1 W7 ∧ Sim X.K W7 m7 ∧ Priv W7 p ∧ W7.H p = some (.lst xs7) ∧ DAll X.K W7 xs7 acc7 ∧ acc7.length ≤ acc.length + j ∧
          dcomp src1.guard g1 tt1 te (dwipe r4 vs1) (fun acc' m5 => dcomp2 src.guard g tt wi1 g1 tt1 te (dwipe r vs) vs1 (fun acc m2 => F (.lst acc) m2) (src.items.drop (i + 1)) acc' m5) (src1.items.drop j) acc7 m7) ?_ ?_ ?_ ?_
      · exact ⟨W6, m6, xs, acc, rfl, .refl _, l26, S6, p6, h6, x5.up l6.up, Nat.le_refl _, q6⟩
      · rintro j H' hj ⟨W7, m7, xs7, acc7, rfl, u7, l7, S7, p7, h7, x7, ha7, q7⟩
        refine stay1 W7 m7 u7 S7 ?_
        cases hd : src1.items.drop j with
        | nil => rw [hd] at q7; exact q7.1
        | cons x ys => rw [hd] at q7; exact q7.1
      · rintro j x1 H' H'' hlt1 ⟨W7, m7, xs7, acc7, rfl, u7, l7, S7, p7, h7, x7, ha7, q7⟩ y1
        rw [List.drop_eq_getElem_cons hlt1] at q7
        obtain ⟨gd1, q7⟩ := q7
        obtain ⟨W8, d1, rfl, l8, S8, hd1, x8⟩ := yld1 W7 m7 j x1 H'' u7 S7 gd1 hlt1 y1
        rw [List.getElem?_eq_getElem hlt1] at hd1
        cases hd1
        obtain ⟨p8, h8⟩ := p7.le h7 l8
        have u48 := ((l5.up.trans l6.up).trans u7).trans l8.up
        refine ⟨W8, dwipe r4 vs1, m7, _, _, rfl, S8, (V4.wipe vs1).up u48, x8, q7, fun W9 m9 σ9 r9 l9 S9 V9 ko9 q9 => ⟨wipe_back (ko9 vs1 hjs1), ?_⟩⟩
        obtain ⟨p9, h9⟩ := p8.le h8 l9
        refine ⟨W9, r9, m9, _, rfl, S9, V9, q9, fun Wa ma b1 la Sa qa => ?_⟩
        obtain ⟨pa, ha⟩ := p9.le h9 la
        have l7a := ((l8.trans l9).trans la)
        have xa := x7.up l7a.up
        cases b1 with
        | false => exact ⟨Wa, ma, xs7, acc7, rfl, u7.trans l7a.up, l7.trans l7a, Sa, pa, ha, xa, by omega, qa⟩
        | true =>
          rw [if_pos rfl] at qa ⊢
          refine ⟨Wa, r9, ma, _, rfl, Sa, V9.up la.up, qa, fun Wb mb vb db lb Sb xb qb => ?_⟩
          obtain ⟨pb, hb⟩ := pa.le ha lb
          have lz := l7a.trans lb
          refine ⟨xs7, hb, by rw [x7.length]; omega, ⟨Wb.S, Wb.io, upd Wb.H p (.lst (xs7 ++ [vb]))⟩, mb, xs7 ++ [vb], acc7 ++ [db], rfl, (u7.trans lz.up).trans (Up.off pb), (l7.trans lz).off hp, Sb.off pb, pb.off, upd_same, ?_, by simp; omega, qb⟩
          exact ((xa.up lb.up).up (Up.off pb)).append (.cons (xb.up (Up.off pb)) .nil)
      · rintro H' ⟨W7, m7, xs7, acc7, rfl, u7, l7, S7, p7, h7, x7, ha7, q7⟩
        rw [List.drop_length] at q7
        exact ⟨W7, m7, xs7, acc7, rfl, l7, S7, p7, h7, x7, q7.2⟩
  · rintro H' ⟨W2, m2, xs, acc, rfl, l2, S2, p2, h2, x2, q2⟩
    rw [List.drop_length] at q2
    obtain ⟨l3, S3, u3⟩ := S2.settleP l2 hp p2 (by rw [h2]; rfl)
    exact q ⟨fun b => W2.S b ∨ b = p, W2.io, W2.H⟩ m2 _ _ (l1.trans l3) S3 (.lst (.inr rfl) h2 (x2.up u3)) q2.2
theorem de_lc2 {elt tg iter tg1 iter1 : Expr} {ifs ifs1 : List Expr} {scope : Scope} {own : List (Str × Nat)} {vs1 : List Nat} {wi wi1 : WI} {js js1 : List Nat} {g g1 : WG} {tt tt1 : WT} {te : WE} {pos : Pos} (hc : X.calm = true) (hN : X.N.Nodup) (hi : DI X tg iter wi) (ok : BlkOk X.N X.env.scope scope own) (hv : ∀ i ∈ vs1, i ∈ own.map (·.2))
    (hg : ∀ (s : Shared) (H : Hp) (C : Addr) (cl : List (Str × Addr)) (fp : List Addr), DG (X.blk s H scope (compEnvC scope cl C X.env) fp) tg js g) (ht : ∀ (s : Shared) (H : Hp) (C : Addr) (cl : List (Str × Addr)) (fp : List Addr), DTs (X.blk s H scope (compEnvC scope cl C X.env) fp) ifs tt)
    (hi1 : ∀ (s : Shared) (H : Hp) (C : Addr) (cl : List (Str × Addr)) (fp : List Addr), DI (X.blk s H scope (compEnvC scope cl C X.env) fp) tg1 iter1 wi1)
    (hg1 : ∀ (s : Shared) (H : Hp) (C : Addr) (cl : List (Str × Addr)) (fp : List Addr), DG (X.blk s H scope (compEnvC scope cl C X.env) fp) tg1 js1 g1) (ht1 : ∀ (s : Shared) (H : Hp) (C : Addr) (cl : List (Str × Addr)) (fp : List Addr), DTs (X.blk s H scope (compEnvC scope cl C X.env) fp) ifs1 tt1)
    (he : ∀ (s : Shared) (H : Hp) (C : Addr) (cl : List (Str × Addr)) (fp : List Addr), DE (X.blk s H scope (compEnvC scope cl C X.env) fp) elt te) (hjs : ∀ j ∈ js, j ∈ own.map (·.2) := by decide) (hjs1 : ∀ j ∈ js1, j ∈ vs1 := by decide)
    (hs : ∀ x, foldedSetIterable iter X.env x = pure x := by intro _; rfl) (hs1 : ∀ env x, foldedSetIterable iter1 env x = pure x := by intro _ _; rfl) :
    DE X (.ListComp elt [⟨tg, iter, ifs, 0⟩, ⟨tg1, iter1, ifs1, 0⟩] scope pos) (dLc2 wi g tt wi1 g1 tt1 te (own.map (·.2)) vs1) :=
  PE.imp (pe_lc2 hc hN hi ok hv hg ht hi1 hg1 ht1 he hs hs1) fun _ _ _ h => lc2F hjs hjs1 h
end
/-! ### a dict displayed -/
def dPairs : List (WE × WE) → Ro → Mu → (List (Dat × Dat) → Mu → Prop) → Prop
  | [], _, m, F => F [] m
  | (wk, wv) :: t, r, m, F => wk r m fun d m1 => wv r m1 fun e m2 => dPairs t r m2 fun ps m3 => F ((d, e) :: ps) m3
structure PAll (K : PySem.W.Frag) (W : Wd) (vs : List (V × V)) (ds : List (Dat × Dat)) : Prop where
  ks : DAll K W (vs.map (·.1)) (ds.map (·.1))
  xs : DAll K W (vs.map (·.2)) (ds.map (·.2))
theorem pairs_lift {K : PySem.W.Frag} {σ : L2.St} {r : Ro} : ∀ {ws : List (WE × WE)} {W : Wd} {m : Mu} {F : List (Dat × Dat) → Mu → Prop} {Q : List (V × V) → Hp → Prop}, Sim K W m → Env K W σ r → dPairs ws r m F →
    (∀ W' m' vs ds, Le W W' → Sim K W' m' → PAll K W' vs ds → F ds m' → Q vs W'.H) → tPairs (ws.map fun p => (liftE K p.1, liftE K p.2)) σ W.H Q
  | [], W, m, F, Q, S, V, h, q => q W m [] [] (.refl W) S ⟨.nil, .nil⟩ h
  | (wk, wv) :: t, W, m, F, Q, S, V, h, q => by
    refine ⟨W, r, m, _, rfl, S, V, h, fun W1 m1 v1 d1 l1 S1 x1 q1 => ⟨W1, r, m1, _, rfl, S1, V.up l1.up, q1, fun W2 m2 v2 d2 l2 S2 x2 q2 => ?_⟩⟩
    exact pairs_lift S2 (V.up (l1.trans l2).up) q2 fun W3 m3 vs ds l3 S3 P q3 => q W3 m3 ((v1, v2) :: vs) ((d1, d2) :: ds) ((l1.trans l2).trans l3) S3 ⟨.cons (x1.up (l2.trans l3).up) P.ks, .cons (x2.up l3.up) P.xs⟩ q3
abbrev DPs (X : Cx) (pos : Pos) (keys : List (Option Expr)) (values : List Expr) (ws : List (WE × WE)) : Prop := PPs X pos keys values (ws.map fun p => (liftE X.K p.1, liftE X.K p.2))
theorem putK_new {κ β : Type} [DecidableEq κ] {v : V} {k : κ} : ∀ {kvs : List (κ × V)}, k ∉ kvs.map (·.1) → putK kvs k v = kvs ++ [(k, v)] := by
  intro kvs h
  unfold putK
  rw [if_neg]
  intro z
  obtain ⟨p, hp, e⟩ := List.any_eq_true.mp z
  exact h (List.mem_map.mpr ⟨p, hp, of_decide_eq_true e⟩)
theorem mergeK_new : ∀ {more kvs : List (Key × V)}, ((kvs ++ more).map (·.1)).Nodup → mergeK kvs more = kvs ++ more
  | [], kvs, _ => by simp [mergeK]
  | (k, v) :: more, kvs, h => by
    show mergeK (putK kvs k v) more = _
    have h1 : k ∉ kvs.map (·.1) := fun z => by
      rw [List.map_append, List.nodup_append] at h
      exact h.2.2 k z k (by simp) rfl
    rw [putK_new (β := V) h1]
    have e : kvs ++ (k, v) :: more = (kvs ++ [(k, v)]) ++ more := by simp
    rw [e] at h ⊢
    exact mergeK_new h
theorem pairs_keys : ∀ {vs : List (V × V)} {ks : List Key}, vs.map (·.1) = ks.map kV → ∃ kvs : List (Key × V), vs = kvs.map (fun kv => (kV kv.1, kv.2)) ∧ kvs.map (·.1) = ks ∧ kvs.map (·.2) = vs.map (·.2)
  | [], [], _ => ⟨[], rfl, rfl, rfl⟩
  | [], _ :: _, h => by cases h
  | _ :: _, [], h => by cases h
  | (a, b) :: vs, k :: ks, h => by
    simp only [List.map_cons, List.cons.injEq] at h
    obtain ⟨kvs, h1, h2, h3⟩ := pairs_keys h.2
    exact ⟨(k, b) :: kvs, by simp [h.1, h1], by simp [h2], by simp [h3]⟩
/-- from a world in which p is not yet there to one in which it stands, all else as from the world in which it was laid -/
theorem Le.skip {W W2 : Wd} {p : Addr} {o o' : HO} (hp : W.H p = none) (a : Le ⟨W.S, W.io, upd W.H p o⟩ W2) : Le W ⟨W2.S, W2.io, upd W2.H p o'⟩ := by
  refine ⟨a.sS, a.sI, fun b u eb hb => ?_, fun b hb => ?_, fun n b z => ?_, fun b z => ?_, fun b xs eb => ?_⟩
  · show upd W2.H p _ b = some u
    have nb : b ≠ p := ne_of_none eb hp
    rw [upd_ne nb]
    exact a.keep b u (by show upd W.H p _ b = some u; rw [upd_ne nb]; exact eb) hb
  · show (upd W2.H p _ b).isSome = true
    by_cases nb : b = p
    · rw [nb, upd_same]; rfl
    · rw [upd_ne nb]
      exact a.there b (by show (upd W.H p _ b).isSome = true; rw [upd_ne nb]; exact hb)
  · rcases a.nI n b z with y | y
    · exact .inl y
    · have y' : upd W.H p o b = none := y
      by_cases nb : b = p
      · rw [nb, upd_same] at y'; cases y'
      · rw [upd_ne nb] at y'; exact .inr y'
  · rcases a.nS b z with y | y | y
    · exact .inl y
    · have y' : upd W.H p o b = none := y
      by_cases nb : b = p
      · rw [nb, upd_same] at y'; cases y'
      · rw [upd_ne nb] at y'; exact .inr (.inl y')
    · exact .inr (.inr y)
  · show upd W2.H p _ b = _
    have nb : b ≠ p := ne_of_none eb hp
    rw [upd_ne nb]
    exact a.kT b xs (by show upd W.H p _ b = _; rw [upd_ne nb]; exact eb)
def dDict (ws : List (WE × WE)) : WE := fun r m F => dPairs ws r m fun ps m1 => (∃ ks, keysD (ps.map (·.1)) = some ks ∧ ks.Nodup) ∧ ps.length ≤ 15 ∧ F (.dct ps) m1
section
variable {X : Cx} {pos : Pos}
theorem dps_nil : DPs X pos [] [] [] := pps_nil
theorem dps_cons {k v : Expr} {ks : List (Option Expr)} {vs : List Expr} {wk wv : WE} {ws : List (WE × WE)} (hk : DE X k wk) (hv : DE X v wv) (h : DPs X pos ks vs ws) : DPs X pos (some k :: ks) (v :: vs) ((wk, wv) :: ws) := pps_cons hk hv h
theorem de_dict {keys : List (Option Expr)} {values : List Expr} {ws : List (WE × WE)} (h : DPs X pos keys values ws) (hall : keys.all (·.isSome) = true := by rfl) (hl : keys.length = values.length := by rfl) (h0 : keys ≠ [] := by exact fun z => nomatch z) (h15 : keys.length ≤ 15 := by decide) :
    DE X (.Dict keys values pos) (dDict ws) := PE.imp (pe_disp h hall hl h0 h15) fun σ H Q ⟨W, r, m, F, e, S, V, h, k⟩ => by
  subst e
  intro p hp
  have pr := S.priv hp
  have S0 : Sim X.K ⟨W.S, W.io, upd W.H p (.dK [])⟩ m := S.off pr
  refine pairs_lift (W := ⟨W.S, W.io, upd W.H p (.dK [])⟩) S0 (V.up (Up.off pr)) h ?_
  rintro W2 m2 vs ds l2 S2 P ⟨⟨ks, hks, hnd⟩, h15', q2⟩
  obtain ⟨p2, h2⟩ := (pr.off (o := .dK [])).le (o := .dK []) upd_same l2
  obtain ⟨e1, e2⟩ := keysD_of P.ks hks
  obtain ⟨kvs, rfl, e4, e5⟩ := pairs_keys e1
  have hlen : kvs.length = ds.length := by
    have z1 := congrArg List.length e2
    have z2 := congrArg List.length e4
    simp only [List.length_map] at z1 z2
    omega
  refine ⟨h2, kvs, rfl, by omega, ?_⟩
  rw [mergeK_new (by simpa [e4] using hnd), List.nil_append]
  have S3 : Sim X.K ⟨W2.S, W2.io, upd W2.H p (.dK kvs)⟩ m2 := S2.off p2
  obtain ⟨l4, S4, u4⟩ := S3.settleP (Le.skip hp l2) hp p2.off (by show (upd W2.H p _ p).isSome = true; rw [upd_same]; rfl)
  refine k ⟨fun b => W2.S b ∨ b = p, W2.io, upd W2.H p (.dK kvs)⟩ m2 _ _ l4 S4 (.dctK (kvs := kvs) (.inr rfl) (by show upd W2.H p _ p = _; rw [upd_same]) ?_ ?_) q2
  · rw [e2, ← e4, List.map_map]; rfl
  · have := P.xs
    rw [← e5] at this
    exact this.up ((Up.off p2).trans u4)
/-! ### d[k] -/
def dctD (m : Mu) : Dat → Option (List (Dat × Dat))
  | .dct ds => some ds
  | .ref n => match m n with
    | some (.dcK ds) => some (ds.map fun p => (datK p.1, p.2))
    | some (.dcT ds) => some (ds.map fun p => (datT p.1, p.2))
    | _ => none
  | _ => none
def lookD (ds : List (Dat × Dat)) (k : Key) : Option Dat := (ds.find? fun p => decide (keyD p.1 = some k)).map (·.2)
/-- the key that d is, and that all of the dict's are -/
def dDget (wd wk : WE) : WE := fun r m F => wd r m fun d m1 => wk r m1 fun e m2 => ∃ ds k v, dctD m2 d = some ds ∧ keyD e = some k ∧ (∃ ks, keysD (ds.map (·.1)) = some ks) ∧ lookD ds k = some v ∧ F v m2
theorem keyD_datK (k : Key) : keyD (datK k) = some k := by cases k <;> rfl
theorem datT_not {k : List Key} : keyD (datT k) = none := rfl
theorem look_at {K : PySem.W.Frag} {W : Wd} {k : Key} {d : Dat} : ∀ {kvs : List (Key × V)} {ds : List (Dat × Dat)}, kvs.map (fun p => datK p.1) = ds.map (·.1) → DAll K W (kvs.map (·.2)) (ds.map (·.2)) → lookD ds k = some d → ∃ v, valV kvs k = some v ∧ D K W v d
  | [], [], _, _, e => by cases e
  | [], _ :: _, h, _, _ => by cases h
  | _ :: _, [], h, _, _ => by cases h
  | (a, v) :: kvs, (b, d') :: ds, h, x, e => by
    simp only [List.map_cons, List.cons.injEq] at h
    cases x with
    | cons x1 x2 =>
      obtain ⟨h1, h2⟩ := h
      unfold lookD at e
      rw [List.find?_cons] at e
      by_cases q : a = k
      · subst q
        rw [← h1] at e
        simp only [keyD_datK, decide_true, Option.map_some] at e
        cases e
        exact ⟨v, valV_pos rfl, x1⟩
      · have q' : decide (keyD (b, d').1 = some k) = false := by
          refine decide_eq_false ?_
          show ¬ keyD b = some k
          rw [← h1, keyD_datK]
          intro z; exact q (Option.some.inj z)
        rw [q'] at e
        obtain ⟨u, e1, e2⟩ := look_at h2 x2 e
        exact ⟨u, (valV_neg q).trans e1, e2⟩
theorem keysD_T {K : PySem.W.Frag} {W : Wd} {kvs : List (List Key × V)} {ds : List (Dat × Dat)} {ks : List Key} (h : kvs.map (fun p => datT p.1) = ds.map (·.1)) (e : keysD (ds.map (·.1)) = some ks) : ds = [] := by
  cases ds with
  | nil => rfl
  | cons p ds =>
    cases kvs with
    | nil => cases h
    | cons q kvs =>
      simp only [List.map_cons, List.cons.injEq] at h
      rw [List.map_cons, ← h.1] at e
      simp [keysD, datT, keyD] at e
theorem D.dctv {K : PySem.W.Frag} {W : Wd} {m : Mu} {v : V} {d : Dat} {ds : List (Dat × Dat)} (S : Sim K W m) (h : D K W v d) (e : dctD m d = some ds) : ∃ a, v = .ref a ∧ ((∃ kvs : List (Key × V), W.H a = some (.dK kvs) ∧ kvs.map (fun p => datK p.1) = ds.map (·.1) ∧ DAll K W (kvs.map (·.2)) (ds.map (·.2))) ∨
      (∃ kvs : List (List Key × V), W.H a = some (.dT kvs) ∧ kvs.map (fun p => datT p.1) = ds.map (·.1) ∧ DAll K W (kvs.map (·.2)) (ds.map (·.2)))) := by
  cases d with
  | dct es =>
    cases e
    cases h with
    | dctK _ h1 h2 h3 => exact ⟨_, rfl, .inl ⟨_, h1, h2, h3⟩⟩
    | dctT _ h1 h2 h3 => exact ⟨_, rfl, .inr ⟨_, h1, h2, h3⟩⟩
  | ref n =>
    simp only [dctD] at e
    split at e
    · rename_i es hm
      cases e
      obtain ⟨a, rfl⟩ : ∃ a, v = .ref a := by cases h; exact ⟨_, rfl⟩
      obtain ⟨⟨kvs, h1, h2, h3⟩, _⟩ := D.cell S h hm
      refine ⟨a, rfl, .inl ⟨kvs, h1, ?_, by rw [List.map_map]; exact h3⟩⟩
      rw [List.map_map]
      show kvs.map (datK ∘ Prod.fst) = es.map (datK ∘ Prod.fst)
      rw [← List.map_map, h2, List.map_map]
    · rename_i es hm
      cases e
      obtain ⟨a, rfl⟩ : ∃ a, v = .ref a := by cases h; exact ⟨_, rfl⟩
      obtain ⟨⟨kvs, h1, h2, h3⟩, _⟩ := D.cell S h hm
      refine ⟨a, rfl, .inr ⟨kvs, h1, ?_, by rw [List.map_map]; exact h3⟩⟩
      rw [List.map_map]
      show kvs.map (datT ∘ Prod.fst) = es.map (datT ∘ Prod.fst)
      rw [← List.map_map, h2, List.map_map]
    · cases e
  | _ => cases e
theorem de_dget {o i : Expr} {wd wk : WE} (hu : X.A.units + 64 < cLine) (hd : DE X o wd) (hk : DE X i wk) (hs : NoSl i := by exact fun _ _ => rfl) : DE X (.Subscript o i pos) (dDget wd wk) :=
  PE.imp (pe_dget (by omega) hd hk hs) fun σ H Q ⟨W, r, m, F, e, S, V, h, k⟩ => ⟨W, r, m, _, e, S, V, h, fun W1 m1 v1 d1 l1 S1 x1 q1 => ⟨W1, r, m1, _, rfl, S1, V.up l1.up, q1, fun W2 m2 v2 d2 l2 S2 x2 ⟨ds, ky, v, h1, h2, ⟨ks, h3⟩, h4, q2⟩ => by
    obtain ⟨rfl, rfl⟩ := keyD_of x2 h2
    obtain ⟨a, rfl, alt⟩ := (x1.up l2.up).dctv S2 h1
    rcases alt with ⟨kvs, g1, g2, g3⟩ | ⟨kvs, g1, g2, g3⟩
    · obtain ⟨u, e1, e2⟩ := look_at g2 g3 h4
      exact ⟨a, u, rfl, by rw [← e1]; exact DGet.k g1, k W2 m2 _ _ (l1.trans l2) S2 e2 q2⟩
    · rw [keysD_T (K := X.K) (W := W2) g2 h3] at h4
      cases h4⟩⟩
end
/-! ### static methods: C.m(e, ..) -/
/-- C.m is a static method: its record at p, its def at f -/
structure SMet (K : PySem.W.Frag) (C : Addr) (m : Str) (f : Addr) : Prop where
  rd : PySem.W.readsIn K C (.type "type") = true
  ga : PySem.W.specialIn K (.ref C) "__getattribute__" = some (some (.builtin "type.__getattribute__"))
  at_ : ∃ p rest, PySem.W.findCls K (.ref C) (.type "type") m = some (.get (.builtin "staticmethod.__get__") (.ref p) .none (.ref C)) ∧ PySem.W.recIn K p "staticmethod" = some (.ref f :: rest)
section
variable {X : Cx} {k : Nat} {f C : Addr} {fd : FuncData} {ps : List Str} {sp : Spec} {x nm : Str} {p pos apos : Pos} {e : Expr} {es : List Expr} {w : WA}
theorem getstat_ok {pins : List (Addr × Obj)} {σ : L2.St} {H : Hp} {s : Shared} {A : Around} {E : Value → Shared → Prop} {b : Bool} {Q : Value → Shared → Prop} (I : L2.Inv X pins σ H s) (c : SMet X.K C nm f)
    (h : ∀ s', L2.Inv X pins σ H s' → Q (.ref f) s') : wpAny (model X.prog X.w) A (getAttr (.ref C) nm b) Q E s := by
  obtain ⟨q, rest, h1, h2⟩ := c.at_
  refine PySem.W.cls_bind I.kIn c.rd h1 ?_
  refine wpAny_call (PySem.W.sm_get (s := { s with toks := s.toks + 1 }) I.kIn h2 (PySem.W.handed_on rfl ?_))
  exact h _ (I.tok _)
theorem de_stat {pl : Sem Bool} (c : SMet X.K C nm f) (F : DO X.prog X.w X.K X.mg X.base k f ps sp) (hr : Room k X.A) (hg : Gl X x) (hm : X.mg x = some (.ref C)) (ha : DA X (e :: es) w)
    (hdb : (x == ("__debug__" : Str)) = false := by decide) (hst : starEach (e :: es) X.env = (false, eval e X.env) :: starEach es X.env := by rfl) (hpl : (backTo pos (starEach es X.env)).any (·.1) = false := by rfl)
    (ht : eval (.Call (.Attribute (.Name x p) nm apos) (e :: es) [] pos) X.env = (do
      let ov ← eval (.Name x p) X.env
      standAt apos.atName
      let (f, first) ← holding [ov] (getMethod ov nm pl)
      callWith pos f first (backTo pos (starEach (e :: es) X.env)) (backToKw pos (keywordEach [] X.env))) := by rfl) :
    DE X (.Call (.Attribute (.Name x p) nm apos) (e :: es) [] pos) (dCall sp X0 w) := by
  obtain ⟨fd, hb, F2⟩ := F.ex
  refine ⟨fun pins s σ H Q I ⟨W, r, m, G, e0, S, V, h, q⟩ => ?_⟩
  refine PySem.W.methodCall_KW (pl := pl) (thn ((pe_glob (v := .ref C) (pos := p) hg hm rfl hdb).run pins s σ H (fun v H1 => v = .ref C ∧ H1 = H) I ⟨rfl, rfl⟩) fun u s1 ⟨v, H1, I1, rx, ex, eH⟩ => ?_) ht
  subst ex
  rw [eH] at I1
  obtain rfl : u = Value.ref C := rx
  refine PySem.W.method_cls I1.kIn c.ga (getstat_ok I1 c fun s2 I2 => ?_)
  refine PySem.W.callWith_K (h₀ := X.base) I2.ok.mod.kin F.kp (thn (ha.run pos pins s2 σ H (fun vs H2 => dSp X.K sp vs H2 Q E0) I2 ⟨W, r, m, _, e0, S, V, h, fun W1 m1 vs ds l1 S1 x1 q1 => call_dsp (E := E0) (σ := σ) (r := r) (m := m) (H1 := H) l1 S1 x1 q1 q .no⟩) fun us s3 ⟨vs, H2, I3, rv, q2⟩ => ⟨I3.kIn, ?_⟩) hst hpl
  have z := run_fn (ds := []) (dvs := []) (E := E0) F2 hr hb .nil pass0 I3 rv (by rw [List.append_nil]; exact q2)
  exact z
end
/-! ### a promise that is never asked -/
theorem dfoF {P : Program} {wd : World} {K : PySem.W.Frag} {mg : Str → Option Value} {base : Heap} {k : Nat} {f : Addr} {x qual : Str} {st : Stmt} {ps : List Str} {sp : Spec} (F : FnAt K x qual st ps f) (no : ∀ ds m G Z, ¬ sp ds m G Z) : DO P wd K mg base k f ps sp := by
  obtain ⟨fd, F1, F2⟩ := F
  refine ⟨fun ds m G Z h => (no _ _ _ _ h).elim, ⟨fd, F2, ?_⟩, F1.kp⟩
  refine ⟨fun vs H Q E ⟨W, m, ds, G, Z, _, _, _, q, _⟩ => (no _ _ _ _ q).elim, fun A outer s H args us vs Q E hr he hb hv ⟨W, m, ds, G, Z, _, _, _, q, _⟩ => (no _ _ _ _ q).elim⟩
theorem dffF {P : Program} {wd : World} {K : PySem.W.Frag} {mg : Str → Option Value} {base : Heap} {k : Nat} {f : Addr} {x qual : Str} {st : Stmt} {ps : List Str} {sp : Spec} (F : At K mg x qual st ps f) (no : ∀ ds m G Z, ¬ sp ds m G Z) : DF P wd K mg base CX0 k f ps sp := (dfoF F.fn no).df
section
variable {r : Ro} {m : Mu} {F : KD} {wk wv : WE} {d e v : Dat} {ds : List (Dat × Dat)} {k : Key} {ks : List Key} {ws : List (WE × WE)} {P : Prop}
theorem p_ninT {a : Dat} {ds : List Dat} (h1 : isFlat a = true) (h2 : ds.all isFlat = true) (h : F (.bl (!(ds.any fun e => eqF e a))) m) : rInF true a (.tup ds) m F := ⟨ds, .inl rfl, h1, h2, h⟩
theorem u_dget (h : wk r m fun d m1 => wv r m1 fun e m2 => ∃ ds k v, dctD m2 d = some ds ∧ keyD e = some k ∧ (∃ ks, keysD (ds.map (·.1)) = some ks) ∧ lookD ds k = some v ∧ F v m2) : dDget wk wv r m F := h
theorem p_dget {Q : Dat → Prop} (h1 : dctD m d = some ds) (h2 : keyD e = some k) (h3 : keysD (ds.map (·.1)) = some ks) (h4 : lookD ds k = some v) (h : Q v) : ∃ ds k v, dctD m d = some ds ∧ keyD e = some k ∧ (∃ ks, keysD (ds.map (·.1)) = some ks) ∧ lookD ds k = some v ∧ Q v := ⟨ds, k, v, h1, h2, ⟨ks, h3⟩, h4, h⟩
theorem u_dict (h : dPairs ws r m fun ps m1 => (∃ ks, keysD (ps.map (·.1)) = some ks ∧ ks.Nodup) ∧ ps.length ≤ 15 ∧ F (.dct ps) m1) : dDict ws r m F := h
theorem u_pnil {F : List (Dat × Dat) → Mu → Prop} (h : F [] m) : dPairs [] r m F := h
theorem u_pcons {F : List (Dat × Dat) → Mu → Prop} (h : wk r m fun d m1 => wv r m1 fun e m2 => dPairs ws r m2 fun ps m3 => F ((d, e) :: ps) m3) : dPairs ((wk, wv) :: ws) r m F := h
theorem p_dkeys (h1 : keysD (ds.map (·.1)) = some ks) (h2 : ks.Nodup) (h3 : Nat.ble ds.length 15 = true) (h : P) : (∃ ks, keysD (ds.map (·.1)) = some ks ∧ ks.Nodup) ∧ ds.length ≤ 15 ∧ P := ⟨⟨ks, h1, h2⟩, Nat.le_of_ble_eq_true h3, h⟩
theorem u_lc2 {wi wi1 : WI} {g g1 : WG} {tt tt1 : WT} {te : WE} {vs vs1 : List Nat} (h : wi r m fun src m1 => dcomp2 src.guard g tt wi1 g1 tt1 te (dwipe r vs) vs1 (fun acc m2 => F (.lst acc) m2) src.items [] m1) : dLc2 wi g tt wi1 g1 tt1 te vs vs1 r m F := h
theorem u_lcM {wi : WI} {g : WG} {t : WT} {wa : WE} {vs : List Nat} (h : wi r m fun src m1 => src.items.length < sizeLine ∧ dcomp src.guard g t wa (dwipe r vs) (fun acc m2 => ∀ n, m2 n = none → F (.ref n) (m2.set n (.lst acc))) src.items [] m1) : dLcM wi g t wa vs r m F := h
end
end DL

set_option maxHeartbeats 1000000
/-! sum of a list of lists; sum of ints; d.get(k, x); a written dict of the module with text keys. -/
namespace DL
open PySem PySem.Spec PyProof.Rows L2
def catF (L : Nat → List Value) : Nat → Nat → List Value
  | _, 0 => []
  | i, k + 1 => L i ++ catF L (i + 1) k
theorem sub_list_str' : isSubtype (.type "list") (.type "str") = pure false := by rw [isSubtype_type]; kernel_rfl
theorem sub_list_bytes' : isSubtype (.type "list") (.type "bytes") = pure false := by rw [isSubtype_type]; kernel_rfl
theorem sub_list_bytearray' : isSubtype (.type "list") (.type "bytearray") = pure false := by rw [isSubtype_type]; kernel_rfl
section
variable {prog : Program} {w : World} {A : Around} {R : Result → Shared → Prop} {I ax : Addr} {items : Array Value}
theorem sum_loopL (hh : A.in1.handled = none) (h0 : Heap) (hI : h0.objs.size ≤ I) (hne : ax ≠ I) (L : Nat → List Value) (hval : ∀ i v, items[i]? = some v → ∃ b k, v = .ref b ∧ IsL h0 b (L i).toArray k) (S : Addr) (hS : h0.objs.size ≤ S) (hSI : S ≠ I) (hSx : S ≠ ax) :
    ∀ (k i : Nat) (s : Shared) (t : Addr) (acc : List Value) (c m : Nat), items.size - i = k → i ≤ items.size → s.heap.IsListIter I ax i → s.heap.IsList ax items → (∀ b o, h0.get? b = some o → s.heap.get? b = some o) →
      IsL s.heap S #[.ref t] c → IsL s.heap t acc.toArray m → t ≠ S → t ≠ I → h0.objs.size ≤ s.heap.objs.size → acc.length + (catF L i k).length ≤ sizeLine →
      (∀ h' tk t' m', (∀ b o, h0.get? b = some o → h'.get? b = some o) → IsL h' t' (acc ++ catF L i k).toArray m' → ((k = 0 ∧ t' = t) ∨ h0.objs.size ≤ t') → R (.ok (.ret (.ref t'))) { s with heap := h', toks := tk }) →
      codeAny (model prog w) A (.builtin "sum.loop" ⟨[.ref I, .ref S, rawInt 2, rawInt 0], []⟩) R s := by
  have W := Walks.list (prog := prog) (w := w) (A := A.in1) hh I ax hne items
  intro k
  induction k with
  | zero =>
    intro i s t acc c m hk hi it hx keep hSl ht htS htI hs0 hz hR
    have hin : i = items.size := by omega
    subst hin
    refine codeAny_builtin F.entry_sum_loop ?_
    rw [Around.under_plainId F.plain_sum_loop _]
    show wpAny _ A.in1 (seqItems? (.ref S) >>= _) _ _ s
    refine wpAny_bind (wpAny_seqItems hSl rfl ?_)
    show wpAny _ A.in1 (tryCatch (pyNext (.ref I)) _ >>= _) _ _ s
    refine wpAny_bind (wpAny_tryCatch (W.done s _ _ ⟨it, hx⟩ fun h' tk hm => ?_))
    refine wpAny_pure (hR h' tk t m (fun b o e => hm b o (fun hb => ?_) (keep b o e)) ?_ (.inl ⟨rfl, rfl⟩))
    · simp only [List.mem_singleton] at hb
      subst hb
      exact absurd (Heap.lt_size e) (Nat.not_lt.mpr hI)
    · show IsL h' t (acc ++ []).toArray m
      rw [List.append_nil]
      exact hm t _ (fun hb => htI (by simpa using hb)) ht
  | succ k ih =>
    intro i s t acc c m hk hi it hx keep hSl ht htS htI hs0 hz hR
    have hlt : i < items.size := by omega
    have hz2 : acc.length + ((L i).length + (catF L (i + 1) k).length) ≤ sizeLine := by
      have : (catF L i (k + 1)).length = (L i).length + (catF L (i + 1) k).length := by
        show (L i ++ catF L (i + 1) k).length = _
        rw [List.length_append]
      omega
    refine codeAny_builtin F.entry_sum_loop ?_
    rw [Around.under_plainId F.plain_sum_loop _]
    show wpAny _ A.in1 (seqItems? (.ref S) >>= _) _ _ s
    refine wpAny_bind (wpAny_seqItems hSl rfl ?_)
    show wpAny _ A.in1 (tryCatch (pyNext (.ref I)) _ >>= _) _ _ s
    refine wpAny_bind (wpAny_tryCatch (W.item i s _ _ hlt ⟨it, hx⟩ fun v h' tk hP st' hm => ?_))
    obtain ⟨b, kb, rfl, hb⟩ := hval i v hP
    have keep1 : ∀ b o, h0.get? b = some o → h'.get? b = some o := fun b o e => hm b o (fun hb => by
      simp only [List.mem_singleton] at hb
      subst hb
      exact absurd (Heap.lt_size e) (Nat.not_lt.mpr hI)) (keep b o e)
    have hS' : IsL h' S #[.ref t] c := hm S _ (fun hb => hSI (by simpa using hb)) hSl
    have ht' : IsL h' t acc.toArray m := hm t _ (fun hb => htI (by simpa using hb)) ht
    have hb' : IsL h' b (L i).toArray kb := keep1 b _ hb
    show wpAny _ A.in1 ((holding [Value.ref b] (binaryOp .Add (.ref t) (.ref b))).attempt >>= _) _ _ _
    refine wpAny_bind (wpAny_attempt (wpAny_holding (PySem.P.add_list ht' hb' ?_ (by rw [List.size_toArray, List.size_toArray]; omega))))
    have e1 : acc.toArray ++ (L i).toArray = (acc ++ L i).toArray := by simp
    rw [e1]
    have hS2 : IsL (h'.push { cls := .type "list", data := .seq (acc ++ L i).toArray }) S #[.ref t] c := hS'.push _
    show wpAny _ A.in1 (updateSeq S (fun _ => #[.ref h'.objs.size]) >>= _) _ _ _
    refine wpAny_bind (wpAny_updateSeq hS2 rfl ?_)
    refine wpAny_bind (wpAny_letGo ?_)
    have hSlt : S < h'.objs.size := Heap.lt_size hS'
    have hIlt : I < h'.objs.size := by obtain ⟨_, e, _⟩ := st'.1; exact Heap.lt_size e
    have hxlt : ax < h'.objs.size := by obtain ⟨_, e, _⟩ := st'.2; exact Heap.lt_size e
    have hb0 : h0.objs.size ≤ h'.objs.size := Nat.le_of_lt (Nat.lt_of_le_of_lt hS hSlt)
    have other : ∀ b o, b ≠ S → h'.get? b = some o → ((h'.push { cls := .type "list", data := .seq (acc ++ L i).toArray }).update S (Obj.mapSeq fun _ => #[.ref h'.objs.size])).get? b = some o := fun b o hb e =>
      (Heap.get?_update_other _ _ (fun h : S = b => hb h.symm)).trans (Heap.get?_push_of_some _ e)
    refine wpAny_bind (wpAny_updateSeq (hS2.update _) rfl ?_)
    have other2 : ∀ b o, b ≠ S → h'.get? b = some o → (((h'.push { cls := .type "list", data := .seq (acc ++ L i).toArray }).update S (Obj.mapSeq fun _ => #[.ref h'.objs.size])).update S (Obj.mapSeq fun _ => #[.ref h'.objs.size])).get? b = some o := fun b o hb e =>
      (Heap.get?_update_other _ _ (fun h : S = b => hb h.symm)).trans (other b o hb e)
    refine wpAny_pure ⟨plainId_quiet F.plain_sum_loop _, ih (i + 1) _ h'.objs.size (acc ++ L i) _ 0 (by omega) hlt (st'.1.at fun o e => other2 I o (fun h => hSI h.symm) e) (st'.2.at fun o e => other2 ax o (fun h => hSx h.symm) e)
      (fun b o e => other2 b o (fun h => absurd (Heap.lt_size e) (Nat.not_lt.mpr (h ▸ hS))) (keep1 b o e)) ((hS2.update _).update _) ?_ (Nat.ne_of_gt hSlt) (Nat.ne_of_gt hIlt) ?_ (by rw [List.length_append]; omega) fun h2 tk2 t2 m2 q1 q2 q3 => ?_⟩
    · exact IsL.update_other (IsL.update_other (IsL.new h' _) (Nat.ne_of_lt hSlt) _) (Nat.ne_of_lt hSlt) _
    · show h0.objs.size ≤ _
      simp only [Heap.size_push, Heap.size_update]
      exact Nat.le_succ_of_le hb0
    · refine hR h2 tk2 t2 m2 q1 ?_ (.inr ?_)
      · have e2 : acc ++ catF L i (k + 1) = acc ++ L i ++ catF L (i + 1) k := by
          show acc ++ (L i ++ _) = _
          rw [List.append_assoc]
        rw [e2]; exact q2
      · rcases q3 with ⟨_, rfl⟩ | q3
        · exact hb0
        · exact q3
theorem args_sum2 (a b : Value) : argsOk "sum" ⟨[a, b], []⟩ := by unfold argsOk; kernel_rfl
theorem call_sumL {prog : Program} {w : World} {A : Around} {E : Value → Shared → Prop} {Q : Value → Shared → Prop} {s : Shared} {l t : Addr} {its acc : List Value} {m : Nat} (hh : A.in1.handled = none) (L : Nat → List Value) (hl : s.heap.IsList l its.toArray)
    (hval : ∀ i v, its[i]? = some v → ∃ b k, v = .ref b ∧ IsL s.heap b (L i).toArray k) (ht : IsL s.heap t acc.toArray m) (hz : acc.length + (catF L 0 its.length).length ≤ sizeLine)
    (h : ∀ h' tk t' m', (∀ b o, s.heap.get? b = some o → h'.get? b = some o) → IsL h' t' (acc ++ catF L 0 its.length).toArray m' → ((its.length = 0 ∧ t' = t) ∨ s.heap.objs.size ≤ t') → Q (.ref t') { s with heap := h', toks := tk }) :
    wpAny (model prog w) A (call (.builtin "sum") [.ref l, .ref t]) Q E s := by
  refine call_function_tree F.kind_sum F.plain_sum F.entry_sum (args_sum2 _ _) ?_
  unfold Builtin.«sum»
  simp only [List.length_cons, List.length_nil]
  rw [if_neg (by decide)]
  refine wpAny_bind (wpAny_of_eq (show Builtin.Builtins.bindParams "sum" ["start"] 0 ⟨[.ref t], []⟩ = pure [some (.ref t)] from rfl) ?_)
  have hll : l < s.heap.objs.size := by obtain ⟨_, e, _⟩ := hl; exact Heap.lt_size e
  have htl : t < s.heap.objs.size := Heap.lt_size ht
  refine wpAny_bind (wpAny_pyIter_list hl ?_)
  refine wpAny_bind (wpAny_pure ?_)
  have ht1 : IsL (s.heap.push { cls := .type "list_iterator", data := .fields #[.ref l, .int 0 0] }) t acc.toArray m := ht.push _
  have hT : Shared.TypeIs { s with heap := s.heap.push { cls := .type "list_iterator", data := .fields #[.ref l, .int 0 0] } } (.ref t) "list" := ⟨_, ht1, rfl⟩
  simp only [List.forIn_cons, List.forIn_nil]
  refine wpAny_bind (wpAny_bind (wpAny_bind (wpAny_isInstance (T := "list") (b := false) hT sub_list_str' ?_)))
  simp only [Bool.false_eq_true, if_false]
  refine wpAny_pure (wpAny_bind (wpAny_bind (wpAny_isInstance (T := "list") (b := false) hT sub_list_bytes' ?_)))
  simp only [Bool.false_eq_true, if_false]
  refine wpAny_pure (wpAny_bind (wpAny_bind (wpAny_isInstance (T := "list") (b := false) hT sub_list_bytearray' ?_)))
  simp only [Bool.false_eq_true, if_false]
  refine wpAny_pure (wpAny_pure ?_)
  refine wpAny_bind (wpAny_newObj_type ?_)
  have e1 : (s.heap.push { cls := .type "list_iterator", data := .fields #[.ref l, .int 0 0] }).objs.size = s.heap.objs.size + 1 := Heap.size_push _ _
  have hlI : l ≠ s.heap.objs.size := Nat.ne_of_lt hll
  have htI : t ≠ s.heap.objs.size := Nat.ne_of_lt htl
  refine wpAny_pure ⟨plainId_quiet F.plain_sum_loop _, sum_loopL hh s.heap (Nat.le_refl _) hlI L (fun i v e => hval i v (by simpa using e)) (s.heap.push { cls := .type "list_iterator", data := .fields #[.ref l, .int 0 0] }).objs.size (by rw [e1]; exact Nat.le_succ _) (by rw [e1]; exact Nat.succ_ne_self _)
    (by rw [e1]; exact Nat.ne_of_gt (Nat.lt_succ_of_lt hll)) its.length 0 _ t acc 0 m rfl (Nat.zero_le _) ?_ ?_ (fun b o e => ((Heap.get?_push_of_some _ (Heap.get?_push_of_some _ e)))) (Heap.get?_push_size _ rfl) (ht1.push _) (by rw [e1]; exact Nat.ne_of_lt (Nat.lt_succ_of_lt htl)) htI (by
      show s.heap.objs.size ≤ _
      simp only [Heap.size_push]
      exact Nat.le_succ_of_le (Nat.le_succ _)) hz fun h' tk t' m' q1 q2 q3 => h h' tk t' m' q1 q2 q3⟩
  · exact ⟨_, Heap.get?_push_of_some _ (Heap.get?_push_size _ rfl), rfl, rfl⟩
  · exact (hl.push _).push _
end
/-! ### by data -/
section
variable {X : Cx} {p pos : Pos} {x : Str} {e : Expr} {es : List Expr} {wA : WA}
theorem vals_lists {pins : List (Addr × Obj)} {σ : L2.St} {W : Wd} {s : Shared} {m : Mu} (I : L2.Inv X pins σ W.H s) (S : Sim X.K W m) : ∀ {vs : List V} {its : List Value} {yss : List (List Dat)}, DAll X.K W vs (yss.map .lst) → Vals vs its →
    ∃ (xss : List (List V)) (L : List (List Value)), L.length = its.length ∧ (∀ (i : Nat) v, its[i]? = some v → ∃ b k, v = .ref b ∧ IsL s.heap b (L[i]?.getD []).toArray k) ∧ Vals xss.flatten L.flatten ∧ DAll X.K W xss.flatten yss.flatten
  | _, _, [], h, r => by
    cases h
    cases r
    exact ⟨[], [], rfl, fun i v e => by simp at e, .nil, .nil⟩
  | _, _, ys :: yss, h, r => by
    rw [List.map_cons] at h
    cases h with
    | cons a b =>
      cases r with
      | cons r1 r2 =>
        obtain ⟨xss, L, g1, g2, g3, g4⟩ := vals_lists I S b r2
        obtain ⟨q, xs, rfl, e1, q1⟩ := a.items S (ds := ys) rfl
        obtain ⟨_, it, n, rv, _, hob⟩ := I.lstM e1
        cases r1
        refine ⟨xs :: xss, it :: L, by rw [List.length_cons, List.length_cons, g1], fun i v e => ?_, by rw [List.flatten_cons, List.flatten_cons]; exact rv.append g3, by rw [List.flatten_cons, List.flatten_cons]; exact q1.append g4⟩
        cases i with
        | zero =>
          simp only [List.getElem?_cons_zero, Option.some.injEq] at e
          subst e
          exact ⟨q, n, rfl, hob⟩
        | succ i =>
          rw [List.getElem?_cons_succ] at e
          obtain ⟨b, k, z1, z2⟩ := g2 i v e
          exact ⟨b, k, z1, by rw [List.getElem?_cons_succ]; exact z2⟩
theorem catF_flat : ∀ (L : List (List Value)) (M : List (List Value)), catF (fun i => (M ++ L)[i]?.getD []) M.length L.length = L.flatten
  | [], _ => rfl
  | l :: L, M => by
    have e := catF_flat L (M ++ [l])
    rw [List.append_assoc, List.singleton_append, List.length_append, List.length_singleton] at e
    show (M ++ l :: L)[M.length]?.getD [] ++ catF _ (M.length + 1) L.length = _
    rw [e]
    simp
/-- sum(xs, []) of a list of lists -/
def rSumL : RLD := fun ds m F => ∃ yss : List (List Dat), ds = [.lst (yss.map .lst), .lst []] ∧ yss.flatten.length ≤ sizeLine ∧ F (.lst yss.flatten) m
theorem c_sumL (hc : X.calm = true) : CallR X (.builtin "sum") (liftL X.K rSumL) := by
  rintro pins s σ H xs us Q I r ⟨W, m, ds, F, e, S, xa, ⟨yss, rfl, hz, h⟩, k⟩
  subst e
  obtain ⟨v, u, rfl, x1, x2⟩ := dall2 xa
  obtain ⟨a, ys, rfl, e1, q1⟩ := x1.items S (ds := yss.map .lst) rfl
  obtain ⟨b, zs, rfl, e2, q2⟩ := x2.items S (ds := []) rfl
  cases q2
  obtain ⟨_, its, n, rv, _, hl⟩ := I.lstM e1
  obtain ⟨_, its2, n2, rv2, _, hl2⟩ := I.lstM e2
  cases rv2
  obtain ⟨xss, L, g1, g2, g3, g4⟩ := vals_lists I S q1 rv
  cases r with
  | cons r1 r2 =>
    cases r2 with
    | cons r2 r3 =>
      cases r3
      cases r1
      cases r2
      have ce : catF (fun i => L[i]?.getD []) 0 its.length = L.flatten := by
        rw [← g1]
        exact catF_flat L []
      have hlen : L.flatten.length = yss.flatten.length := by rw [← g3.length, g4.length]
      refine call_sumL (I.ok.hd hc) (fun i => L[i]?.getD []) ⟨_, hl, rfl, n, rfl⟩ g2 hl2 (by rw [ce, hlen]; simpa using hz) fun h' tk t' m' keep ht' hd => ?_
      rw [ce, List.nil_append] at ht'
      rcases hd with ⟨h0, rfl⟩ | hd
      · have hy : yss = [] := by
          have e3 := q1.length
          rw [rv.length, h0, List.length_map] at e3
          exact List.length_eq_zero_iff.mp e3.symm
        subst hy
        exact ⟨.ref t', _, I.kept keep, rfl, k W m _ _ (.refl W) S x2 h⟩
      · exact ⟨.ref t', _, I.laid (t' := tk) (o := .lst xss.flatten) keep hd ⟨by rw [g4.length]; exact hz, L.flatten, m', g3, ht'⟩, rfl, finL S k h g4 (I.hok.fresh hd)⟩
theorem ints_of {K : PySem.W.Frag} {W : Wd} : ∀ {vs : List V} {ns : List Int}, DAll K W vs (ns.map .int) → vs = ns.map .int
  | _, [], h => by cases h; rfl
  | _, n :: ns, h => by
    rw [List.map_cons] at h
    cases h with
    | cons a b =>
      cases a
      rw [ints_of b]; rfl
/-- sum(ns) of a list of ints -/
def rSumI : RLD := fun ds m F => ∃ (d : Dat) (ns : List Int), ds = [d] ∧ items m d = some (ns.map .int) ∧ F (.int ns.sum) m
theorem c_sumI (hc : X.calm = true) : CallR X (.builtin "sum") (liftL X.K rSumI) := by
  rintro pins s σ H xs us Q I r ⟨W, m, ds, F, e, S, xa, ⟨d, ns, rfl, hd, h⟩, k⟩
  subst e
  obtain ⟨v, rfl, x1⟩ := dall1 xa
  obtain ⟨a, ys, rfl, e1, q1⟩ := x1.items S hd
  rw [ints_of q1] at e1
  exact cr_sum hc pins s σ _ _ us Q I r ⟨a, ns, rfl, SqL.of e1, fin0 S k h (.int _)⟩
/-! ### d.get(k, x) -/
def dDget2 (wd wk wx : WE) : WE := fun r m F => wd r m fun d m1 => (∃ ds, dctD m1 d = some ds) ∧ wk r m1 fun e m2 => wx r m2 fun x m3 => ∃ ds k, dctD m3 d = some ds ∧ ds ≠ [] ∧ keyD e = some k ∧ (∃ ks, keysD (ds.map (·.1)) = some ks) ∧ ∃ v, (lookD ds k).getD x = v ∧ F v m3
theorem look_not {K : PySem.W.Frag} {W : Wd} {k : Key} : ∀ {kvs : List (Key × V)} {ds : List (Dat × Dat)}, kvs.map (fun p => datK p.1) = ds.map (·.1) → lookD ds k = none → valV kvs k = none
  | [], _, _, _ => rfl
  | _ :: _, [], h, _ => by cases h
  | (a, v) :: kvs, (b, d') :: ds, h, e => by
    simp only [List.map_cons, List.cons.injEq] at h
    obtain ⟨h1, h2⟩ := h
    unfold lookD at e
    rw [List.find?_cons] at e
    by_cases q : a = k
    · subst q
      rw [← h1] at e
      simp only [keyD_datK, decide_true, Option.map_some] at e
      cases e
    · have q' : decide (keyD (b, d').1 = some k) = false := by
        refine decide_eq_false ?_
        show ¬ keyD b = some k
        rw [← h1, keyD_datK]
        intro z; exact q (Option.some.inj z)
      rw [q'] at e
      exact (valV_neg q).trans (look_not (K := K) (W := W) h2 e)
theorem de_dget2 {o i f : Expr} {apos : Pos} {wd wk wx : WE} (hu : X.A.units + 64 < cLine) (hd : DE X o wd) (hk : DE X i wk) (hx : DE X f wx) (m2 : M2 X o "get" apos i f pos := by exact ⟨rfl, rfl, rfl, rfl⟩) : DE X (.Call (.Attribute o "get" apos) [i, f] [] pos) (dDget2 wd wk wx) :=
  PE.imp (pe_dget2 (by omega) hd hk hx m2) fun σ H Q ⟨W, r, m, F, e, S, V, h, k⟩ => ⟨W, r, m, _, e, S, V, h, fun W1 m1 v1 d1 l1 S1 x1 ⟨⟨ds0, g0⟩, q1⟩ => by
    obtain ⟨a, rfl, alt⟩ := x1.dctv S1 g0
    refine ⟨a, rfl, ?_, W1, r, m1, _, rfl, S1, V.up l1.up, q1, fun W2 m2 v2 d2 l2 S2 x2 q2 => ⟨W2, r, m2, _, rfl, S2, V.up (l1.trans l2).up, q2, fun W3 m3 v3 d3 l3 S3 x3 ⟨ds, ky, h1, h0, h2, ⟨ks, h3⟩, _, rfl, q3⟩ => ?_⟩⟩
    · rcases alt with ⟨kvs, g, _, _⟩ | ⟨kvs, g, _, _⟩
      · exact .inl ⟨kvs, .of g⟩
      · exact .inr ⟨kvs, .of g⟩
    · obtain ⟨rfl, rfl⟩ := keyD_of (x2.up l3.up) h2
      obtain ⟨b, eb, alt2⟩ := (x1.up (l2.trans l3).up).dctv S3 h1
      cases eb
      rcases alt2 with ⟨kvs, g1, g2, g3⟩ | ⟨kvs, g1, g2, g3⟩
      · refine ⟨_, .inl ⟨kvs, ky, .of g1, rfl, rfl⟩, ?_⟩
        cases hl : lookD ds ky with
        | none =>
          rw [hl] at q3
          rw [look_not (K := X.K) (W := W3) g2 hl]
          exact k W3 m3 _ _ ((l1.trans l2).trans l3) S3 x3 q3
        | some d =>
          rw [hl] at q3
          obtain ⟨u, e1, e2⟩ := look_at g2 g3 hl
          rw [e1]
          exact k W3 m3 _ _ ((l1.trans l2).trans l3) S3 e2 q3
      · exact absurd (keysD_T (K := X.K) (W := W3) g2 h3) h0⟩
/-! ### a written dict of the module: text keys, texts -/
structure KDT (wd : World) (K : PySem.W.Frag) (a : Addr) (t : List (Str × Str)) : Prop where
  ex : ∃ es n, K.lookup a = some ⟨.type "dict", none, .dict es n, #[]⟩ ∧ PySem.W.KeysLit wd.params es.toList
  get : ∀ q ∈ t, ∃ tk, PySem.W.nsIn K a q.1 = some (some (.str q.2 tk))
def dKget (t : List (Str × Str)) (wi : WE) : WE := fun r m F => wi r m fun e m1 => ∃ x y, e = .str x ∧ (x, y) ∈ t ∧ F (.str y) m1
theorem de_kget {a : Addr} {t : List (Str × Str)} {i : Expr} {wi : WE} (T : KDT X.w X.K a t) (hg : Gl X x) (hm : X.mg x = some (.ref a)) (hi : DE X i wi) (hdb : (x == ("__debug__" : Str)) = false := by decide) (hs : PlainIx i := by exact fun _ _ => rfl) :
    DE X (.Subscript (.Name x p) i pos) (dKget t wi) :=
  PE.imp (pe_ix ix_kdict (pe_glob (v := .ref a) hg hm rfl hdb) hi hs) fun σ H Q ⟨W, r, m, F, e, S, V, h, k⟩ => ⟨W, r, m, _, e, S, V, h, fun W1 m1 v1 d1 l1 S1 x1 ⟨z, y, q1, q2, q3⟩ => by
    subst q1
    cases x1
    obtain ⟨es, n, g1, g2⟩ := T.ex
    obtain ⟨tk, g3⟩ := T.get _ q2
    exact ⟨a, z, .str y, rfl, rfl, ⟨es, n, _, g1, g2, g3, ⟨tk, rfl⟩⟩, k W1 m1 _ _ l1 S1 (.str _) q3⟩⟩
end
section
variable {r : Ro} {m : Mu} {F : KD} {wk wv wx wi : WE} {d e v x : Dat} {ds : List (Dat × Dat)} {k : Key} {ks : List Key} {t : List (Str × Str)} {P : Prop}
theorem u_dget2 (h : wk r m fun d m1 => (∃ ds, dctD m1 d = some ds) ∧ wv r m1 fun e m2 => wx r m2 fun x m3 => ∃ ds k, dctD m3 d = some ds ∧ ds ≠ [] ∧ keyD e = some k ∧ (∃ ks, keysD (ds.map (·.1)) = some ks) ∧ ∃ v, (lookD ds k).getD x = v ∧ F v m3) : dDget2 wk wv wx r m F := h
theorem p_dget20 (h1 : dctD m d = some ds) (h : P) : (∃ ds, dctD m d = some ds) ∧ P := ⟨⟨ds, h1⟩, h⟩
theorem p_dget2 {Q : Dat → Prop} (h1 : dctD m d = some ds) (h0 : ds ≠ []) (h2 : keyD e = some k) (h3 : keysD (ds.map (·.1)) = some ks) (h4 : (lookD ds k).getD x = v) (h : Q v) : ∃ ds k, dctD m d = some ds ∧ ds ≠ [] ∧ keyD e = some k ∧ (∃ ks, keysD (ds.map (·.1)) = some ks) ∧ ∃ v, (lookD ds k).getD x = v ∧ Q v := ⟨ds, k, h1, h0, h2, ⟨ks, h3⟩, v, h4, h⟩
theorem u_kget (h : wi r m fun e m1 => ∃ x y, e = .str x ∧ (x, y) ∈ t ∧ F (.str y) m1) : dKget t wi r m F := h
theorem p_kget {x y : Str} {Q : Str → Prop} (h1 : (x, y) ∈ t) (h : Q y) : ∃ x' y, Dat.str x = .str x' ∧ (x', y) ∈ t ∧ Q y := ⟨x, y, rfl, h1, h⟩
end
/-! ### things that == and repr take: how deep, how heavy -/
structure Nice (p : PyData) (d w : Nat) : Prop where
  lay : p.canLay0 = true
  dp : p.depth ≤ d
  sh : p.showable = true
  nd : p.hasDict = false
  lv : p.leavesShort 4000 = true
  wt : p.weight ≤ w
structure NiceL (ps : List PyData) (d w : Nat) : Prop where
  lay : PyData.canLayAll0 ps = true
  dp : PyData.depthAll ps ≤ d
  sh : PyData.showableAll ps = true
  nd : PyData.hasDictAll ps = false
  lv : PyData.leavesShortAll 4000 ps = true
  wt : PyData.weightAll ps ≤ w
theorem NiceL.nil {d w : Nat} : NiceL [] d w := ⟨rfl, Nat.zero_le _, rfl, rfl, rfl, Nat.zero_le _⟩
theorem NiceL.cons {p : PyData} {ps : List PyData} {d w w' : Nat} (h : Nice p d w) (g : NiceL ps d w') : NiceL (p :: ps) d (w + 1 + w') :=
  ⟨by simp only [PyData.canLayAll0, h.lay, g.lay, Bool.and_self], by simp only [PyData.depthAll]; exact Nat.max_le.mpr ⟨h.dp, g.dp⟩, by simp only [PyData.showableAll, h.sh, g.sh, Bool.and_self], by simp only [PyData.hasDictAll, h.nd, g.nd, Bool.or_self],
   by simp only [PyData.leavesShortAll, h.lv, g.lv, Bool.and_self], by simp only [PyData.weightAll]; have := h.wt; have := g.wt; omega⟩
theorem Nice.tup {ps : List PyData} {d w : Nat} (g : NiceL ps d w) : Nice (.tuple ps) (d + 1) w :=
  ⟨by simp only [PyData.canLay0, g.lay], by simp only [PyData.depth]; exact Nat.succ_le_succ g.dp, by simp only [PyData.showable, g.sh], by simp only [PyData.hasDict, g.nd], by simp only [PyData.leavesShort, g.lv], by simp only [PyData.weight]; exact g.wt⟩
theorem Nice.lst {ps : List PyData} {d w : Nat} (g : NiceL ps d w) : Nice (.list ps) (d + 1) w :=
  ⟨by simp only [PyData.canLay0, g.lay], by simp only [PyData.depth]; exact Nat.succ_le_succ g.dp, by simp only [PyData.showable, g.sh], by simp only [PyData.hasDict, g.nd], by simp only [PyData.leavesShort, g.lv], by simp only [PyData.weight]; exact g.wt⟩
theorem Nice.up {p : PyData} {d d' w w' : Nat} (h : Nice p d w) (hd : d ≤ d') (hw : w ≤ w') : Nice p d' w' := ⟨h.lay, Nat.le_trans h.dp hd, h.sh, h.nd, h.lv, Nat.le_trans h.wt hw⟩
theorem Nice.bl {b : Bool} {d w : Nat} : Nice (.bool b) d w := ⟨rfl, Nat.zero_le _, rfl, rfl, rfl, Nat.zero_le _⟩
theorem Nice.str {x : Str} {d : Nat} (h : PyData.strOk x = true) (h2 : x.cps.toList.all (fun c => decide (c < 16 ^ 8)) = true) : Nice (.str x) d x.length := ⟨by simp only [PyData.canLay0, h], Nat.zero_le _, rfl, rfl, by simp only [PyData.leavesShort, h2], Nat.le_refl _⟩
theorem Nice.int {i : Int} {d : Nat} (h1 : -999999999999 ≤ i) (h2 : i ≤ 999999999999) : Nice (.int i) d 41 := by
  have hl : i.natAbs.log2 < 40 := by
    by_cases h0 : i.natAbs = 0
    · rw [h0]; decide
    · refine (Nat.log2_lt h0).mpr ?_
      have e : (2 : Nat) ^ 40 = 1099511627776 := by decide
      rw [e]; omega
  refine ⟨rfl, Nat.zero_le _, ?_, rfl, ?_, ?_⟩
  · simp only [PyData.showable, decide_eq_true_eq]; omega
  · simp only [PyData.leavesShort, decide_eq_true_eq]
    exact Nat.le_trans (PyData.shown_int_le2 h1 h2) (by decide)
  · simp only [PyData.weight]
    split
    · exact Nat.zero_le _
    · omega
theorem Nice.ok {p : PyData} {d w : Nat} (h : Nice p d w) (hd : d ≤ 60) (hw : w ≤ 4000) : SeqAt.shaped p = true ∧ PyData.eqv p p = true ∧ reprOk p = true := like_ok h.lay (Nat.le_trans h.dp hd) h.sh h.nd h.lv (Nat.le_trans h.wt hw)
theorem NiceL.map {α : Type} {f : α → PyData} {d w : Nat} : ∀ {xs : List α}, (∀ x ∈ xs, Nice (f x) d w) → NiceL (xs.map f) d (xs.length * (w + 1))
  | [], _ => .nil
  | x :: xs, h => by
    have g := NiceL.cons (h x (by simp)) (NiceL.map (xs := xs) fun y hy => h y (by simp [hy]))
    rw [List.length_cons, Nat.succ_mul, Nat.add_comm]
    exact g
theorem toPys_map {α : Type} {f : α → Dat} {g : α → PyData} (h : ∀ x, toPy (f x) = some (g x)) : ∀ xs : List α, toPys (xs.map f) = some (xs.map g)
  | [] => rfl
  | x :: xs => by rw [List.map_cons, toPys, h x, toPys_map h xs]; rfl
end DL

set_option maxHeartbeats 4000000
/-! set(..) of a list of ints, sorted(set(..)) of it. -/
namespace DL
open PySem PySem.Spec PyProof.Rows L2
section
variable {P : Program} {w : World} {A : Around} {E : Value → Shared → Prop} {s : Shared}
abbrev freshSet (w : World) : Obj := { cls := .type "set", dict := none, data := .set #[] 0 (.fresh 0 0 (!w.params.followText "set-order")) }
abbrev SetEnd (w : World) (s : Shared) (ns : List Int) (S : Addr) (s2 : Shared) : Prop := ∃ (h' : Heap) (tk c : Nat), s2 = { s with heap := h', toks := tk } ∧ SetR w h' S (fun j => decide (j ∈ ns)) c ∧ c ≤ ns.length ∧ ∀ b o, b ≠ S → s.heap.get? b = some o → h'.get? b = some o
/-- the new set takes the list's ints -/
theorem set_takes {l S : Addr} {its : List Value} {ns : List Int} (hh : A.handled = none) (hS : s.heap.get? S = some (freshSet w)) (hl : s.heap.IsList l its.toArray) (hit : IntsAre its ns) (hb : ns.length + 1 < scanBound) (hne : l ≠ S) :
    codeAny (model P w) A (.call (.builtin "set.__init__") ⟨[.ref S, .ref l], []⟩) (wants (fun r s2 => r = .none ∧ SetEnd w s ns S s2) E) s := by
  have hT : s.TypeIs (.ref S) "set" := ⟨_, hS, rfl⟩
  have hisz : its.toArray.size = ns.length := by rw [List.size_toArray]; exact hit.length
  refine codeAny_call_builtin F.called_set.init.plain F.entry_set_init (check_set_init_1 hT ?_)
  have hsls := F.sub_list_set
  have hslf := F.sub_list_frozenset
  obtain ⟨ol, hol, hcl, nl, hdl⟩ := hl
  obtain ⟨ocls, odict, odata, oslots⟩ := ol
  simp only at hcl hdl
  subst hcl; subst hdl
  have hne2 : (Value.type "list" == Value.type "dict") = false := by decide
  have hl1 : s.heap.IsList l its.toArray := ⟨_, hol, rfl, nl, rfl⟩
  unfold Builtin.«set.__init__» noKeywords Builtin.Frozenset.updateFrom
  generalize hPI : pyIter = PI
  wp_walk
  subst hPI
  refine wpAny_pyIter_list hl1 ?_
  refine wpAny_bind (wpAny_runValue ?_)
  have hlt : l < s.heap.objs.size := Heap.lt_size hol
  have hSt : S < s.heap.objs.size := Heap.lt_size hS
  have hh2 : A.in1.in1.handled = none := by simp [hh]
  have hval : ∀ (i : Nat) (v : Value), its.toArray[i]? = some v → ∃ k t, ns[i]? = some k ∧ v = .int k t := fun i v hv => by
    have hi : i < ns.length := by rw [← hisz]; exact (Array.getElem?_eq_some_iff.mp hv).1
    obtain ⟨t, e⟩ := hit.int_at i v (by simpa using hv)
    exact ⟨ns[i], t, List.getElem?_eq_getElem hi, by rw [e, List.getD_eq_getElem?_getD, List.getElem?_eq_getElem hi]; rfl⟩
  refine set_update_ints (Walks.list hh2 s.heap.objs.size l (Nat.ne_of_lt hlt) its.toArray).toS S (by
    simp only [List.mem_cons, List.not_mem_nil, or_false, not_or]
    exact ⟨Nat.ne_of_lt hSt, fun e => hne e.symm⟩) ns hisz hb hval _ 0 _ rfl (Nat.zero_le _) ⟨⟨_, Heap.get?_push_size _ rfl, rfl, rfl⟩, hl1.push _⟩ ⟨0, Nat.le_refl 0, setR_new_at (Heap.get?_push_of_some _ hS)⟩ fun s' c' hm hc' hS' => ?_
  obtain ⟨h', g2, d', tk', os'⟩ := s'
  obtain rfl : g2 = s.gens := hm.gens
  obtain rfl : d' = s.drawn := hm.drawn
  obtain rfl : os' = s.os := hm.os
  refine wpAny_pure ?_
  rw [hisz] at hc'
  refine wpAny_pure ⟨rfl, h', tk', c', rfl, hS', hc', fun b o hb e => ?_⟩
  refine hm.heap b o ?_ (Heap.get?_push_of_some _ e)
  simp only [List.mem_cons, List.not_mem_nil, or_false, not_or]
  exact ⟨hb, Nat.ne_of_lt (Heap.lt_size e)⟩
theorem call_setL {l : Addr} {its : List Value} {ns : List Int} {Q : Value → Shared → Prop} (hh : A.handled = none) (hl : s.heap.IsList l its.toArray) (hit : IntsAre its ns) (hb : ns.length + 1 < scanBound)
    (h : ∀ (h' : Heap) (tk c : Nat), SetR w h' s.heap.objs.size (fun j => decide (j ∈ ns)) c → c ≤ ns.length → (∀ b o, s.heap.get? b = some o → h'.get? b = some o) → Q (.ref s.heap.objs.size) { s with heap := h', toks := tk }) :
    wpAny (model P w) A (call (.type "set") [.ref l]) Q E s := by
  have hlt : l < s.heap.objs.size := by obtain ⟨o, e, _⟩ := hl; exact Heap.lt_size e
  obtain ⟨c, tl, hmro⟩ := F.called_set.mro
  have hmade := F.called_set.made
  have hsub := F.called_set.sub
  refine wpAny_call (codeAny_of_tree ?_)
  show wpAny _ _ (callAny (.type "set") _) _ _ _
  refine wpAny_pure ⟨Code.quiet_builtin _ (by decide +kernel), codeAny_builtin F.entry_type_call ?_⟩
  rw [Around.under_plain (weight_type_call_type "set" [.ref l] []) rfl]
  have h1 := F.called_set.notType
  have h2 := F.called_set.canCreate
  have hct := F.typeCall_set_1 (.ref l)
  repeat (any_goals (first | assumption | wp_step))
  refine codeAny_mono (code_set_led1 (.ref l) (E := E) (Q₁ := fun obj s₁ => obj = .ref s.heap.objs.size ∧ s₁ = { s with heap := s.heap.push (freshSet w) }) ⟨rfl, rfl⟩) fun r s₁ hr => ?_
  cases r with
  | error e => exact hr
  | ok fl =>
    cases fl with
    | ret obj =>
      obtain ⟨rfl, rfl⟩ := hr
      have hS : (s.heap.push (freshSet w)).get? s.heap.objs.size = some (freshSet w) := Heap.get?_push_size _ rfl
      have hT : Shared.TypeIs { s with heap := s.heap.push (freshSet w) } (.ref s.heap.objs.size) "set" := ⟨_, hS, rfl⟩
      have hli := F.called_set.init.lookup
      have hbi := F.called_set.init.bind (.ref s.heap.objs.size)
      repeat (any_goals (first | assumption | wp_step))
      refine codeAny_mono (set_takes (its := its) (ns := ns) (E := E) (by simp [hh]) hS (hl.push _) hit hb (Nat.ne_of_lt hlt)) fun r s2 hr => ?_
      cases r with
      | error e => exact hr
      | ok fl =>
        cases fl with
        | ret v =>
          obtain ⟨rfl, h', tk', c', rfl, q1, q2, q3⟩ := hr
          refine wpAny_pure ?_
          repeat (any_goals (first | assumption | wp_step))
          exact h h' tk' c' q1 q2 fun b o e => q3 b o (Nat.ne_of_lt (Heap.lt_size e)) (Heap.get?_push_of_some _ e)
        | _ => exact hr
    | _ => exact hr
end
def rSetL (K : PySem.W.Frag) (w : World) : List V → Hp → VK → Prop := fun vs H Q => ∃ (l : Addr) (ns : List Int), vs = [V.ref l] ∧ SqL K H l (ns.map V.int) ∧ ns.length + 1 < scanBound ∧
  ∀ (p : Addr) (c : Nat), H p = none → c ≤ ns.length → Q (.ref p) (upd H p (SetO w p (fun j => decide (j ∈ ns)) c))
section
variable {X : Cx} {p p2 pos pos2 : Pos} {e : Expr} {wa : WE}
theorem cr_setL (hc : X.calm = true) : CallR X (.type "set") (rSetL X.K X.w) := by
  intro pins s σ H vs us Q I r h
  obtain ⟨l, ns, rfl, hs, hb, q⟩ := h
  obtain ⟨its, rv, hl, _⟩ := I.list hs
  rw [Vals.ref1 r]
  refine call_setL (I.ok.hd hc) hl.isList rv.ints hb fun h' tk c R hcn keep => ?_
  exact ⟨.ref _, _, I.laid (t' := tk) keep (Nat.le_refl _) (setO_new R), rfl, q _ c (I.hok.fresh (Nat.le_refl _)) hcn⟩
/-- sorted(set(ns)) -/
def dSortSetI (wa : WE) : WE := fun r m F => wa r m fun d m1 => ∃ ns : List Int, items m1 d = some (ns.map .int) ∧ ns.length < 64 ∧ ∀ out : List Int, out.Pairwise (· < ·) → (∀ k, k ∈ out ↔ k ∈ ns) → F (.lst (out.map .int)) m1
theorem de_sortSetI (hc : X.calm = true) (hg : Gl X "sorted") (hm : X.mg "sorted" = none) (hg2 : Gl X "set") (hm2 : X.mg "set" = none) (ha : DE X e wa)
    (he : starEach [e] X.env = [(false, eval e X.env)] := by rfl) (he2 : starEach [.Call (.Name "set" p2) [e] [] pos2] X.env = [(false, eval (.Call (.Name "set" p2) [e] [] pos2) X.env)] := by rfl) :
    DE X (.Call (.Name "sorted" p) [.Call (.Name "set" p2) [e] [] pos2] [] pos) (dSortSetI wa) :=
  PE.imp (pe_callB (id := "sorted") (cr_sortedSet hc) hg hm (by decide +kernel) (pa_cons (pe_callTy (T := "set") (cr_setL hc) hg2 hm2 (by decide +kernel) (pa_cons ha pa_nil he) (by decide) (by decide) he) pa_nil he2) (by decide) (by decide) he2) fun σ H Q ⟨W, r, m, F, e, S, Ve, h, k⟩ =>
    ⟨W, r, m, _, e, S, Ve, h, fun W1 m1 v1 d1 l1 S1 x1 ⟨ns, q1, q2, q3⟩ => by
      obtain ⟨a, ys, rfl, e1, q⟩ := x1.items S1 q1
      rw [ints_of q] at e1
      refine ⟨a, ns, rfl, SqL.of e1, by have : (64 : Nat) + 1 ≤ scanBound := by decide
                                        omega, fun p c hp hcn => ⟨p, _, c, rfl, upd_same, by omega, fun out p' h1 h2 h3 h4 => ?_⟩⟩
      obtain ⟨l2, S2⟩ := S1.newF (o := SetO X.w p (fun j => decide (j ∈ ns)) c) hp
      have hx : DAll X.K ⟨fun a => W1.S a ∨ a = p, W1.io, upd W1.H p (SetO X.w p (fun j => decide (j ∈ ns)) c)⟩ (out.map V.int) (out.map Dat.int) := by
        clear h3 h2 h1
        induction out with
        | nil => exact .nil
        | cons i out ih => exact .cons (.int i) ih
      exact finL S2 (fun W' m' v d l S x q => k W' m' v d ((l1.trans l2).trans l) S x q) (q3 out h1 fun k => by rw [h2 k]; exact decide_eq_true_iff) hx h4⟩
end
section
variable {r : Ro} {m : Mu} {F : KD} {wa : WE}
theorem u_sortSet (h : wa r m fun d m1 => ∃ ns : List Int, items m1 d = some (ns.map .int) ∧ ns.length < 64 ∧ ∀ out : List Int, out.Pairwise (· < ·) → (∀ k, k ∈ out ↔ k ∈ ns) → F (.lst (out.map .int)) m1) : dSortSetI wa r m F := h
end
/-! ### list(range(n)), max, min of a list of ints -/
section
variable {X : Cx} {p p2 pos pos2 : Pos} {e : Expr} {wa : WE}
theorem dall_range {K : PySem.W.Frag} {W : Wd} (f : Nat → Int) : ∀ xs : List Nat, DAll K W (xs.map fun i => V.int (f i)) (xs.map fun i => Dat.int (f i))
  | [] => .nil
  | x :: xs => .cons (.int _) (dall_range f xs)
def dListRg (wa : WE) : WE := fun r m F => wa r m fun d m1 => ∃ n : Int, d = .int n ∧ -(2 ^ 62) ≤ n ∧ n ≤ 16777216 ∧ F (.lst (rangeD 0 n.toNat)) m1
def dListRgM (wa : WE) : WE := fun r m F => wa r m fun d m1 => ∃ n : Int, d = .int n ∧ -(2 ^ 62) ≤ n ∧ n ≤ 16777216 ∧ ∀ k, m1 k = none → F (.ref k) (m1.set k (.lst (rangeD 0 n.toNat)))
theorem rg_ok {n : Int} (h1 : -(2 ^ 62) ≤ n) (h2 : n ≤ 16777216) : RgOk 0 n := ⟨by decide, by decide, h1, by omega, by omega⟩
theorem rg_dall {K : PySem.W.Frag} {W : Wd} {n : Int} : DAll K W (rgV 0 n) (rangeD 0 n.toNat) := by
  unfold rgV rangeD
  rw [Int.sub_zero]
  exact dall_range (fun i => 0 + (i : Int)) _
theorem de_listRg (hc : X.calm = true) (hg : Gl X "list") (hm : X.mg "list" = none) (hg2 : Gl X "range") (hm2 : X.mg "range" = none) (ha : DE X e wa)
    (he : starEach [e] X.env = (false, eval e X.env) :: starEach [] X.env := by rfl) (he2 : starEach [.Call (.Name "range" p2) [e] [] pos2] X.env = (false, eval (.Call (.Name "range" p2) [e] [] pos2) X.env) :: starEach [] X.env := by rfl) :
    DE X (.Call (.Name "list" p) [.Call (.Name "range" p2) [e] [] pos2] [] pos) (dListRg wa) :=
  PE.imp (pe_listRg hc hg hm (prg_1 hg2 hm2 ha he) he2) fun σ H Q ⟨W, r, m, F, e, S, Ve, h, k⟩ => ⟨W, r, m, _, e, S, Ve, h, fun W1 m1 v1 d1 l1 S1 x1 ⟨n, q1, q2, q3, q4⟩ => by
    subst q1
    cases x1
    exact ⟨n, rfl, rg_ok q2 q3, fun q hq => finL S1 (fun W' m' v d l S x q => k W' m' v d (l1.trans l) S x q) q4 rg_dall hq⟩⟩
theorem de_listRgM (hc : X.calm = true) (hg : Gl X "list") (hm : X.mg "list" = none) (hg2 : Gl X "range") (hm2 : X.mg "range" = none) (ha : DE X e wa)
    (he : starEach [e] X.env = (false, eval e X.env) :: starEach [] X.env := by rfl) (he2 : starEach [.Call (.Name "range" p2) [e] [] pos2] X.env = (false, eval (.Call (.Name "range" p2) [e] [] pos2) X.env) :: starEach [] X.env := by rfl) :
    DE X (.Call (.Name "list" p) [.Call (.Name "range" p2) [e] [] pos2] [] pos) (dListRgM wa) :=
  PE.imp (pe_listRg hc hg hm (prg_1 hg2 hm2 ha he) he2) fun σ H Q ⟨W, r, m, F, e, S, Ve, h, k⟩ => ⟨W, r, m, _, e, S, Ve, h, fun W1 m1 v1 d1 l1 S1 x1 ⟨n, q1, q2, q3, q4⟩ => by
    subst q1
    cases x1
    exact ⟨n, rfl, rg_ok q2 q3, fun q hq => finM S1 (fun W' m' v d l S x q => k W' m' v d (l1.trans l) S x q) q4 rg_dall hq⟩⟩
def rMaxI : RLD := fun ds m F => ∃ (d : Dat) (ns : List Int), ds = [d] ∧ items m d = some (ns.map .int) ∧ 0 < ns.length ∧ ∀ v, v ∈ ns → (∀ y, y ∈ ns → y ≤ v) → F (.int v) m
def rMinI : RLD := fun ds m F => ∃ (d : Dat) (ns : List Int), ds = [d] ∧ items m d = some (ns.map .int) ∧ 0 < ns.length ∧ ∀ v, v ∈ ns → (∀ y, y ∈ ns → v ≤ y) → F (.int v) m
theorem c_maxI (hc : X.calm = true) : CallR X (.builtin "max") (liftL X.K rMaxI) := by
  rintro pins s σ H xs us Q I r ⟨W, m, ds, F, e, S, xa, ⟨d, ns, rfl, hd, h0, h⟩, k⟩
  subst e
  obtain ⟨v, rfl, x1⟩ := dall1 xa
  obtain ⟨a, ys, rfl, e1, q1⟩ := x1.items S hd
  rw [ints_of q1] at e1
  exact cr_max hc pins s σ _ _ us Q I r ⟨a, ns, rfl, SqL.of e1, h0, fun v h1 h2 => fin0 S k (h v h1 h2) (.int _)⟩
theorem c_minI (hc : X.calm = true) : CallR X (.builtin "min") (liftL X.K rMinI) := by
  rintro pins s σ H xs us Q I r ⟨W, m, ds, F, e, S, xa, ⟨d, ns, rfl, hd, h0, h⟩, k⟩
  subst e
  obtain ⟨v, rfl, x1⟩ := dall1 xa
  obtain ⟨a, ys, rfl, e1, q1⟩ := x1.items S hd
  rw [ints_of q1] at e1
  exact cr_min hc pins s σ _ _ us Q I r ⟨a, ns, rfl, SqL.of e1, h0, fun v h1 h2 => fin0 S k (h v h1 h2) (.int _)⟩
theorem sum_tup {prog : Program} {w : World} {A : Around} {E Q : Value → Shared → Prop} {s : Shared} {l : Addr} {its : List Value} {ns : List Int} (hh : A.in1.handled = none) (hl : s.heap.IsTuple l its.toArray) (hit : IntsAre its ns)
    (h : ∀ h' tk t', (∀ b o, s.heap.get? b = some o → h'.get? b = some o) → Q (.int ns.sum t') { s with heap := h', toks := tk }) : wpAny (model prog w) A (call (.builtin "sum") [.ref l]) Q E s := by
  have hlt : l < s.heap.objs.size := by obtain ⟨o, e, _⟩ := hl; exact Heap.lt_size e
  refine PySem.call_sum_walkAnyS (PySem.wpAny_pyIter_tuple hl ⟨_, _, _, _, _, _, _, fun i => ns.getD i 0, rfl, (Walks.tuple hh s.heap.objs.size l (Nat.ne_of_lt hlt) its.toArray).toS, ⟨⟨_, Heap.get?_push_size _ rfl, rfl, rfl⟩, hl.push _⟩, fun b hb => ?_, fun i v hv => ?_, fun s' t' hm => ?_⟩)
  · show b < (s.heap.push _).objs.size
    rw [Heap.size_push]
    simp only [List.mem_cons, List.not_mem_nil, or_false] at hb
    rcases hb with rfl | rfl
    · exact Nat.lt_succ_self _
    · exact Nat.lt_succ_of_lt hlt
  · exact hit.int_at i v (by simpa using hv)
  · obtain ⟨h', g2, d', tk', os'⟩ := s'
    obtain rfl : g2 = s.gens := hm.gens
    obtain rfl : d' = s.drawn := hm.drawn
    obtain rfl : os' = s.os := hm.os
    have e : preSum (fun i => ns.getD i 0) its.toArray.size = ns.sum := by
      have hz : its.toArray.size = (ns.map V.int).length := by rw [List.size_toArray, hit.length, List.length_map]
      rw [preSum_list (h := fun v => match v with | .int i => i | _ => 0) (ns.map V.int) _ (fun i x hx => by
        rw [List.getElem?_map, Option.map_eq_some_iff] at hx
        obtain ⟨j, hj, rfl⟩ := hx
        rw [List.getD_eq_getElem?_getD, hj]; rfl) _ (Nat.le_of_eq hz), hz, List.take_length, List.map_map]
      exact congrArg List.sum (List.map_id ns)
    rw [e]
    exact h h' tk' t' fun b o e => hm.heap b o (fun hb => by
      simp only [List.mem_singleton] at hb
      exact Nat.ne_of_lt (Heap.lt_size e) hb) (Heap.get?_push_of_some _ e)
/-- sum(t) of a tuple of ints -/
def rSumT : RLD := fun ds m F => ∃ ns : List Int, ds = [.tup (ns.map .int)] ∧ F (.int ns.sum) m
theorem c_sumT (hc : X.calm = true) : CallR X (.builtin "sum") (liftL X.K rSumT) := by
  rintro pins s σ H xs us Q I r ⟨W, m, ds, F, e, S, xa, ⟨ns, rfl, h⟩, k⟩
  subst e
  obtain ⟨v, rfl, x1⟩ := dall1 xa
  obtain ⟨a, rfl⟩ : ∃ a, v = .ref a := by cases x1 <;> exact ⟨_, rfl⟩
  obtain ⟨ys, t, q⟩ := x1.sqT
  rw [ints_of q] at t
  obtain ⟨its, rv, pl, _⟩ := I.tuple t
  rw [Vals.ref1 r]
  exact sum_tup (by rw [Around.in1_handled]; exact I.ok.hd hc) pl rv.ints fun h' tk t' hk => ⟨.int _, _, I.kept hk, ⟨_, rfl⟩, fin0 S k h (.int _)⟩
/-- sum of ints, in a list or a tuple -/
def rSumA : RLD := fun ds m F => rSumI ds m F ∨ rSumT ds m F
theorem c_sumA (hc : X.calm = true) : CallR X (.builtin "sum") (liftL X.K rSumA) := by
  rintro pins s σ H xs us Q I r ⟨W, m, ds, F, e, S, xa, h | h, k⟩
  · exact c_sumI hc pins s σ H xs us Q I r ⟨W, m, ds, F, e, S, xa, h, k⟩
  · exact c_sumT hc pins s σ H xs us Q I r ⟨W, m, ds, F, e, S, xa, h, k⟩
end
end DL

/-! how often an int stands in a list of ints -/
namespace DL
open PySem PySem.Spec PyProof.Rows L2
def eqIv (b : Int) (v : Value) : Bool := match v with
  | .int c _ => c == b
  | _ => false
theorem eqiv_count {K : PySem.W.Frag} {W : Wd} {b : Int} : ∀ {bs : List Int} {vs : List V} {us : List Value}, DAll K W vs (bs.map .int) → Vals vs us → us.countP (eqIv b) = bs.count b
  | [], _, _, x, r => by cases x; cases r; rfl
  | c :: bs, _, _, x, r => by
    cases x with
    | cons x1 x2 =>
      cases r with
      | cons r1 r2 =>
        cases x1
        have ih := eqiv_count (b := b) x2 r2
        obtain ⟨t, rfl⟩ := r1
        rw [List.countP_cons, List.count_cons, ih] <;> rfl
theorem eqiv_is {K : PySem.W.Frag} {W : Wd} : ∀ {bs : List Int} {vs : List V} {us : List Value}, DAll K W vs (bs.map .int) → Vals vs us → ∀ y ∈ us, ∃ c t, y = .int c t
  | [], _, _, x, r => fun y hy => by cases x; cases r; cases hy
  | c :: bs, _, _, x, r => fun y hy => by
    cases x with
    | cons x1 x2 =>
      cases r with
      | cons r1 r2 =>
        cases x1
        rcases List.mem_cons.mp hy with e | e
        · obtain ⟨t, rfl⟩ := r1
          exact ⟨c, t, e⟩
        · exact eqiv_is x2 r2 y e
section
variable {X : Cx}
def rCountI : RMD := fun d ds m F => ∃ (bs : List Int) (b : Int), items m d = some (bs.map .int) ∧ ds = [.int b] ∧ F (.int (bs.count b : Nat)) m
theorem m_countI : MtR X "list.count" (liftM X.K rCountI) := by
  rintro pins s σ H x xs v us Q I rx rs ⟨W, m, d, ds, F, e, S, xa, xb, ⟨bs, b, hd, rfl, h⟩, k⟩
  subst e
  obtain ⟨u, rfl, x2⟩ := dall1 xb
  cases x2
  obtain ⟨a, vs, rfl, e1, q⟩ := xa.items S hd
  cases rx
  obtain ⟨u, rfl, ru⟩ := rs.one
  obtain ⟨tk, rfl⟩ := ru
  obtain ⟨its, rv, ⟨⟨cls, dd, data, sl⟩, n, ho, hc, hdn, hd⟩, hlen⟩ := I.list (SqL.of e1)
  simp only at hc hd
  subst hc hd
  refine call_meets PySem.F.slot_list_count ⟨_, ho, rfl⟩ PySem.F.entry_list_count (PySem.F.args_list_count_2 _ _)
    (SeqAt.list_countAt a its.toArray n dd sl (.int b tk) (eqIv b)) ⟨ho, fun y hy => ?_, ?_⟩
  · obtain ⟨c, t, rfl⟩ := eqiv_is q rv y (by simpa using hy)
    exact PySem.SeqAt.EqAt.int_int c t b tk
  have ec : its.toArray.toList.countP (eqIv b) = bs.count b := eqiv_count q rv
  refine ⟨.int (bs.count b : Nat), W.H, I.tok _, ⟨s.toks, ?_⟩, fin0 S k h (.int _)⟩
  show Value.int ((its.toArray.toList.countP (eqIv b) : Nat) : Int) s.toks = Value.int ((bs.count b : Nat) : Int) s.toks
  rw [ec]
end
section
variable {r : Ro} {m : Mu} {wa : WE} {F : KD}
theorem u_lrg (h : wa r m fun d m1 => ∃ n : Int, d = .int n ∧ -(2 ^ 62) ≤ n ∧ n ≤ 16777216 ∧ F (.lst (rangeD 0 n.toNat)) m1) : dListRg wa r m F := h
theorem u_lrgM (h : wa r m fun d m1 => ∃ n : Int, d = .int n ∧ -(2 ^ 62) ≤ n ∧ n ≤ 16777216 ∧ ∀ k, m1 k = none → F (.ref k) (m1.set k (.lst (rangeD 0 n.toNat)))) : dListRgM wa r m F := h
end
theorem cut_nx {t : WS} {a : Ro → Mu → Prop} {v : KD} {b c : Ro → Mu → Prop} {r : Ro} {m : Mu} (I : Ro → Mu → Prop) (h1 : ∀ r m, I r m → a r m) (h2 : ∀ nx : Ro → Mu → Prop, (∀ r m, I r m → nx r m) → t ⟨nx, v, b, c⟩ r m) : t ⟨a, v, b, c⟩ r m := h2 a h1
theorem cut_take (ds : List Dat) (k : Nat) : cutD ds none (some (k : Int)) = ds.take k := by
  unfold cutD
  rw [HT.sIx_none, HT.sIx_nat, List.drop_zero, Nat.sub_zero]
  by_cases h : k ≤ ds.length
  · rw [Nat.min_eq_left h]
  · rw [Nat.min_eq_right (by omega), List.take_of_length_le (Nat.le_refl _), List.take_of_length_le (by omega)]
theorem cut_drop {ds : List Dat} {k : Nat} (h : k ≤ ds.length) : cutD ds (some (k : Int)) none = ds.drop k := by
  unfold cutD
  rw [HT.sIx_none, HT.sIx_nat, Nat.min_eq_left h]
  exact List.take_of_length_le (by simp)
theorem viewsM_map {α : Type} {m : Mu} {f : α → Dat} {g : α → PyData} (h : ∀ x, viewM m (f x) = some (g x)) : ∀ xs : List α, viewsM m (xs.map f) = some (xs.map g)
  | [] => by simp only [List.map_nil, DL.viewsM]
  | x :: xs => by rw [List.map_cons, DL.viewsM, h x, viewsM_map h xs]; rfl
theorem viewM_ints (m : Mu) (ns : List Int) : viewM m (.lst (ns.map .int)) = some (.list (ns.map PyData.int)) := by
  rw [DL.viewM, viewsM_map (g := PyData.int) (fun i => by rw [DL.viewM])]; rfl
theorem viewM_ref {m : Mu} {k : Nat} {ns : List Int} (h : m k = some (.lst (ns.map .int))) : viewM m (.ref k) = some (.list (ns.map PyData.int)) := by
  rw [DL.viewM, h]
  show (toPys (ns.map Dat.int)).map PyData.list = _
  rw [toPys_map (g := PyData.int) (fun _ => rfl)]; rfl
theorem viewM_two {m : Mu} {a b : Dat} {p q : PyData} (h1 : viewM m a = some p) (h2 : viewM m b = some q) : viewM m (.lst [a, b]) = some (.list [p, q]) := by
  rw [DL.viewM, DL.viewsM, DL.viewsM, DL.viewsM, h1, h2]; rfl
theorem Mu.keep {m : Mu} {a b : Nat} {c d : Cell} (h : m a = some c) (hb : m b = none) : (m.set b d) a = some c := by
  rw [Mu.set_ne]
  · exact h
  · rintro rfl; rw [h] at hb; cases hb
theorem items_ref {m : Mu} {n : Nat} {ds : List Dat} (h : m n = some (.lst ds)) : items m (.ref n) = some ds := by simp [items, h]
theorem p_sumR {m : Mu} {n : Nat} {ns : List Int} {F : KD} (h : m n = some (.lst (ns.map .int))) (q : F (.int ns.sum) m) : rSumA [.ref n] m F := .inl ⟨.ref n, ns, rfl, items_ref h, q⟩
theorem p_countI {ds : List Dat} {b : Int} {bs : List Int} {m : Mu} {F : KD} (hd : ds = bs.map .int) (h : F (.int (bs.count b : Nat)) m) : rCountI (.lst ds) [.int b] m F := ⟨bs, b, by rw [hd]; rfl, rfl, h⟩
end DL

/-! dicts that change: cells with keys that are ints and texts, or tuples of them; dicts that are settled and locked -/
namespace DL
open PySem PySem.Spec PyProof.Rows L2
section
variable {κ : Type} [DecidableEq κ]
def lk (ds : List (κ × Dat)) (k : κ) : Option Dat := (ds.find? fun p => decide (p.1 = k)).map (·.2)
def pt (ds : List (κ × Dat)) (k : κ) (d : Dat) : List (κ × Dat) := if (ds.any fun p => decide (p.1 = k)) = true then ds.map (fun p => if p.1 = k then (p.1, d) else p) else ds ++ [(k, d)]
structure RelKD (K : PySem.W.Frag) (W : Wd) (kvs : List (κ × V)) (ds : List (κ × Dat)) : Prop where
  ks : kvs.map (·.1) = ds.map (·.1)
  xs : DAll K W (kvs.map (·.2)) (ds.map (·.2))
theorem RelKD.up {K : PySem.W.Frag} {W W' : Wd} {kvs : List (κ × V)} {ds : List (κ × Dat)} (h : Up W W') (r : RelKD K W kvs ds) : RelKD K W' kvs ds := ⟨r.ks, r.xs.up h⟩
theorem RelKD.length {K : PySem.W.Frag} {W : Wd} {kvs : List (κ × V)} {ds : List (κ × Dat)} (r : RelKD K W kvs ds) : kvs.length = ds.length := by
  have := congrArg List.length r.ks
  simpa using this
theorem RelKD.lk {K : PySem.W.Frag} {W : Wd} {k : κ} : ∀ {kvs : List (κ × V)} {ds : List (κ × Dat)}, RelKD K W kvs ds → (valV kvs k = none ∧ DL.lk ds k = none) ∨ ∃ v d, valV kvs k = some v ∧ DL.lk ds k = some d ∧ D K W v d
  | [], [], _ => .inl ⟨rfl, rfl⟩
  | [], _ :: _, h => by cases h.ks
  | _ :: _, [], h => by cases h.ks
  | (a, v) :: kvs, (b, d) :: ds, h => by
    have h1 := h.ks
    have h2 := h.xs
    simp only [List.map_cons, List.cons.injEq] at h1
    obtain ⟨rfl, h3⟩ := h1
    cases h2 with
    | cons x1 x2 =>
      by_cases q : a = k
      · exact .inr ⟨v, d, valV_pos q, by simp [DL.lk, List.find?_cons, q], x1⟩
      · rcases RelKD.lk (k := k) ⟨h3, x2⟩ with ⟨e1, e2⟩ | ⟨v', d', e1, e2, x⟩
        · exact .inl ⟨(valV_neg q).trans e1, by simpa [DL.lk, List.find?_cons, q] using e2⟩
        · exact .inr ⟨v', d', (valV_neg q).trans e1, by simpa [DL.lk, List.find?_cons, q] using e2, x⟩
theorem RelKD.repl {K : PySem.W.Frag} {W : Wd} {k : κ} {v : V} {d : Dat} (x : D K W v d) : ∀ {kvs : List (κ × V)} {ds : List (κ × Dat)}, RelKD K W kvs ds → RelKD K W (kvs.map fun p => if p.1 = k then (p.1, v) else p) (ds.map fun p => if p.1 = k then (p.1, d) else p)
  | [], [], _ => ⟨rfl, .nil⟩
  | [], _ :: _, h => by cases h.ks
  | _ :: _, [], h => by cases h.ks
  | (a, u) :: kvs, (b, e) :: ds, h => by
    have h1 := h.ks
    have h2 := h.xs
    simp only [List.map_cons, List.cons.injEq] at h1
    obtain ⟨rfl, h3⟩ := h1
    cases h2 with
    | cons x1 x2 =>
      have ih := RelKD.repl x (k := k) ⟨h3, x2⟩
      by_cases q : a = k
      · exact ⟨by simp [q]; simpa using ih.ks, by simp only [List.map_cons, q, if_pos rfl]; exact .cons x ih.xs⟩
      · exact ⟨by simp [q]; simpa using ih.ks, by simp only [List.map_cons, q, if_false]; exact .cons x1 ih.xs⟩
theorem RelKD.pt {K : PySem.W.Frag} {W : Wd} {k : κ} {v : V} {d : Dat} {kvs : List (κ × V)} {ds : List (κ × Dat)} (h : RelKD K W kvs ds) (x : D K W v d) : RelKD K W (putK kvs k v) (DL.pt ds k d) := by
  have ea : (kvs.any fun kv => decide (kv.1 = k)) = (ds.any fun p => decide (p.1 = k)) := by
    have := h.ks
    have e1 : (kvs.any fun kv => decide (kv.1 = k)) = (kvs.map (·.1)).any fun z => decide (z = k) := by rw [List.any_map]; rfl
    have e2 : (ds.any fun kv => decide (kv.1 = k)) = (ds.map (·.1)).any fun z => decide (z = k) := by rw [List.any_map]; rfl
    rw [e1, e2, this]
  unfold putK DL.pt
  rw [ea]
  split
  · exact h.repl x
  · exact ⟨by simp [h.ks], by rw [List.map_append, List.map_append]; exact h.xs.append (.cons x .nil)⟩
end
/-! what a dict holds, by typed keys -/
def dKs (m : Mu) : Dat → Option (List (Key × Dat))
  | .ref n => match m n with
    | some (.dcK ds) => some ds
    | _ => none
  | .dfK ds => some ds
  | _ => none
def dTs (m : Mu) : Dat → Option (List (List Key × Dat))
  | .ref n => match m n with
    | some (.dcT ds) => some ds
    | _ => none
  | .dfT ds => some ds
  | _ => none
def tkeyD : Dat → Option (List Key)
  | .tup ds => keysD ds
  | _ => none
section
variable {K : PySem.W.Frag} {W : Wd} {m : Mu} {v : V} {d : Dat}
theorem D.dks {ds : List (Key × Dat)} (S : Sim K W m) (h : D K W v d) (e : dKs m d = some ds) : ∃ a kvs, v = .ref a ∧ Rd W.H a (.dK kvs) ∧ RelKD K W kvs ds := by
  cases d with
  | ref n =>
    simp only [dKs] at e
    split at e
    · rename_i es hm
      cases e
      obtain ⟨a, rfl⟩ : ∃ a, v = .ref a := by cases h; exact ⟨_, rfl⟩
      obtain ⟨⟨kvs, h1, h2, h3⟩, _⟩ := D.cell S h hm
      exact ⟨a, kvs, rfl, .inl h1, h2, h3⟩
    · cases e
  | dfK es =>
    cases e
    cases h with
    | dfK s e k x => exact ⟨_, _, rfl, .inr ⟨_, e⟩, k, x⟩
  | _ => cases e
theorem D.dts {ds : List (List Key × Dat)} (S : Sim K W m) (h : D K W v d) (e : dTs m d = some ds) : ∃ a kvs, v = .ref a ∧ Rd W.H a (.dT kvs) ∧ RelKD K W kvs ds := by
  cases d with
  | ref n =>
    simp only [dTs] at e
    split at e
    · rename_i es hm
      cases e
      obtain ⟨a, rfl⟩ : ∃ a, v = .ref a := by cases h; exact ⟨_, rfl⟩
      obtain ⟨⟨kvs, h1, h2, h3⟩, _⟩ := D.cell S h hm
      exact ⟨a, kvs, rfl, .inl h1, h2, h3⟩
    · cases e
  | dfT es =>
    cases e
    cases h with
    | dfT s e k x => exact ⟨_, _, rfl, .inr ⟨_, e⟩, k, x⟩
  | _ => cases e
theorem tkey_of {ks : List Key} (h : D K W v d) (e : tkeyD d = some ks) : ∃ b, v = .ref b ∧ W.H b = some (.tup (ks.map kV)) := by
  cases d with
  | tup ds =>
    obtain ⟨a, rfl⟩ : ∃ a, v = .ref a := by cases h; exact ⟨_, rfl⟩
    cases h with
    | tup h1 h2 =>
      obtain ⟨rfl, _⟩ := keysD_of h2 e
      exact ⟨a, rfl, h1⟩
  | _ => cases e
end
section
variable {X : Cx} {e i o a b : Expr} {pos : Pos} {wa wd wk wv : WE}
/-! {} -/
def dNewK : WE := fun _ m F => ∀ n, m n = none → F (.ref n) (m.set n (.dcK []))
def dNewT : WE := fun _ m F => ∀ n, m n = none → F (.ref n) (m.set n (.dcT []))
theorem de_newK : DE X (.Dict [] [] pos) dNewK :=
  PE.imp pe_dnewK fun σ H Q ⟨W, r, m, F, e, S, V, h, k⟩ => by
    subst e
    intro p hp
    obtain ⟨n, hn, hi, l2, S2⟩ := S.newM (o := .dK []) (c := .dcK []) hp
    exact k _ _ _ _ l2 (S2 ⟨[], upd_same, rfl, .nil⟩) (.ref (by simp)) (h n hn)
theorem de_newT : DE X (.Dict [] [] pos) dNewT :=
  PE.imp pe_dnewT fun σ H Q ⟨W, r, m, F, e, S, V, h, k⟩ => by
    subst e
    intro p hp
    obtain ⟨n, hn, hi, l2, S2⟩ := S.newM (o := .dT []) (c := .dcT []) hp
    exact k _ _ _ _ l2 (S2 ⟨[], upd_same, rfl, .nil⟩) (.ref (by simp)) (h n hn)
/-! k in d -/
def dInD (wk wd : WE) : WE := fun r m F => wk r m fun x m1 => wd r m1 fun d m2 => (∃ ds k, dKs m2 d = some ds ∧ keyD x = some k ∧ F (.bl (lk ds k).isSome) m2) ∨ ∃ ds ks, dTs m2 d = some ds ∧ tkeyD x = some ks ∧ F (.bl (lk ds ks).isSome) m2
def dNinD (wk wd : WE) : WE := fun r m F => wk r m fun x m1 => wd r m1 fun d m2 => (∃ ds k, dKs m2 d = some ds ∧ keyD x = some k ∧ F (.bl (!(lk ds k).isSome)) m2) ∨ ∃ ds ks, dTs m2 d = some ds ∧ tkeyD x = some ks ∧ F (.bl (!(lk ds ks).isSome)) m2
theorem rel_isSome {κ : Type} [DecidableEq κ] {K : PySem.W.Frag} {W : Wd} {k : κ} {kvs : List (κ × V)} {ds : List (κ × Dat)} (r : RelKD K W kvs ds) : (valV kvs k).isSome = (lk ds k).isSome := by
  rcases r.lk (k := k) with ⟨e1, e2⟩ | ⟨v, d, e1, e2, _⟩ <;> rw [e1, e2] <;> rfl
/-- what a look-up of the key is -/
theorem dget_of {W : Wd} {m : Mu} {v y : V} {d x : Dat} {P : Option Dat → Prop} (S : Sim X.K W m) (hd : D X.K W v d) (hx : D X.K W y x) (h : (∃ ds k, dKs m d = some ds ∧ keyD x = some k ∧ P (lk ds k)) ∨ ∃ ds ks, dTs m d = some ds ∧ tkeyD x = some ks ∧ P (lk ds ks)) :
    ∃ a o p, v = .ref a ∧ DGet W.H a y o ∧ P p ∧ ((o = none ∧ p = none) ∨ ∃ v d, o = some v ∧ p = some d ∧ D X.K W v d) := by
  rcases h with ⟨ds, k, h1, h2, h3⟩ | ⟨ds, ks, h1, h2, h3⟩
  · obtain ⟨a, kvs, rfl, g1, g2⟩ := hd.dks S h1
    obtain ⟨rfl, _⟩ := keyD_of hx h2
    exact ⟨a, _, _, rfl, .inl ⟨kvs, k, g1, rfl, rfl⟩, h3, g2.lk⟩
  · obtain ⟨a, kvs, rfl, g1, g2⟩ := hd.dts S h1
    obtain ⟨b, rfl, hb⟩ := tkey_of hx h2
    exact ⟨a, _, _, rfl, .inr ⟨kvs, ks, b, g1, rfl, hb, rfl⟩, h3, g2.lk⟩
theorem de_inD (hu : X.A.units + 64 < cLine) (hk : DE X i wk) (hd : DE X o wd) (hm : behindInMarks .In o = false := by rfl) : DE X (.Compare i [.In] [o] pos) (dInD wk wd) :=
  PE.imp (pe_cmp (pc_din (by omega) hk hd) hm) fun σ H Q ⟨W, r, m, F, e, S, V, h, k⟩ => ⟨W, r, m, _, e, S, V, h, fun W1 m1 v1 d1 l1 S1 x1 q1 => ⟨W1, r, m1, _, rfl, S1, V.up l1.up, q1, fun W2 m2 v2 d2 l2 S2 x2 q2 => by
    obtain ⟨a, o, p, rfl, g, q, rel⟩ := dget_of (P := fun z => F (.bl z.isSome) m2) S2 x2 (x1.up l2.up) q2
    refine ⟨a, o, rfl, g, ?_⟩
    have : o.isSome = p.isSome := by rcases rel with ⟨rfl, rfl⟩ | ⟨_, _, rfl, rfl, _⟩ <;> rfl
    rw [this]
    exact k W2 m2 _ _ (l1.trans l2) S2 (.bl _) q⟩⟩
theorem de_ninD (hu : X.A.units + 64 < cLine) (hk : DE X i wk) (hd : DE X o wd) (hm : behindInMarks .NotIn o = false := by rfl) : DE X (.Compare i [.NotIn] [o] pos) (dNinD wk wd) :=
  PE.imp (pe_cmp (pc_dnotin (by omega) hk hd) hm) fun σ H Q ⟨W, r, m, F, e, S, V, h, k⟩ => ⟨W, r, m, _, e, S, V, h, fun W1 m1 v1 d1 l1 S1 x1 q1 => ⟨W1, r, m1, _, rfl, S1, V.up l1.up, q1, fun W2 m2 v2 d2 l2 S2 x2 q2 => by
    obtain ⟨a, o, p, rfl, g, q, rel⟩ := dget_of (P := fun z => F (.bl (!z.isSome)) m2) S2 x2 (x1.up l2.up) q2
    refine ⟨a, o, rfl, g, ?_⟩
    have : o.isSome = p.isSome := by rcases rel with ⟨rfl, rfl⟩ | ⟨_, _, rfl, rfl, _⟩ <;> rfl
    rw [this]
    exact k W2 m2 _ _ (l1.trans l2) S2 (.bl _) q⟩⟩
/-! d[k] -/
def dGetD (wd wk : WE) : WE := fun r m F => wd r m fun d m1 => wk r m1 fun x m2 => (∃ ds k, dKs m2 d = some ds ∧ keyD x = some k ∧ ∃ y, lk ds k = some y ∧ F y m2) ∨ ∃ ds ks, dTs m2 d = some ds ∧ tkeyD x = some ks ∧ ∃ y, lk ds ks = some y ∧ F y m2
theorem de_getD (hu : X.A.units + 64 < cLine) (hd : DE X o wd) (hk : DE X i wk) (hs : NoSl i := by exact fun _ _ => rfl) : DE X (.Subscript o i pos) (dGetD wd wk) :=
  PE.imp (pe_dget (by omega) hd hk hs) fun σ H Q ⟨W, r, m, F, e, S, V, h, k⟩ => ⟨W, r, m, _, e, S, V, h, fun W1 m1 v1 d1 l1 S1 x1 q1 => ⟨W1, r, m1, _, rfl, S1, V.up l1.up, q1, fun W2 m2 v2 d2 l2 S2 x2 q2 => by
    obtain ⟨a, o, p, rfl, g, ⟨y, hy, q⟩, rel⟩ := dget_of (P := fun z => ∃ y, z = some y ∧ F y m2) S2 (x1.up l2.up) x2 q2
    rcases rel with ⟨rfl, rfl⟩ | ⟨u, z, rfl, rfl, x⟩
    · cases hy
    · cases hy
      exact ⟨a, u, rfl, g, k W2 m2 _ _ (l1.trans l2) S2 x q⟩⟩⟩
/-! d.get(k, x) -/
def dGet2D (wd wk wx : WE) : WE := fun r m F => wd r m fun d m1 => (∃ ds, dKs m1 d = some ds) ∧ (wk r m1 fun x m2 => wx r m2 fun z m3 => ∃ ds k, dKs m3 d = some ds ∧ keyD x = some k ∧ ∃ y, (lk ds k).getD z = y ∧ F y m3) ∨ (∃ ds, dTs m1 d = some ds) ∧ (wk r m1 fun x m2 => wx r m2 fun z m3 => ∃ ds ks, dTs m3 d = some ds ∧ tkeyD x = some ks ∧ ∃ y, (lk ds ks).getD z = y ∧ F y m3)
theorem rel_getD {W : Wd} {o : Option V} {p : Option Dat} {z : V} {zd : Dat} (rel : (o = none ∧ p = none) ∨ ∃ v d, o = some v ∧ p = some d ∧ D X.K W v d) (hz : D X.K W z zd) : D X.K W (o.getD z) (p.getD zd) := by
  rcases rel with ⟨rfl, rfl⟩ | ⟨_, _, rfl, rfl, x⟩
  · exact hz
  · exact x
theorem de_get2D {f : Expr} {apos : Pos} {wx : WE} (hu : X.A.units + 64 < cLine) (hd : DE X o wd) (hk : DE X i wk) (hx : DE X f wx) (m2 : M2 X o "get" apos i f pos := by exact ⟨rfl, rfl, rfl, rfl⟩) : DE X (.Call (.Attribute o "get" apos) [i, f] [] pos) (dGet2D wd wk wx) :=
  PE.imp (pe_dget2 (by omega) hd hk hx m2) fun σ H Q ⟨W, r, m, F, e, S, V, h, k⟩ => ⟨W, r, m, _, e, S, V, h, fun W1 m1 v1 d1 l1 S1 x1 alt => by
    rcases alt with ⟨⟨ds0, g0⟩, q1⟩ | ⟨⟨ds0, g0⟩, q1⟩
    · obtain ⟨a, kvs, rfl, g1, _⟩ := x1.dks S1 g0
      refine ⟨a, rfl, .inl ⟨kvs, g1⟩, W1, r, m1, _, rfl, S1, V.up l1.up, q1, fun W2 m2 v2 d2 l2 S2 x2 q2 => ⟨W2, r, m2, _, rfl, S2, V.up (l1.trans l2).up, q2, fun W3 m3 v3 d3 l3 S3 x3 ⟨ds, ky, h1, h2, _, rfl, q3⟩ => ?_⟩⟩
      obtain ⟨a', o, p, ea, g, q, rel⟩ := dget_of (P := fun z => F (z.getD d3) m3) S3 (x1.up (l2.trans l3).up) (x2.up l3.up) (.inl ⟨ds, ky, h1, h2, q3⟩)
      cases ea
      exact ⟨o, g, k W3 m3 _ _ ((l1.trans l2).trans l3) S3 (rel_getD rel x3) q⟩
    · obtain ⟨a, kvs, rfl, g1, _⟩ := x1.dts S1 g0
      refine ⟨a, rfl, .inr ⟨kvs, g1⟩, W1, r, m1, _, rfl, S1, V.up l1.up, q1, fun W2 m2 v2 d2 l2 S2 x2 q2 => ⟨W2, r, m2, _, rfl, S2, V.up (l1.trans l2).up, q2, fun W3 m3 v3 d3 l3 S3 x3 ⟨ds, ky, h1, h2, _, rfl, q3⟩ => ?_⟩⟩
      obtain ⟨a', o, p, ea, g, q, rel⟩ := dget_of (P := fun z => F (z.getD d3) m3) S3 (x1.up (l2.trans l3).up) (x2.up l3.up) (.inr ⟨ds, ky, h1, h2, q3⟩)
      cases ea
      exact ⟨o, g, k W3 m3 _ _ ((l1.trans l2).trans l3) S3 (rel_getD rel x3) q⟩⟩
/-! d[k] = v -/
def dPutD (wd wk wv : WE) : WS := fun G r m => wv r m fun y m1 => wd r m1 fun d m2 => wk r m2 fun x m3 => ∃ n, d = .ref n ∧ ((∃ ds k, m3 n = some (.dcK ds) ∧ keyD x = some k ∧ ds.length < sizeLine ∧ G.nx r (m3.set n (.dcK (pt ds k y)))) ∨
  ∃ ds ks, m3 n = some (.dcT ds) ∧ tkeyD x = some ks ∧ ds.length < sizeLine ∧ G.nx r (m3.set n (.dcT (pt ds ks y))))
theorem ds_putD {v : Expr} {pos' : Pos} (hu : X.A.units + 64 < cLine) (hd : DE X o wd) (hk : DE X i wk) (hv : DE X v wv) (hs : swapsWith v (some (.Subscript o i pos')) pos.line X.env = pure false := by rfl) :
    DS X (.Assign [.Subscript o i pos'] v pos) (dPutD wd wk wv) :=
  PS.imp (ps_dput (by omega) hd hk hv hs) fun E σ H ⟨W, r, m, G, e, S, V, h, k1, _⟩ => ⟨W, r, m, _, e, S, V, h, fun W1 m1 v1 d1 l1 S1 x1 q1 => ⟨W1, r, m1, _, rfl, S1, V.up l1.up, q1, fun W2 m2 v2 d2 l2 S2 x2 q2 =>
    ⟨W2, r, m2, _, rfl, S2, V.up (l1.trans l2).up, q2, fun W3 m3 v3 d3 l3 S3 x3 ⟨n, hd, alt⟩ => by
      subst hd
      obtain ⟨a, rfl⟩ : ∃ a, v2 = .ref a := by cases x2; exact ⟨_, rfl⟩
      rcases alt with ⟨ds, ky, hm, hk, hl, q3⟩ | ⟨ds, ky, hm, hk, hl, q3⟩
      · obtain ⟨⟨kvs, h1, h2, h3⟩, hi⟩ := D.cell S3 (x2.up l3.up) hm
        obtain ⟨rfl, _⟩ := keyD_of x3 hk
        obtain ⟨l4, S4⟩ := S3.write (o := .dK (putK kvs ky v1)) (c' := .dcK (pt ds ky d1)) hm hi
        have rel : RelKD X.K W3 (putK kvs ky v1) (pt ds ky d1) := RelKD.pt ⟨h2, h3⟩ (x1.up (l2.trans l3).up)
        have rel2 := rel.up l4.up
        refine ⟨a, _, rfl, DPut.k h1 (by rw [RelKD.length ⟨h2, h3⟩]; exact hl), k1 _ _ σ r (((l1.trans l2).trans l3).trans l4) (S4 ⟨_, upd_same, rel2.ks, rel2.xs⟩) (V.up (((l1.trans l2).trans l3).trans l4).up) q3⟩
      · obtain ⟨⟨kvs, h1, h2, h3⟩, hi⟩ := D.cell S3 (x2.up l3.up) hm
        obtain ⟨b, rfl, hb⟩ := tkey_of x3 hk
        obtain ⟨l4, S4⟩ := S3.write (o := .dT (putK kvs ky v1)) (c' := .dcT (pt ds ky d1)) hm hi
        have rel : RelKD X.K W3 (putK kvs ky v1) (pt ds ky d1) := RelKD.pt ⟨h2, h3⟩ (x1.up (l2.trans l3).up)
        have rel2 := rel.up l4.up
        refine ⟨a, _, rfl, DPut.t h1 hb (by rw [RelKD.length ⟨h2, h3⟩]; exact hl), k1 _ _ σ r (((l1.trans l2).trans l3).trans l4) (S4 ⟨_, upd_same, rel2.ks, rel2.xs⟩) (V.up (((l1.trans l2).trans l3).trans l4).up) q3⟩⟩⟩⟩
end
end DL

/-! dicts settled and locked; walks of them; all, any, xs[::-1], enumerate, sorted(set(tuples)) -/
namespace DL
open PySem PySem.Spec PyProof.Rows L2
section
variable {K : PySem.W.Frag} {W : Wd} {m : Mu} {o : HO}
/-- a cell is changed for the last time, and settled -/
theorem Sim.writeF {n : Nat} {c : Cell} {a : Addr} (s : Sim K W m) (hc : m n = some c) (ha : W.io n = some a) : Le W ⟨fun b => W.S b ∨ b = a, W.io, upd W.H a o⟩ ∧ Sim K ⟨fun b => W.S b ∨ b = a, W.io, upd W.H a o⟩ (m.del n) := by
  obtain ⟨a', h1, h2, h3⟩ := s.cell n c hc
  rw [ha] at h1; cases h1
  have up : Le W ⟨fun b => W.S b ∨ b = a, W.io, upd W.H a o⟩ := by
    refine ⟨fun b h => .inl h, fun _ _ h => h, fun b u e h => ?_, fun b h => ?_, fun _ _ h => .inl h, fun b h => ?_, fun b xs h => ?_⟩
    · show upd W.H a o b = _
      rw [upd_ne]
      · exact e
      · rintro rfl
        rcases h with h | h
        · exact h2 h
        · exact h n ha
    · show (upd W.H a o b).isSome = true
      by_cases z : b = a
      · rw [z, upd_same]; rfl
      · rw [upd_ne z]; exact h
    · rcases h with h | h
      · exact .inl h
      · exact .inr (.inr ⟨n, by rw [h]; exact ha⟩)
    · show upd W.H a o b = _
      rw [upd_ne (by rintro rfl; exact h3.nt xs h)]; exact h
  refine ⟨up, ⟨fun k d e => ?_, s.inj, fun k b e => up.there b (s.thr k b e), fun b h => ?_, s.free⟩⟩
  · by_cases z : k = n
    · subst z; rw [Mu.del_same] at e; cases e
    · rw [Mu.del_ne _ z] at e
      obtain ⟨b, q1, q2, q3⟩ := s.cell k d e
      have nb : b ≠ a := fun y => z (s.inj k n a (y ▸ q1) ha)
      exact ⟨b, q1, fun y => y.elim q2 nb, q3.up up.up (upd_ne nb)⟩
  · rcases h with h | h
    · exact up.there b (s.fro b h)
    · show (upd W.H a o b).isSome = true
      rw [h, upd_same]; rfl
theorem keys_get {κ : Type} {kvs : List (κ × V)} {ds : List (κ × Dat)} (h : kvs.map (·.1) = ds.map (·.1)) {i : Nat} {k : κ} {v : V} (e : kvs[i]? = some (k, v)) : (ds.map (·.1))[i]? = some k := by
  rw [← h, List.getElem?_map, e]; rfl
theorem dall_keys : ∀ ks : List Key, DAll K W (ks.map kV) (ks.map datK)
  | [] => .nil
  | .inl i :: ks => .cons (.int i) (dall_keys ks)
  | .inr x :: ks => .cons (.str x) (dall_keys ks)
theorem src_keysT {a : Addr} {od : Obj} {kvs : List (List Key × V)} {ds : List (List Key × Dat)} (e : W.H a = some (.frz od (.dT kvs))) (s : W.S a) (hk : kvs.map (·.1) = ds.map (·.1)) : SrcOk K W ⟨ds.map fun p => datT p.1, gTrue⟩ (Itkt a od kvs) := by
  have hl : kvs.length = ds.length := by simpa using congrArg List.length hk
  refine ⟨fun H => H a = some (.frz od (.dT kvs)), fun i H x H' => H' = H ∧ ∃ (k : List Key) (v : V) (q : Addr), kvs[i]? = some (k, v) ∧ x = .ref q ∧ H q = some (.tup (k.map kV)), ?_, fun W1 m1 l S g => l.kS _ _ s e, fun W1 m1 i v H' l S g hi y => ?_⟩
  · show Walk _ (ds.map _).length _ _
    rw [List.length_map, ← hl]; exact walk_keysT
  · obtain ⟨rfl, k, v', q, h1, rfl, h2⟩ := y
    refine ⟨W1, datT k, rfl, .refl _, S, ?_, .tup h2 (dall_keys k)⟩
    have := keys_get hk h1
    show (ds.map (datT ∘ Prod.fst))[i]? = _
    rw [← List.map_map, List.getElem?_map, this]; rfl
theorem src_keysK {a : Addr} {od : Obj} {kvs : List (Key × V)} {ds : List (Key × Dat)} (e : W.H a = some (.frz od (.dK kvs))) (s : W.S a) (hk : kvs.map (·.1) = ds.map (·.1)) : SrcOk K W ⟨ds.map fun p => datK p.1, gTrue⟩ (Itk a od kvs) := by
  have hl : kvs.length = ds.length := by simpa using congrArg List.length hk
  refine ⟨fun H => H a = some (.frz od (.dK kvs)), fun i H x H' => H' = H ∧ ∃ k v, kvs[i]? = some (k, v) ∧ x = kV k, ?_, fun W1 m1 l S g => l.kS _ _ s e, fun W1 m1 i v H' l S g hi y => ?_⟩
  · show Walk _ (ds.map _).length _ _
    rw [List.length_map, ← hl]; exact walk_keys
  · obtain ⟨rfl, k, v', h1, rfl⟩ := y
    refine ⟨W1, datK k, rfl, .refl _, S, ?_, ?_⟩
    · have := keys_get hk h1
      show (ds.map (datK ∘ Prod.fst))[i]? = _
      rw [← List.map_map, List.getElem?_map, this]; rfl
    · cases k with
      | inl i => exact .int i
      | inr x => exact .str x
end
section
variable {X : Cx} {e i o a b tg : Expr} {pos p : Pos} {wa w wk wv : WE}
/-- a dict that is settled and locked from now on -/
def dFrz (w : WE) : WE := fun r m F => w r m fun d m1 => ∃ n, d = .ref n ∧ ((∃ ds, m1 n = some (.dcT ds) ∧ F (.dfT ds) (m1.del n)) ∨ ∃ ds, m1 n = some (.dcK ds) ∧ F (.dfK ds) (m1.del n))
theorem de_frz (h : DE X e w) : DE X e (dFrz w) := by
  refine ⟨fun pins s σ H Q I ⟨W, r, m, F, e0, S, V, h2, k⟩ => ?_⟩
  refine thn (h.run pins s σ H (fun v H1 => ∃ a u, v = .ref a ∧ H1 a = some u ∧ Mut (some u) ∧ ∀ od, Q (.ref a) (upd H1 a (.frz od u))) I ⟨W, r, m, _, e0, S, V, h2, fun W1 m1 v d l1 S1 x1 ⟨n, hd, alt⟩ => ?_⟩) fun v s1 ⟨x, H1, I1, r1, a, u, ex, ha, mu, q⟩ => ?_
  · subst hd
    obtain ⟨a, rfl⟩ : ∃ a, v = .ref a := by cases x1; exact ⟨_, rfl⟩
    rcases alt with ⟨ds, hm, q⟩ | ⟨ds, hm, q⟩
    · obtain ⟨⟨kvs, h1, h2, h3⟩, hi⟩ := D.cell S1 x1 hm
      refine ⟨a, _, rfl, h1, trivial, fun od => ?_⟩
      obtain ⟨l2, S2⟩ := S1.writeF (o := .frz od (.dT kvs)) hm hi
      exact k _ _ _ _ (l1.trans l2) S2 (.dfT (.inr rfl) upd_same h2 (h3.up l2.up)) q
    · obtain ⟨⟨kvs, h1, h2, h3⟩, hi⟩ := D.cell S1 x1 hm
      refine ⟨a, _, rfl, h1, trivial, fun od => ?_⟩
      obtain ⟨l2, S2⟩ := S1.writeF (o := .frz od (.dK kvs)) hm hi
      exact k _ _ _ _ (l1.trans l2) S2 (.dfK (.inr rfl) upd_same h2 (h3.up l2.up)) q
  · subst ex
    obtain ⟨od, I2⟩ := I1.lock ha mu
    exact ⟨.ref a, _, I2, r1, q od⟩
/-- for k in d, d settled and locked -/
def diKeys (w : WE) : WI := fun r m k => w r m fun d m1 => (∃ ds, d = .dfT ds ∧ k ⟨ds.map fun p => datT p.1, gTrue⟩ m1) ∨ ∃ ds, d = .dfK ds ∧ k ⟨ds.map fun p => datK p.1, gTrue⟩ m1
theorem di_keys (h : DE X e w) : DI X tg e (diKeys w) :=
  PI.imp (pi_keys h) fun σ H R ⟨W, r, m, k, e0, S, V, h2, q⟩ => ⟨W, r, m, _, e0, S, V, h2, fun W1 m1 v d l1 S1 x1 alt => by
    rcases alt with ⟨ds, rfl, q1⟩ | ⟨ds, rfl, q1⟩
    · cases x1 with
      | dfT s e hk x => exact ⟨_, _, rfl, .inr ⟨_, e, q W1 m1 _ _ l1 S1 (src_keysT e s hk) q1⟩⟩
    · cases x1 with
      | dfK s e hk x => exact ⟨_, _, rfl, .inl ⟨_, e, q W1 m1 _ _ l1 S1 (src_keysK e s hk) q1⟩⟩⟩
/-! all, any of a list of truths -/
theorem bls_of {K : PySem.W.Frag} {W : Wd} : ∀ {vs : List V} {bs : List Bool}, DAll K W vs (bs.map .bl) → vs = bs.map .bl
  | _, [], h => by cases h; rfl
  | _, n :: ns, h => by
    rw [List.map_cons] at h
    cases h with
    | cons a b => cases a; rw [bls_of b]; rfl
def rAllB : RLD := fun ds m F => ∃ (d : Dat) (bs : List Bool), ds = [d] ∧ items m d = some (bs.map .bl) ∧ F (.bl (bs.all id)) m
def rAnyB : RLD := fun ds m F => ∃ (d : Dat) (bs : List Bool), ds = [d] ∧ items m d = some (bs.map .bl) ∧ F (.bl (bs.any id)) m
theorem c_allB (hc : X.calm = true) : CallR X (.builtin "all") (liftL X.K rAllB) := by
  rintro pins s σ H xs us Q I r ⟨W, m, ds, F, e, S, xa, ⟨d, bs, rfl, hd, h⟩, k⟩
  subst e
  obtain ⟨v, rfl, x1⟩ := dall1 xa
  obtain ⟨a, ys, rfl, e1, q1⟩ := x1.items S hd
  rw [bls_of q1] at e1
  exact cr_all hc pins s σ _ _ us Q I r ⟨a, bs, rfl, SqL.of e1, fin0 S k h (.bl _)⟩
theorem c_anyB (hc : X.calm = true) : CallR X (.builtin "any") (liftL X.K rAnyB) := by
  rintro pins s σ H xs us Q I r ⟨W, m, ds, F, e, S, xa, ⟨d, bs, rfl, hd, h⟩, k⟩
  subst e
  obtain ⟨v, rfl, x1⟩ := dall1 xa
  obtain ⟨a, ys, rfl, e1, q1⟩ := x1.items S hd
  rw [bls_of q1] at e1
  exact cr_any hc pins s σ _ _ us Q I r ⟨a, bs, rfl, SqL.of e1, fin0 S k h (.bl _)⟩
/-! xs[::-1] -/
def dRevL (w : WE) : WE := fun r m F => w r m fun d m1 => ∃ ds, items m1 d = some ds ∧ F (.lst ds.reverse) m1
theorem de_revL {k : Nat} {p1 p2 p3 : Pos} (h : DE X e w) : DE X (.Subscript e (.Slice none none (some (.UnaryOp .USub (.Constant (.int 1) k p1) p2)) p3) pos) (dRevL w) :=
  PE.imp (pe_revL h) fun σ H Q ⟨W, r, m, F, e0, S, V, h, k⟩ => ⟨W, r, m, _, e0, S, V, h, fun W1 m1 v1 d1 l1 S1 x1 ⟨ds, q1, q2⟩ => by
    obtain ⟨a, ys, rfl, e1, q⟩ := x1.items S1 q1
    exact ⟨a, ys, rfl, SqL.of e1, fun p hp => finL S1 (fun W' m' v d l S x q => k W' m' v d (l1.trans l) S x q) q2 q.reverse hp⟩⟩
end
end DL

/-! d.update(e), keys that are tuples; enumerate(xs); sorted(set(tuples of ints)) -/
namespace DL
open PySem PySem.Spec PyProof.Rows L2
def mergeT (kvs more : List (List Key × V)) : List (List Key × V) := more.foldl (fun acc p => putK acc p.1 p.2) kvs
def mgT (ds es : List (List Key × Dat)) : List (List Key × Dat) := es.foldl (fun acc p => pt acc p.1 p.2) ds
theorem kt_merge {H : Hp} : ∀ {more : List (List Key × V)} {ys : List (List Key × Addr × Value)} {kvs : List (List Key × V)} {xs : List (List Key × Addr × Value)}, KT H more ys → KT H kvs xs → KT H (mergeT kvs more) (storedAllH xs ys)
  | [], [], _, _, _, r => r
  | (k, v) :: more, (k', b, u) :: ys, kvs, xs, h, r => by
    cases h with
    | cons h1 h2 =>
      obtain ⟨e1, e2, e3⟩ := h1
      have e1 : k = k' := e1
      subst e1
      exact kt_merge (more := more) (ys := ys) h2 (r.put k e2 e3)
  | [], _ :: _, _, _, h, _ => by cases h
  | _ :: _, [], _, _, h, _ => by cases h
theorem length_mergeT : ∀ (more kvs : List (List Key × V)), (mergeT kvs more).length ≤ kvs.length + more.length
  | [], kvs => Nat.le_refl _
  | p :: more, kvs => by
    have h1 := length_mergeT more (putK kvs p.1 p.2)
    have h2 := length_putK kvs p.1 p.2
    show (mergeT (putK kvs p.1 p.2) more).length ≤ _
    simp only [List.length_cons]
    omega
theorem rel_merge {K : PySem.W.Frag} {W : Wd} : ∀ {more : List (List Key × V)} {es : List (List Key × Dat)} {kvs : List (List Key × V)} {ds : List (List Key × Dat)}, RelKD K W more es → RelKD K W kvs ds → RelKD K W (mergeT kvs more) (mgT ds es)
  | [], [], _, _, _, r => r
  | [], _ :: _, _, _, h, _ => by cases h.ks
  | _ :: _, [], _, _, h, _ => by cases h.ks
  | (k, v) :: more, (k', d) :: es, kvs, ds, h, r => by
    have h1 := h.ks
    have h2 := h.xs
    simp only [List.map_cons, List.cons.injEq] at h1
    obtain ⟨rfl, h3⟩ := h1
    cases h2 with
    | cons x1 x2 => exact rel_merge (more := more) (es := es) ⟨h3, x2⟩ (r.pt x1)
section
variable {X : Cx}
def rUpdT0 : V → List V → Hp → VK → Prop := fun x xs H Q => ∃ (a b : Addr) (kvs more : List (List L2.Key × V)), x = .ref a ∧ xs = [.ref b] ∧ H a = some (.dT kvs) ∧ Rd H b (.dT more) ∧ a ≠ b ∧ kvs ≠ [] ∧ kvs.length + more.length ≤ sizeLine ∧ Q .non (upd H a (.dT (mergeT kvs more)))
theorem mt_updT (hu : X.A.units + 64 < cLine) : MtR X "dict.update" rUpdT0 := by
  intro pins s σ H x xs v us Q I rx rxs h
  obtain ⟨a, b, kvs, more, rfl, rfl, ha, hb, hne, hk, hz, q⟩ := h
  cases rx
  obtain ⟨u1, rfl, r1⟩ := rxs.one
  cases r1
  obtain ⟨z, hd, xs', rel, dd⟩ := dt_of I.hok ha
  obtain ⟨z2, hd2, ys', rel2, dd2⟩ := dt_rd I.hok hb
  have hl1 : kvs.length = xs'.length := Paired.length rel
  have hl2 : more.length = ys'.length := Paired.length rel2
  refine call_update_dictH (knd := tupleKind (mixKind X.prog X.w)) (tupleKind_room_in1 (by omega)) hne hd2 dd dd2 (.inl fun e => hk (List.length_eq_zero_iff.mp (by rw [hl1, e]; rfl))) (by omega) fun h' dd' _ hs => ?_
  obtain ⟨o, es, ep, hq, h2, h3, h4, _, h5⟩ := dd'
  have I2 : Inv X pins σ (upd H a (.dT (mergeT kvs more))) { s with heap := h' } :=
    d_write (t' := s.toks) I (by rw [ha]; exact True.intro) hs ⟨o, hq⟩ ⟨Nat.le_trans (length_mergeT more kvs) hz, hd, _, (kt_merge rel2 rel).keeps (fun c ys ec => (by rw [upd_ne (ne_of ec ha (fun z => nomatch z))]; exact ec)), o, es, ep, hq, h2, h3, h4, h5⟩
  exact ⟨.non, _, I2, rfl, q⟩
def rUpdT : RMD := fun d ds m F => ∃ n es fs x, d = .ref n ∧ ds = [x] ∧ m n = some (.dcT es) ∧ dTs m x = some fs ∧ x ≠ .ref n ∧ es ≠ [] ∧ es.length + fs.length ≤ sizeLine ∧ F .non (m.set n (.dcT (mgT es fs)))
theorem m_updT (hu : X.A.units + 64 < cLine) : MtR X "dict.update" (liftM X.K rUpdT) := by
  rintro pins s σ H x xs v us Q I rx rs ⟨W, m, d, ds, F, e, S, xa, xb, ⟨n, es, fs, y, rfl, rfl, hm, hy, hne, h0, hl, h⟩, k⟩
  subst e
  obtain ⟨u, rfl, x2⟩ := dall1 xb
  obtain ⟨a, rfl⟩ : ∃ a, x = .ref a := by cases xa; exact ⟨_, rfl⟩
  obtain ⟨⟨kvs, h1, h2, h3⟩, hi⟩ := D.cell S xa hm
  obtain ⟨b, more, rfl, g1, g2⟩ := x2.dts S hy
  have rel : RelKD X.K W kvs es := ⟨h2, h3⟩
  have hab : a ≠ b := by
    rintro rfl
    cases y with
    | ref k' =>
      cases x2 with
      | ref hk' => exact hne (by rw [S.inj k' n a hk' hi])
    | dfT fs' =>
      cases x2 with
      | dfT s' e' _ _ => rw [h1] at e'; cases e'
    | _ => cases hy
  obtain ⟨l2, S2⟩ := S.write (o := .dT (mergeT kvs more)) (c' := .dcT (mgT es fs)) hm hi
  have rel2 := (rel_merge g2 rel).up l2.up
  refine mt_updT hu pins s σ _ _ _ v us Q I rx rs ⟨a, b, kvs, more, rfl, rfl, h1, g1, hab, fun e => h0 (List.length_eq_zero_iff.mp (by rw [← rel.length, e]; rfl)), by rw [rel.length, g2.length]; exact hl, ?_⟩
  exact k _ _ _ _ l2 (S2 ⟨_, upd_same, rel2.ks, rel2.xs⟩) .non h
end
/-! enumerate(xs) -/
def enumS (src : Src) : Src := ⟨src.items.mapIdx fun i d => .tup [.int (i : Nat), d], src.guard⟩
theorem src_enum {K : PySem.W.Frag} {W : Wd} {a : Addr} {src : Src} (h : ∀ W2 m2, Up W W2 → Sim K W2 m2 → src.guard m2 → ∃ xs, SqL K W2.H a xs ∧ DAll K W2 xs src.items) : SrcOk K W (enumS src) (Ite K a) := by
  refine ⟨fun H => ∃ xs, SqL K H a xs ∧ xs.length = src.items.length, fun i H v H' => ∃ T x, v = .ref T ∧ H T = none ∧ H' = upd H T (.tup [.int (i : Nat), x]) ∧ ∀ xs, SqL K H a xs → xs[i]? = some x, ⟨fun i H hi ⟨xs, q1, q2⟩ => ?_, fun H ⟨xs, q1, q2⟩ => ?_, fun i H x H' hi ⟨xs, q1, q2⟩ y => ?_⟩, fun W1 m1 l S g => ?_, fun W1 m1 i v H' l S g hlt y => ?_⟩
  · have hi : i < src.items.length := by simpa [enumS] using hi
    exact ⟨xs, xs[i]'(by omega), q1, List.getElem?_eq_getElem _⟩
  · exact ⟨xs, q1, by show xs.length ≤ _; simp [enumS]; omega⟩
  · obtain ⟨T, x, h1, h2, h3, h4⟩ := y
    exact ⟨T, x, h1, h2, h3, h4⟩
  · obtain ⟨xs, q1, x1⟩ := h W1 m1 l S g
    exact ⟨xs, q1, x1.length⟩
  · obtain ⟨xs, q1, x1⟩ := h W1 m1 l S g
    obtain ⟨T, x, rfl, hT, rfl, f1⟩ := y
    obtain ⟨d, e1, r1⟩ := x1.getV (f1 xs q1)
    obtain ⟨l2, S2⟩ := S.newF (o := .tup [.int (i : Nat), x]) hT
    refine ⟨_, .tup [.int (i : Nat), d], rfl, l2, S2, ?_, .tup upd_same (.cons (.int _) (.cons (r1.up l2.up) .nil))⟩
    show (src.items.mapIdx _)[i]? = _
    rw [List.getElem?_mapIdx, e1]; rfl
def diEnum (w : WE) : WI := fun r m k => w r m fun d m1 => (∃ ds, d = .lst ds ∧ k (enumS ⟨ds, gTrue⟩) m1) ∨ ∃ n ds, d = .ref n ∧ m1 n = some (.lst ds) ∧ k (enumS ⟨ds, fun m => m n = some (.lst ds)⟩) m1
section
variable {X : Cx} {e : Expr} {w wa : WE} {p p2 pos pos2 tpos : Pos} {elts : List Expr} {kk : Nat}
theorem di_enum (hg : Gl X "enumerate") (hm : X.mg "enumerate" = none) (h : DE X e w) (hs : starEach [e] X.env = [(false, eval e X.env)] := by rfl) : DI X (.Tuple elts kk tpos) (.Call (.Name "enumerate" p) [e] [] pos) (diEnum w) :=
  PI.imp (pi_enum hg hm (pa_cons h pa_nil hs) hs) fun σ H R ⟨W, r, m, k, e0, S, V, h2, q⟩ => ⟨W, r, m, _, e0, S, V, h2, fun W1 m1 v d l1 S1 x1 alt => by
    rcases alt with ⟨ds, rfl, q1⟩ | ⟨n, ds, rfl, hm, q1⟩
    · cases x1 with
      | lst s e x =>
        exact ⟨_, _, rfl, SqL.of e, q W1 m1 _ _ l1 S1 (src_enum fun W2 m2 l _ _ => ⟨_, SqL.of (l.kS _ _ s e), x.up l⟩) q1⟩
    · cases x1 with
      | ref hi =>
        obtain ⟨⟨ys, h3, h4⟩, _⟩ := D.cell S1 (.ref hi) hm
        refine ⟨_, _, rfl, SqL.of h3, q W1 m1 _ _ l1 S1 (src_enum fun W2 m2 l S2 g => ?_) q1⟩
        obtain ⟨⟨zs, h5, h6⟩, _⟩ := D.cell (a := _) S2 (.ref (l.sI _ _ hi)) g
        exact ⟨zs, SqL.of h5, h6⟩⟩
/-! sorted(set(tuples of ints)) -/
def tupI (ns : List Int) : Dat := .tup (ns.map .int)
def dSortSetT (wa : WE) : WE := fun r m F => wa r m fun d m1 => ∃ (iss : List (List Int)) (D : Nat) (B : Int), items m1 d = some (iss.map tupI) ∧ iss.length < 64 ∧ 1 ≤ D ∧ (∀ k ∈ iss, k.length = D ∧ TS.Bd B k) ∧
  ∀ out : List (List Int), out.Nodup → (∀ k, k ∈ out ↔ k ∈ iss) → out.Pairwise (fun x y => TS.code B x ≤ TS.code B y) → F (.lst (out.map tupI)) m1
theorem tups_of {K : PySem.W.Frag} {W : Wd} : ∀ {vs : List V} {iss : List (List Int)}, DAll K W vs (iss.map tupI) → ∃ ks : List (Addr × List Int), vs = ks.map (fun p => V.ref p.1) ∧ ks.map (·.2) = iss ∧ ∀ p ∈ ks, W.H p.1 = some (.tup (p.2.map V.int))
  | _, [], h => by cases h; exact ⟨[], rfl, rfl, fun _ h => by cases h⟩
  | _, ns :: iss, h => by
    rw [List.map_cons] at h
    cases h with
    | cons x1 x2 =>
      obtain ⟨ks, h1, h2, h3⟩ := tups_of x2
      unfold tupI at x1
      cases x1 with
      | tup e x =>
        rw [ints_of x] at e
        rename_i a _
        exact ⟨(a, ns) :: ks, by rw [h1]; rfl, by simp [h2], fun p hp => by
          rcases List.mem_cons.mp hp with rfl | hp
          · exact e
          · exact h3 p hp⟩
theorem de_sortSetT (hc : X.calm = true) (hu : X.A.units + 64 < cLine) (hg : Gl X "sorted") (hm : X.mg "sorted" = none) (hg2 : Gl X "set") (hm2 : X.mg "set" = none) (ha : DE X e wa)
    (he : starEach [e] X.env = [(false, eval e X.env)] := by rfl) (he2 : starEach [.Call (.Name "set" p2) [e] [] pos2] X.env = [(false, eval (.Call (.Name "set" p2) [e] [] pos2) X.env)] := by rfl) :
    DE X (.Call (.Name "sorted" p) [.Call (.Name "set" p2) [e] [] pos2] [] pos) (dSortSetT wa) :=
  PE.imp (pe_callB (id := "sorted") (cr_sortedT hc) hg hm (by decide +kernel) (pa_cons (pe_callTy (T := "set") (cr_setOfT hc hu) hg2 hm2 (by decide +kernel) (pa_cons ha pa_nil he) (by decide) (by decide) he) pa_nil he2) (by decide) (by decide) he2) fun σ H Q ⟨W, r, m, F, e, S, Ve, h, k⟩ =>
    ⟨W, r, m, _, e, S, Ve, h, fun W1 m1 v1 d1 l1 S1 x1 ⟨iss, D, B, q1, q2, q3, q4, q5⟩ => by
      obtain ⟨a, ys, rfl, e1, q⟩ := x1.items S1 q1
      obtain ⟨ks, rfl, g2, g3⟩ := tups_of q
      have hlen : ks.length = iss.length := by rw [← g2, List.length_map]
      refine ⟨a, ks, rfl, SqL.of e1, fun p hp => SqT.of (g3 p hp), by omega, fun c L hc0 hL1 hL2 => ?_⟩
      have nc : ∀ p ∈ ks, p.1 ≠ c := fun p hp z => by have := g3 p hp; rw [z, hc0] at this; cases this
      obtain ⟨l2, S2⟩ := S1.newF (o := SetTO X.prog X.w c L) hc0
      have tp : ∀ p ∈ L, upd W1.H c (SetTO X.prog X.w c L) p.1 = some (.tup (p.2.map V.int)) := fun p hp => by rw [upd_ne (nc p (hL1 p hp))]; exact g3 p (hL1 p hp)
      refine ⟨c, L, D, B, rfl, upd_same, fun p hp => SqT.of (tp p hp), q3, fun p hp => q4 p.2 (by rw [← g2]; exact List.mem_map.mpr ⟨p, hL1 p hp, rfl⟩), fun L' p' hpm hnd hl64 hpw hp' => ?_⟩
      have hx : DAll X.K ⟨fun a => W1.S a ∨ a = c, W1.io, upd W1.H c (SetTO X.prog X.w c L)⟩ (L'.map fun q => V.ref q.1) ((L'.map (·.2)).map tupI) := by
        have : ∀ M : List (Addr × List Int), (∀ p ∈ M, p ∈ L) → DAll X.K ⟨fun a => W1.S a ∨ a = c, W1.io, upd W1.H c (SetTO X.prog X.w c L)⟩ (M.map fun q => V.ref q.1) ((M.map (·.2)).map tupI) := by
          intro M
          induction M with
          | nil => intro _; exact .nil
          | cons p M ih =>
            intro hM
            exact .cons (.tup (tp p (hM p (by simp))) (dall_ints p.2)) (ih fun q hq => hM q (by simp [hq]))
        exact this L' fun p hp => hpm.mem_iff.mp hp
      refine finL S2 (fun W' m' v d l S x q => k W' m' v d ((l1.trans l2).trans l) S x q) (q5 (L'.map (·.2)) hnd (fun z => ?_) (by rw [List.pairwise_map]; exact hpw)) hx hp'
      rw [(hpm.map (·.2)).mem_iff, ← g2]
      constructor
      · intro hz
        obtain ⟨p, hp, rfl⟩ := List.mem_map.mp hz
        exact List.mem_map.mpr ⟨p, hL1 p hp, rfl⟩
      · intro hz
        obtain ⟨p, hp, rfl⟩ := List.mem_map.mp hz
        exact hL2 p hp⟩
end
end DL

/-! a displayed dict that is a cell; how the new rules are read -/
namespace DL
open PySem PySem.Spec PyProof.Rows L2
def dDictMK (ws : List (WE × WE)) : WE := fun r m F => dPairs ws r m fun ps m1 => ∃ es : List (Key × Dat), ps = es.map (fun p => (datK p.1, p.2)) ∧ (es.map (·.1)).Nodup ∧ ps.length ≤ 15 ∧ ∀ n, m1 n = none → F (.ref n) (m1.set n (.dcK es))
theorem keysD_map (es : List (Key × Dat)) : keysD ((es.map fun p => (datK p.1, p.2)).map (·.1)) = some (es.map (·.1)) := by
  induction es with
  | nil => rfl
  | cons p es ih =>
    simp only [List.map_cons, keysD, keyD_datK]
    rw [ih]
section
variable {X : Cx} {pos : Pos}
theorem de_dictMK {keys : List (Option Expr)} {values : List Expr} {ws : List (WE × WE)} (h : DPs X pos keys values ws) (hall : keys.all (·.isSome) = true := by rfl) (hl : keys.length = values.length := by rfl) (h0 : keys ≠ [] := by exact fun z => nomatch z) (h15 : keys.length ≤ 15 := by decide) :
    DE X (.Dict keys values pos) (dDictMK ws) := PE.imp (pe_disp h hall hl h0 h15) fun σ H Q ⟨W, r, m, F, e, S, V, h, k⟩ => by
  subst e
  intro p hp
  have pr := S.priv hp
  have S0 : Sim X.K ⟨W.S, W.io, upd W.H p (.dK [])⟩ m := S.off pr
  refine pairs_lift (W := ⟨W.S, W.io, upd W.H p (.dK [])⟩) S0 (V.up (Up.off pr)) h ?_
  rintro W2 m2 vs ds l2 S2 P ⟨es, rfl, hnd, h15', q2⟩
  obtain ⟨p2, h2⟩ := (pr.off (o := .dK [])).le (o := .dK []) upd_same l2
  obtain ⟨e1, e2⟩ := keysD_of P.ks (keysD_map es)
  obtain ⟨kvs, rfl, e4, e5⟩ := pairs_keys e1
  have hlen : kvs.length = es.length := by
    have z2 := congrArg List.length e4
    simpa using z2
  refine ⟨h2, kvs, rfl, by rw [List.length_map] at h15'; omega, ?_⟩
  rw [mergeK_new (by rw [List.nil_append, e4]; exact hnd), List.nil_append]
  have S3 : Sim X.K ⟨W2.S, W2.io, upd W2.H p (.dK kvs)⟩ m2 := S2.off p2
  have xs := P.xs
  rw [← e5] at xs
  have xs2 : DAll X.K ⟨W2.S, W2.io, upd W2.H p (.dK kvs)⟩ (kvs.map (·.2)) (es.map (·.2)) := by
    have := xs.up (Up.off (o := .dK kvs) p2)
    rw [List.map_map] at this
    exact this
  obtain ⟨n, hn, l4, S4⟩ := S3.cellP (c := .dcK es) (Le.skip hp l2) hp p2.off (by show (upd W2.H p _ p).isSome = true; rw [upd_same]; rfl) ⟨kvs, upd_same, e4, xs2⟩
  exact k _ _ _ _ l4 S4 (.ref (by simp)) (q2 n hn)
end
section
variable {r : Ro} {m : Mu} {F : KD} {wa wd wk wv wx w : WE} {n : Nat} {d x y : Dat} {G : DEnds}
theorem u_dictMK {ws : List (WE × WE)} (h : dPairs ws r m fun ps m1 => ∃ es : List (Key × Dat), ps = es.map (fun p => (datK p.1, p.2)) ∧ (es.map (·.1)).Nodup ∧ ps.length ≤ 15 ∧ ∀ n, m1 n = none → F (.ref n) (m1.set n (.dcK es))) : dDictMK ws r m F := h
theorem u_newK (h : ∀ n, m n = none → F (.ref n) (m.set n (.dcK []))) : dNewK r m F := h
theorem u_newT (h : ∀ n, m n = none → F (.ref n) (m.set n (.dcT []))) : dNewT r m F := h
theorem u_inD (h : wk r m fun x m1 => wd r m1 fun d m2 => (∃ ds k, dKs m2 d = some ds ∧ keyD x = some k ∧ F (.bl (lk ds k).isSome) m2) ∨ ∃ ds ks, dTs m2 d = some ds ∧ tkeyD x = some ks ∧ F (.bl (lk ds ks).isSome) m2) : dInD wk wd r m F := h
theorem u_ninD (h : wk r m fun x m1 => wd r m1 fun d m2 => (∃ ds k, dKs m2 d = some ds ∧ keyD x = some k ∧ F (.bl (!(lk ds k).isSome)) m2) ∨ ∃ ds ks, dTs m2 d = some ds ∧ tkeyD x = some ks ∧ F (.bl (!(lk ds ks).isSome)) m2) : dNinD wk wd r m F := h
theorem u_getD (h : wd r m fun d m1 => wk r m1 fun x m2 => (∃ ds k, dKs m2 d = some ds ∧ keyD x = some k ∧ ∃ y, lk ds k = some y ∧ F y m2) ∨ ∃ ds ks, dTs m2 d = some ds ∧ tkeyD x = some ks ∧ ∃ y, lk ds ks = some y ∧ F y m2) : dGetD wd wk r m F := h
theorem u_putD (h : wv r m fun y m1 => wd r m1 fun d m2 => wk r m2 fun x m3 => ∃ n, d = .ref n ∧ ((∃ ds k, m3 n = some (.dcK ds) ∧ keyD x = some k ∧ ds.length < sizeLine ∧ G.nx r (m3.set n (.dcK (pt ds k y)))) ∨
  ∃ ds ks, m3 n = some (.dcT ds) ∧ tkeyD x = some ks ∧ ds.length < sizeLine ∧ G.nx r (m3.set n (.dcT (pt ds ks y))))) : dPutD wd wk wv G r m := h
theorem u_frz (h : w r m fun d m1 => ∃ n, d = .ref n ∧ ((∃ ds, m1 n = some (.dcT ds) ∧ F (.dfT ds) (m1.del n)) ∨ ∃ ds, m1 n = some (.dcK ds) ∧ F (.dfK ds) (m1.del n))) : dFrz w r m F := h
theorem u_dkeys {k : Src → Mu → Prop} (h : w r m fun d m1 => (∃ ds, d = .dfT ds ∧ k ⟨ds.map fun p => datT p.1, gTrue⟩ m1) ∨ ∃ ds, d = .dfK ds ∧ k ⟨ds.map fun p => datK p.1, gTrue⟩ m1) : diKeys w r m k := h
theorem u_revL (h : w r m fun d m1 => ∃ ds, items m1 d = some ds ∧ F (.lst ds.reverse) m1) : dRevL w r m F := h
theorem u_enum {k : Src → Mu → Prop} (h : w r m fun d m1 => (∃ ds, d = .lst ds ∧ k (enumS ⟨ds, gTrue⟩) m1) ∨ ∃ n ds, d = .ref n ∧ m1 n = some (.lst ds) ∧ k (enumS ⟨ds, fun m => m n = some (.lst ds)⟩) m1) : diEnum w r m k := h
theorem u_sortSetT (h : wa r m fun d m1 => ∃ (iss : List (List Int)) (D : Nat) (B : Int), items m1 d = some (iss.map tupI) ∧ iss.length < 64 ∧ 1 ≤ D ∧ (∀ k ∈ iss, k.length = D ∧ TS.Bd B k) ∧
  ∀ out : List (List Int), out.Nodup → (∀ k, k ∈ out ↔ k ∈ iss) → out.Pairwise (fun x y => TS.code B x ≤ TS.code B y) → F (.lst (out.map tupI)) m1) : dSortSetT wa r m F := h
variable {dk : List (Key × Dat)} {dt : List (List Key × Dat)} {k : Key} {ks : List Key} {P Q : Prop}
theorem dKs_ref (h : m n = some (.dcK dk)) : dKs m (.ref n) = some dk := by simp [dKs, h]
theorem dTs_ref (h : m n = some (.dcT dt)) : dTs m (.ref n) = some dt := by simp [dTs, h]
theorem p_inK1 {R : Bool → Prop} (h1 : dKs m d = some dk) (h2 : keyD x = some k) (h : R (lk dk k).isSome) : (∃ ds k, dKs m d = some ds ∧ keyD x = some k ∧ R (lk ds k).isSome) ∨ Q := .inl ⟨_, _, h1, h2, h⟩
theorem p_inT1 {R : Bool → Prop} (h1 : dTs m d = some dt) (h2 : tkeyD x = some ks) (h : R (lk dt ks).isSome) : P ∨ ∃ ds ks, dTs m d = some ds ∧ tkeyD x = some ks ∧ R (lk ds ks).isSome := .inr ⟨_, _, h1, h2, h⟩
theorem p_getK1 {R : Dat → Prop} (h1 : dKs m d = some dk) (h2 : keyD x = some k) (h3 : lk dk k = some y) (h : R y) : (∃ ds k, dKs m d = some ds ∧ keyD x = some k ∧ ∃ y, lk ds k = some y ∧ R y) ∨ Q := .inl ⟨_, _, h1, h2, _, h3, h⟩
theorem p_getT1 {R : Dat → Prop} (h1 : dTs m d = some dt) (h2 : tkeyD x = some ks) (h3 : lk dt ks = some y) (h : R y) : P ∨ ∃ ds ks, dTs m d = some ds ∧ tkeyD x = some ks ∧ ∃ y, lk ds ks = some y ∧ R y := .inr ⟨_, _, h1, h2, _, h3, h⟩
theorem p_putK1 {nx : Mu → Prop} {Q : Nat → Prop} (h1 : m n = some (.dcK dk)) (h2 : keyD x = some k) (h3 : dk.length < sizeLine) (h : nx (m.set n (.dcK (pt dk k y)))) : ∃ j, Dat.ref n = .ref j ∧ ((∃ ds k, m j = some (.dcK ds) ∧ keyD x = some k ∧ ds.length < sizeLine ∧ nx (m.set j (.dcK (pt ds k y)))) ∨ Q j) := ⟨n, rfl, .inl ⟨_, _, h1, h2, h3, h⟩⟩
theorem p_putT1 {nx : Mu → Prop} {Q : Nat → Prop} (h1 : m n = some (.dcT dt)) (h2 : tkeyD x = some ks) (h3 : dt.length < sizeLine) (h : nx (m.set n (.dcT (pt dt ks y)))) : ∃ j, Dat.ref n = .ref j ∧ (Q j ∨ ∃ ds ks, m j = some (.dcT ds) ∧ tkeyD x = some ks ∧ ds.length < sizeLine ∧ nx (m.set j (.dcT (pt ds ks y)))) := ⟨n, rfl, .inr ⟨_, _, h1, h2, h3, h⟩⟩
theorem p_frzT {R : Nat → List (List Key × Dat) → Prop} {Q : Nat → Prop} (h1 : m n = some (.dcT dt)) (h : R n dt) : ∃ j, Dat.ref n = .ref j ∧ ((∃ ds, m j = some (.dcT ds) ∧ R j ds) ∨ Q j) := ⟨n, rfl, .inl ⟨_, h1, h⟩⟩
theorem p_frzK {R : Nat → List (Key × Dat) → Prop} {Q : Nat → Prop} (h1 : m n = some (.dcK dk)) (h : R n dk) : ∃ j, Dat.ref n = .ref j ∧ (Q j ∨ ∃ ds, m j = some (.dcK ds) ∧ R j ds) := ⟨n, rfl, .inr ⟨_, h1, h⟩⟩
theorem p_keysT {R : List (List Key × Dat) → Prop} (h : R dt) : (∃ ds, Dat.dfT dt = .dfT ds ∧ R ds) ∨ Q := .inl ⟨_, rfl, h⟩
theorem p_keysK {R : List (Key × Dat) → Prop} (h : R dk) : P ∨ (∃ ds, Dat.dfK dk = .dfK ds ∧ R ds) := .inr ⟨_, rfl, h⟩
theorem p_allB {bs : List Bool} (h : F (.bl (bs.all id)) m) : rAllB [.lst (bs.map .bl)] m F := ⟨_, bs, rfl, rfl, h⟩
theorem p_anyB {bs : List Bool} (h : F (.bl (bs.any id)) m) : rAnyB [.lst (bs.map .bl)] m F := ⟨_, bs, rfl, rfl, h⟩
theorem p_revL {ds : List Dat} {R : List Dat → Prop} (h : R ds) : ∃ es, items m (.lst ds) = some es ∧ R es := ⟨ds, rfl, h⟩
theorem p_enumL {ds : List Dat} {R : List Dat → Prop} (h : R ds) : (∃ es, Dat.lst ds = .lst es ∧ R es) ∨ Q := .inl ⟨ds, rfl, h⟩
/-! what stands in it, behind a store -/
variable {κ : Type} [DecidableEq κ]
theorem lk_pt (ds : List (κ × Dat)) (k j : κ) (v : Dat) : lk (pt ds k v) j = if j = k then some v else lk ds j := by
  unfold pt
  split
  · rename_i h
    induction ds with
    | nil => simp at h
    | cons p ds ih =>
      unfold lk
      by_cases q : p.1 = k
      · simp only [List.map_cons, List.find?_cons]
        by_cases z : j = k
        · subst z; simp [q]
        · have : ¬ p.1 = j := fun e => z (e ▸ q)
          have h1 : (if p.1 = k then (p.1, v) else p).1 = p.1 := by split <;> rfl
          rw [if_neg z]
          simp only [h1, this, decide_false]
          by_cases hh : (ds.any fun p => decide (p.1 = k)) = true
          · have := ih hh
            rw [if_neg z] at this
            exact this
          · have hn : ds.map (fun p => if p.1 = k then (p.1, v) else p) = ds := by
              rw [List.map_congr_left (g := id)]
              · simp
              · intro a ha
                rw [if_neg]; rfl
                intro e
                exact hh (List.any_eq_true.mpr ⟨a, ha, decide_eq_true e⟩)
            rw [hn]
      · have h1 : (if p.1 = k then (p.1, v) else p) = p := if_neg q
        have hh : (ds.any fun p => decide (p.1 = k)) = true := by simpa [q] using h
        have := ih hh
        simp only [List.map_cons, List.find?_cons, h1]
        by_cases z : p.1 = j
        · have : ¬ j = k := fun e => q (z.trans e)
          simp [z, this]
        · simp only [z, decide_false]
          exact this
  · rename_i h
    unfold lk
    rw [List.find?_append]
    by_cases z : j = k
    · subst z
      have : ds.find? (fun p => decide (p.1 = j)) = none := by
        rw [List.find?_eq_none]
        intro a ha e
        exact h (List.any_eq_true.mpr ⟨a, ha, e⟩)
      rw [this, if_pos rfl]; simp
    · rw [if_neg z]
      cases hf : ds.find? (fun p => decide (p.1 = j)) with
      | some a => simp
      | none => simp [Ne.symm z]
theorem keys_pt (ds : List (κ × Dat)) (k : κ) (v : Dat) : (pt ds k v).map (·.1) = if k ∈ ds.map (·.1) then ds.map (·.1) else ds.map (·.1) ++ [k] := by
  unfold pt
  by_cases h : (ds.any fun p => decide (p.1 = k)) = true
  · rw [if_pos h, if_pos]
    · rw [List.map_map]
      apply List.map_congr_left
      intro a _
      show (if a.1 = k then (a.1, v) else a).1 = a.1
      split <;> rfl
    · obtain ⟨a, ha, e⟩ := List.any_eq_true.mp h
      exact List.mem_map.mpr ⟨a, ha, of_decide_eq_true e⟩
  · rw [if_neg h, if_neg]
    · simp
    · intro hm
      obtain ⟨a, ha, e⟩ := List.mem_map.mp hm
      exact h (List.any_eq_true.mpr ⟨a, ha, decide_eq_true e⟩)
theorem len_pt (ds : List (κ × Dat)) (k : κ) (v : Dat) : (pt ds k v).length ≤ ds.length + 1 := by
  unfold pt
  split <;> simp
theorem pt_ne (ds : List (κ × Dat)) (k : κ) (v : Dat) : pt ds k v ≠ [] := by
  intro e
  have := lk_pt ds k k v
  rw [e, if_pos rfl] at this
  cases this
theorem lk_some_mem {ds : List (κ × Dat)} {k : κ} : (lk ds k).isSome = true ↔ k ∈ ds.map (·.1) := by
  unfold lk
  rw [Option.isSome_map, List.find?_isSome, List.mem_map]
  constructor
  · rintro ⟨a, ha, e⟩; exact ⟨a, ha, of_decide_eq_true e⟩
  · rintro ⟨a, ha, e⟩; exact ⟨a, ha, decide_eq_true e⟩
end
end DL

/-! a, b, c = x, y, z; sorted(set(tuples)) as a cell -/
namespace DL
open PySem PySem.Spec PyProof.Rows L2
section
variable {X : Cx}
def dPar3 (i j l : Nat) (wa : WA) : WS := fun G r m => wa r m fun ds m1 => ∃ d e f, ds = [d, e, f] ∧ G.nx (((r.set i (some d)).set j (some e)).set l (some f)) m1
theorem ds_par3 {i j l : Nat} {x y z : Str} {a b c : Expr} {wa : WA} {px py pz pt pos : Pos} {kt k2 pt2} (hc : X.calm = true) (hN : X.N.Nodup) (hi : X.N[i]? = some x) (hj : X.N[j]? = some y) (hl : X.N[l]? = some z) (hij : i ≠ j) (hil : i ≠ l) (hjl : j ≠ l)
    (hx : X.env.scope.names.lookup x = some .local) (hy : X.env.scope.names.lookup y = some .local) (hz : X.env.scope.names.lookup z = some .local) (ha : DA X [a, b, c] wa)
    (hw : swappedStores [.Tuple [.Name x px, .Name y py, .Name z pz] kt pt] (.Tuple [a, b, c] k2 pt2) X.env = pure (some [x, y, z]))
    (hs : swapsWithSole [.Tuple [.Name x px, .Name y py, .Name z pz] kt pt] (.Tuple [a, b, c] k2 pt2) pos.line X.env = pure false := by rfl) :
    DS X (.Assign [.Tuple [.Name x px, .Name y py, .Name z pz] kt pt] (.Tuple [a, b, c] k2 pt2) pos) (dPar3 i j l wa) :=
  PS.imp (ps_par3 hc hN hi hj hl hij hil hjl hx hy hz ha hw hs) fun E σ H ⟨W, r, m, G, e, S, V, h, k1, _⟩ => ⟨W, r, m, _, e, S, V, h, fun W1 m1 vs ds l1 S1 x1 ⟨d, e, f, hd, q⟩ => by
    subst hd
    cases x1 with
    | cons x1 x2 =>
      cases x2 with
      | cons x2 x3 =>
        cases x3 with
        | cons x3 x4 =>
          cases x4
          exact ⟨_, _, _, rfl, k1 W1 m1 _ _ l1 S1 ((((V.up l1.up).set i x1).set j x2).set l x3) q⟩⟩
theorem u_par3 {i j l : Nat} {wA : WA} {a b c : Ro → Mu → Prop} {v : KD} {r : Ro} {m : Mu} (h : wA r m fun ds m1 => ∃ d e f, ds = [d, e, f] ∧ a (((r.set i (some d)).set j (some e)).set l (some f)) m1) : dPar3 i j l wA ⟨a, v, b, c⟩ r m := h
theorem p_par3 {d e f : Dat} {P : Dat → Dat → Dat → Prop} (h : P d e f) : ∃ d' e' f', [d, e, f] = [d', e', f'] ∧ P d' e' f' := ⟨d, e, f, rfl, h⟩
end
theorem dcomp_eq {gd : Mu → Prop} {g : WG} {t : WT} {te : WE} {r : Ro} {FL : List Dat → Mu → Prop} {xs xs' acc : List Dat} {m : Mu} (e : xs = xs') (h : dcomp gd g t te r FL xs' acc m) : dcomp gd g t te r FL xs acc m := by subst e; exact h
theorem dloop_eq {gd : Mu → Prop} {g : WG} {s : WS} {G : DEnds} {xs xs' : List Dat} {r : Ro} {m : Mu} (e : xs = xs') (h : dloop gd g s G xs' r m) : dloop gd g s G xs r m := by subst e; exact h
theorem rangeD0 (n : Nat) : rangeD 0 n = (List.range n).map fun i : Nat => Dat.int (i : Int) := by
  unfold rangeD; simp
/-- a loop over a mapped list: the invariant speaks of what is done -/
theorem loop_map {α : Type} {gd : Mu → Prop} {g : WG} {s : WS} {a : Ro → Mu → Prop} {v : KD} {b c : Ro → Mu → Prop} (f : α → Dat) (I : List α → Ro → Mu → Prop) {xs : List α} {r : Ro} {m : Mu}
    (h0 : ∀ r m, I xs r m → gd m ∧ a r m)
    (h1 : ∀ x done rest, xs = done ++ x :: rest → ∀ r m, I done r m → (∀ r m, I (done ++ [x]) r m → dloop gd g s ⟨a, v, b, c⟩ (rest.map f) r m) → dloop gd g s ⟨a, v, b, c⟩ (f x :: rest.map f) r m)
    (h : I [] r m) : dloop gd g s ⟨a, v, b, c⟩ (xs.map f) r m := by
  have key : ∀ rest done, xs = done ++ rest → ∀ r m, I done r m → dloop gd g s ⟨a, v, b, c⟩ (rest.map f) r m := by
    intro rest
    induction rest with
    | nil =>
      intro done e r m hI
      rw [List.append_nil] at e
      subst e
      exact h0 r m hI
    | cons x rest ih =>
      intro done e r m hI
      exact h1 x done rest e r m hI fun r m hI' => ih (done ++ [x]) (by rw [e]; simp) r m hI'
  exact key xs [] rfl r m h
theorem p_neI {i j : Int} {m : Mu} {F : KD} (h : F (.bl (decide (i ≠ j))) m) : rNe (.int i) (.int j) m F := by
  refine p_neK (k := i == j) rfl ?_
  have : (!(i == j)) = decide (i ≠ j) := by by_cases e : i = j <;> simp [e]
  rw [this]; exact h
section
variable {X : Cx} {e : Expr} {w wa : WE} {p p2 pos pos2 tpos : Pos}
def dSortSetTM (wa : WE) : WE := fun r m F => wa r m fun d m1 => ∃ (iss : List (List Int)) (D : Nat) (B : Int), items m1 d = some (iss.map tupI) ∧ iss.length < 64 ∧ 1 ≤ D ∧ (∀ k ∈ iss, k.length = D ∧ TS.Bd B k) ∧
  ∀ out : List (List Int), out.Nodup → (∀ k, k ∈ out ↔ k ∈ iss) → out.Pairwise (fun x y => TS.code B x ≤ TS.code B y) → ∀ n, m1 n = none → F (.ref n) (m1.set n (.lst (out.map tupI)))
theorem u_sortSetTM {r : Ro} {m : Mu} {F : KD} (h : wa r m fun d m1 => ∃ (iss : List (List Int)) (D : Nat) (B : Int), items m1 d = some (iss.map tupI) ∧ iss.length < 64 ∧ 1 ≤ D ∧ (∀ k ∈ iss, k.length = D ∧ TS.Bd B k) ∧
  ∀ out : List (List Int), out.Nodup → (∀ k, k ∈ out ↔ k ∈ iss) → out.Pairwise (fun x y => TS.code B x ≤ TS.code B y) → ∀ n, m1 n = none → F (.ref n) (m1.set n (.lst (out.map tupI)))) : dSortSetTM wa r m F := h
theorem de_sortSetTM (hc : X.calm = true) (hu : X.A.units + 64 < cLine) (hg : Gl X "sorted") (hm : X.mg "sorted" = none) (hg2 : Gl X "set") (hm2 : X.mg "set" = none) (ha : DE X e wa)
    (he : starEach [e] X.env = [(false, eval e X.env)] := by rfl) (he2 : starEach [.Call (.Name "set" p2) [e] [] pos2] X.env = [(false, eval (.Call (.Name "set" p2) [e] [] pos2) X.env)] := by rfl) :
    DE X (.Call (.Name "sorted" p) [.Call (.Name "set" p2) [e] [] pos2] [] pos) (dSortSetTM wa) :=
  PE.imp (pe_callB (id := "sorted") (cr_sortedT hc) hg hm (by decide +kernel) (pa_cons (pe_callTy (T := "set") (cr_setOfT hc hu) hg2 hm2 (by decide +kernel) (pa_cons ha pa_nil he) (by decide) (by decide) he) pa_nil he2) (by decide) (by decide) he2) fun σ H Q ⟨W, r, m, F, e, S, Ve, h, k⟩ =>
    ⟨W, r, m, _, e, S, Ve, h, fun W1 m1 v1 d1 l1 S1 x1 ⟨iss, D, B, q1, q2, q3, q4, q5⟩ => by
      obtain ⟨a, ys, rfl, e1, q⟩ := x1.items S1 q1
      obtain ⟨ks, rfl, g2, g3⟩ := tups_of q
      have hlen : ks.length = iss.length := by rw [← g2, List.length_map]
      refine ⟨a, ks, rfl, SqL.of e1, fun p hp => SqT.of (g3 p hp), by omega, fun c L hc0 hL1 hL2 => ?_⟩
      have nc : ∀ p ∈ ks, p.1 ≠ c := fun p hp z => by have := g3 p hp; rw [z, hc0] at this; cases this
      obtain ⟨l2, S2⟩ := S1.newF (o := SetTO X.prog X.w c L) hc0
      have tp : ∀ p ∈ L, upd W1.H c (SetTO X.prog X.w c L) p.1 = some (.tup (p.2.map V.int)) := fun p hp => by rw [upd_ne (nc p (hL1 p hp))]; exact g3 p (hL1 p hp)
      refine ⟨c, L, D, B, rfl, upd_same, fun p hp => SqT.of (tp p hp), q3, fun p hp => q4 p.2 (by rw [← g2]; exact List.mem_map.mpr ⟨p, hL1 p hp, rfl⟩), fun L' p' hpm hnd hl64 hpw hp' => ?_⟩
      have hx : DAll X.K ⟨fun a => W1.S a ∨ a = c, W1.io, upd W1.H c (SetTO X.prog X.w c L)⟩ (L'.map fun q => V.ref q.1) ((L'.map (·.2)).map tupI) := by
        have : ∀ M : List (Addr × List Int), (∀ p ∈ M, p ∈ L) → DAll X.K ⟨fun a => W1.S a ∨ a = c, W1.io, upd W1.H c (SetTO X.prog X.w c L)⟩ (M.map fun q => V.ref q.1) ((M.map (·.2)).map tupI) := by
          intro M
          induction M with
          | nil => intro _; exact .nil
          | cons p M ih =>
            intro hM
            exact .cons (.tup (tp p (hM p (by simp))) (dall_ints p.2)) (ih fun q hq => hM q (by simp [hq]))
        exact this L' fun p hp => hpm.mem_iff.mp hp
      refine finM S2 (fun W' m' v d l S x q => k W' m' v d ((l1.trans l2).trans l) S x q) (q5 (L'.map (·.2)) hnd (fun z => ?_) (by rw [List.pairwise_map]; exact hpw)) hx hp'
      rw [(hpm.map (·.2)).mem_iff, ← g2]
      constructor
      · intro hz
        obtain ⟨p, hp, rfl⟩ := List.mem_map.mp hz
        exact List.mem_map.mpr ⟨p, hL1 p hp, rfl⟩
      · intro hz
        obtain ⟨p, hp, rfl⟩ := List.mem_map.mp hz
        exact hL2 p hp⟩
end
end DL

/-! comprehensions of several clauses: the machine's turns, clause by clause -/
namespace DL
open PySem PySem.Spec PyProof.Rows L2
structure CompAt (CE : Expr) : Prop where
  den : ∀ (prog : Program) (w : World) (k : Nat) (it acc : Value) (env : PySem.Env), (model prog w).den (.compLoop CE k it acc env) = (compTurn CE k it acc env).onRaise (fun x => do noteFrame x env; theTreesLotGoes x)
  under : ∀ (A : Around) (k : Nat) (it acc : Value) (env : PySem.Env), A.under (.compLoop CE k it acc env) = A
theorem comp_list {elt : Expr} {gs : List Comprehension} {scope : Scope} {pos : Pos} : CompAt (.ListComp elt gs scope pos) := ⟨fun _ _ _ _ _ _ => rfl, fun _ _ _ _ _ => rfl⟩
theorem comp_dict {kx vx : Expr} {gs : List Comprehension} {scope : Scope} {pos : Pos} : CompAt (.DictComp kx vx gs scope pos) := ⟨fun _ _ _ _ _ _ => rfl, fun _ _ _ _ _ => rfl⟩
/-- a clause that another one follows -/
def EqNext (CE : Expr) (k : Nat) (t0 i0 : Expr) (ifs0 : List Expr) (i1 : Expr) : Prop := ∀ (it acc : Value) (env : PySem.Env), compTurn CE k it acc env = (do
      standAt i0.pos
      match ← pyNext it with
      | none => pure (.done .next)
      | some v =>
        letOwnedTupleGo t0 it v
        assign t0 env v
        let mut ok := true
        for c in ifs0 do
          if ok then ok ← isTrue c env (eval c env)
        if ok then
          let x ← eval i1 env
          standAt i1.pos
          let x ← foldedSetIterable i1 env x
          let _ ← runOwn (.compStart CE (k + 1) (← holding [x] (pyIter x)) acc env) env
        again (.compLoop CE k it acc env))
/-- the last clause, of a list -/
def EqList (CE : Expr) (k : Nat) (t1 i1 : Expr) (ifs1 : List Expr) (elt : Expr) : Prop := ∀ (it acc : Value) (env : PySem.Env), compTurn CE k it acc env = (do
      standAt i1.pos
      match ← pyNext it with
      | none => pure (.done .next)
      | some v =>
        letOwnedTupleGo t1 it v
        assign t1 env v
        let mut ok := true
        for c in ifs1 do
          if ok then ok ← isTrue c env (eval c env)
        if ok then
          (do let _ ← call (.builtin "list.append") [acc, ← eval elt env])
        again (.compLoop CE k it acc env))
theorem eq3_0 (elt t0 i0 t1 i1 t2 i2 : Expr) (f0 f1 f2 : List Expr) (scope : Scope) (pos : Pos) : EqNext (.ListComp elt [⟨t0, i0, f0, 0⟩, ⟨t1, i1, f1, 0⟩, ⟨t2, i2, f2, 0⟩] scope pos) 0 t0 i0 f0 i1 := fun _ _ _ => rfl
theorem eq3_1 (elt t0 i0 t1 i1 t2 i2 : Expr) (f0 f1 f2 : List Expr) (scope : Scope) (pos : Pos) : EqNext (.ListComp elt [⟨t0, i0, f0, 0⟩, ⟨t1, i1, f1, 0⟩, ⟨t2, i2, f2, 0⟩] scope pos) 1 t1 i1 f1 i2 := fun _ _ _ => rfl
theorem eq3_2 (elt t0 i0 t1 i1 t2 i2 : Expr) (f0 f1 f2 : List Expr) (scope : Scope) (pos : Pos) : EqList (.ListComp elt [⟨t0, i0, f0, 0⟩, ⟨t1, i1, f1, 0⟩, ⟨t2, i2, f2, 0⟩] scope pos) 2 t2 i2 f2 elt := fun _ _ _ => rfl
theorem eqD2_0 (kx vx t0 i0 t1 i1 : Expr) (f0 f1 : List Expr) (scope : Scope) (pos : Pos) : EqNext (.DictComp kx vx [⟨t0, i0, f0, 0⟩, ⟨t1, i1, f1, 0⟩] scope pos) 0 t0 i0 f0 i1 := fun _ _ _ => rfl
section
variable {prog : Program} {w : World} {A : Around} {R : Result → Shared → Prop} {s : Shared} {CE t0 i0 i1 elt : Expr} {ifs0 : List Expr} {it acc : Value} {env : PySem.Env} {k : Nat}
/-- what a turn asks: Inner, what is done where the tests pass -/
def TurnAsk (prog : Program) (w : World) (A : Around) (R : Result → Shared → Prop) (t : Expr) (ifs : List Expr) (it : Value) (env : PySem.Env) (Inner : Shared → (Shared → Prop) → Prop) (n : Nat) (I : Nat → Shared → Prop) (s : Shared) : Prop :=
  wpAny (model prog w) A (pyNext it) (fun r s₁ => match r with
      | none => R (.ok .next) s₁
      | some v => wpAny (model prog w) A (letOwnedTupleGo t it v) (fun _ s₁' => wpAny (model prog w) A (assign t env v) (fun _ s₂ =>
          wpAny (model prog w) A (forIn ifs true fun c r => if r = true then do let ok ← isTrue c env (eval c env); pure (ForInStep.yield ok) else pure (ForInStep.yield r)) (fun ok s₃ =>
            if ok = true then Inner s₃ (fun s' => ∃ m, m < n ∧ I m s')
            else ∃ m, m < n ∧ I m s₃) (notedBy (model prog w) A env fun e s' => R (.error e) s') s₂) (notedBy (model prog w) A env fun e s' => R (.error e) s') s₁') (notedBy (model prog w) A env fun e s' => R (.error e) s') s₁) (notedBy (model prog w) A env fun e s' => R (.error e) s') s
def InNext (prog : Program) (w : World) (A : Around) (R : Result → Shared → Prop) (CE : Expr) (k : Nat) (i1 : Expr) (acc : Value) (env : PySem.Env) : Shared → (Shared → Prop) → Prop := fun s₃ P =>
  wpAny (model prog w) A (eval i1 env) (fun x s₄ => wpAny (model prog w) A (pyIter x) (fun it1 s₅ =>
              codeAny (model prog w) A (.compStart CE (k + 1) it1 acc env) (fun r s' => match r with
                | .ok _ => P s'
                | .error _ => False) s₅) (notedBy (model prog w) A env fun e s' => R (.error e) s') s₄) (notedBy (model prog w) A env fun e s' => R (.error e) s') s₃
def InList (prog : Program) (w : World) (A : Around) (R : Result → Shared → Prop) (elt : Expr) (acc : Value) (env : PySem.Env) : Shared → (Shared → Prop) → Prop := fun s₃ P =>
  wpAny (model prog w) A (eval elt env) (fun x s₄ =>
              wpAny (model prog w) A (call (.builtin "list.append") [acc, x]) (fun _ s₅ => P s₅) (notedBy (model prog w) A env fun e s' => R (.error e) s') s₄) (notedBy (model prog w) A env fun e s' => R (.error e) s') s₃
theorem loopNext (hd : CompAt CE) (he : EqNext CE k t0 i0 ifs0 i1) (hs : ∀ x, foldedSetIterable i1 env x = pure x) (I : Nat → Shared → Prop)
    (turn : ∀ n s, I n s → TurnAsk prog w A R t0 ifs0 it env (InNext prog w A R CE k i1 acc env) n I s) (n : Nat) (s : Shared) (h : I n s) :
    codeAny (model prog w) A (.compLoop CE k it acc env) R s := by
  refine codeAny_loop rfl I (fun n s hI => ?_) n h
  rw [hd.den, hd.under]
  refine wpAny_noted ?_
  rw [he]
  refine wpAny_bind (wpAny_standAt (wpAny_bind (wpAny_mono (turn n s hI) (fun r s₁ h₁ => ?_) fun _ _ h' => h')))
  cases r with
  | none => exact wpAny_pure h₁
  | some v =>
    refine wpAny_bind (wpAny_mono h₁ (fun _ s₁' h₁' => ?_) fun _ _ h' => h')
    refine wpAny_bind (wpAny_mono h₁' (fun _ s₂ h₂ => wpAny_bind (wpAny_mono h₂ (fun ok s₃ h₃ => ?_) fun _ _ h' => h')) fun _ _ h' => h')
    cases ok with
    | false => exact wpAny_pure ⟨rfl, h₃⟩
    | true =>
      refine wpAny_bind (wpAny_mono h₃ (fun x s₄ h₄ => ?_) fun _ _ h' => h')
      refine wpAny_bind (wpAny_standAt (wpAny_bind (wpAny_of_eq (hs x) (wpAny_bind (wpAny_holding (wpAny_mono h₄ (fun it1 s₅ h₅ => ?_) fun _ _ h' => h'))))))
      refine wpAny_bind (wpAny_runOwn ?_)
      rw [Around.mark_none]
      refine codeAny_mono h₅ fun r s' hr => ?_
      cases r with
      | ok f =>
        first
          | exact wpAny_pure ⟨rfl, hr⟩
          | exact wpAny_bind (wpAny_pure (wpAny_pure ⟨rfl, hr⟩))
      | error e => exact hr.elim
theorem loopList (hd : CompAt CE) (he : EqList CE k t0 i0 ifs0 elt) (I : Nat → Shared → Prop)
    (turn : ∀ n s, I n s → TurnAsk prog w A R t0 ifs0 it env (InList prog w A R elt acc env) n I s) (n : Nat) (s : Shared) (h : I n s) :
    codeAny (model prog w) A (.compLoop CE k it acc env) R s := by
  refine codeAny_loop rfl I (fun n s hI => ?_) n h
  rw [hd.den, hd.under]
  refine wpAny_noted ?_
  rw [he]
  refine wpAny_bind (wpAny_standAt (wpAny_bind (wpAny_mono (turn n s hI) (fun r s₁ h₁ => ?_) fun _ _ h' => h')))
  cases r with
  | none => exact wpAny_pure h₁
  | some v =>
    refine wpAny_bind (wpAny_mono h₁ (fun _ s₁' h₁' => ?_) fun _ _ h' => h')
    refine wpAny_bind (wpAny_mono h₁' (fun _ s₂ h₂ => wpAny_bind (wpAny_mono h₂ (fun ok s₃ h₃ => ?_) fun _ _ h' => h')) fun _ _ h' => h')
    cases ok with
    | false => exact wpAny_pure ⟨rfl, h₃⟩
    | true =>
      exact wpAny_bind (wpAny_bind (wpAny_mono h₃ (fun x s₄ h₄ => wpAny_bind (wpAny_mono h₄ (fun _ s₅ h₅ => wpAny_pure (wpAny_pure ⟨rfl, h₅⟩)) fun _ _ h' => h')) fun _ _ h' => h'))
end
end DL

/-! comprehensions of several clauses: one clause's loop, whatever is done within -/
namespace DL
open PySem PySem.Spec PyProof.Rows L2
/-- what was known apart from vs is known -/
def Kept (vs : List Nat) (σ σ' : L2.St) : Prop := σ'.length = σ.length ∧ ∀ (j : Nat) v, (L2.wipe σ vs)[j]? = some (some v) → σ'[j]? = some (some v)
theorem Kept.refl (vs : List Nat) (σ : L2.St) : Kept vs σ σ := ⟨rfl, fun j v e => (wipe_some e).1⟩
theorem Kept.mono {vs ws : List Nat} {σ σ' : L2.St} (h : Kept vs σ σ') (hv : ∀ i ∈ vs, i ∈ ws) : Kept ws σ σ' :=
  ⟨h.1, fun j v e => h.2 j v (by
    obtain ⟨e1, e2⟩ := wipe_some e
    rw [wipe_out fun z => e2 (hv j z)]
    exact e1)⟩
/-- an own step of the block: from what is known, what comes of it -/
abbrev TIn := L2.St → Hp → (Hp → Prop) → Prop
def tClause (J : It) (g : TG) (tt : TT) (tin : TIn) (vs : List Nat) (σ : L2.St) (W : Nat → Nat → Hp → Prop) (Qe : Hp → Prop) : Prop := ∀ i m H, W i m H → (J.stop i H ∧ Qe H) ∨ (J.go i H ∧ ∃ Nx : Hp → Prop, (∀ H', Nx H' → ∃ m', m' < m ∧ W (i + 1) m' H') ∧
  ∀ x H', J.yld i H x H' → g x (L2.wipe σ vs) H' fun σ2 H2 => L2.wipe σ2 vs = L2.wipe σ vs ∧ tt σ2 H2 fun b H3 => if b = true then tin σ2 H3 Nx else Nx H3)
def tNext (wi : TI) (g : TG) (tt : TT) (tin : TIn) (vs : List Nat) : TIn := fun σ H Nx => wi σ H fun J H1 => ∃ W : Nat → Nat → Hp → Prop, (∃ m, W 0 m H1) ∧ tClause J g tt tin vs σ W Nx
def InnerOk (X : Cx) (vs : List Nat) (Inner : Shared → (Shared → Prop) → Prop) (tin : TIn) : Prop := ∀ (pins : List (Addr × Obj)) (σ : L2.St) (H : Hp) (s : Shared) (Nx : Hp → Prop) (P : Shared → Prop), L2.Inv X pins σ H s → tin σ H Nx →
  (∀ (σ' : L2.St) (H' : Hp) (s' : Shared), L2.Inv X pins σ' H' s' → Kept vs σ σ' → Nx H' → P s') → Inner s P
section
variable {X : Cx} {t : Expr} {ifs : List Expr} {g : TG} {tt : TT} {vs : List Nat} {it : Addr} {fp : List Addr} {tn : Nat → Heap → Prop} {J : It} {pins : List (Addr × Obj)} {σ : L2.St} {H : Hp} {s : Shared}
theorem level_ok (hxe : X.xe = fun _ _ => False) (hc : X.calm = true) (pg : PG X t g) (pt : PTs X ifs tt) (T : Turn X.prog X.w X.K t J fp it tn) {R : Result → Shared → Prop} {Inner : Shared → (Shared → Prop) → Prop} {c : Code} {env : PySem.Env} (henv : env = X.env)
    (hloop : ∀ I : Nat → Shared → Prop, (∀ n s, I n s → TurnAsk X.prog X.w X.A R t ifs (.ref it) env Inner n I s) → ∀ n s, I n s → codeAny (model X.prog X.w) X.A c R s)
    {tin : TIn} (hin : InnerOk X vs Inner tin) {Qe : Hp → Prop}
    (hend : ∀ (H' : Hp) (s' : Shared), L2.Inv X pins (L2.wipe σ vs) H' s' → Qe H' → R (.ok .next) s')
    (stat : ∀ {σ' : L2.St} {H' : Hp} {s' : Shared}, L2.Inv X pins σ' H' s' → (∀ b ∈ fp, H' b = none) → ∀ b ∈ fp, FpOk X pins H' b)
    {W : Nat → Nat → Hp → Prop} (turn : tClause J g tt tin vs σ W Qe) {m0 : Nat} (start : L2.Inv X pins (L2.wipe σ vs) H s) (st : tn 0 s.heap) (nfp : ∀ b ∈ fp, H b = none) (w0 : W 0 m0 H) :
    codeAny (model X.prog X.w) X.A c R s := by
  subst henv
  refine hloop (fun n s' => ∃ i H', L2.Inv X pins (L2.wipe σ vs) H' s' ∧ tn i s'.heap ∧ (∀ b ∈ fp, H' b = none) ∧ W i n H') ?_ m0 s ⟨0, H, start, st, nfp, w0⟩
  rintro n s5 ⟨i, H5, I5, st5, n5, w5⟩
  have xF : ∀ {α : Type} {act : Sem α} {Q Q' : α → Shared → Prop} {E : Value → Shared → Prop} {s : Shared}, wpAny (model X.prog X.w) X.A act Q X.xe s → (∀ a s, Q a s → Q' a s) → wpAny (model X.prog X.w) X.A act Q' E s := fun {α act Q Q' E s} h k => thnF (by rw [hxe] at h; exact h) k
  unfold TurnAsk
  rcases turn i n H5 w5 with ⟨stop, qq⟩ | ⟨go, Nx, hNx, step⟩
  · have td := T.done X rfl rfl rfl hc i pins s5 _ H5 (fun _ _ => False) I5 (stat I5 n5) st5 stop
    refine thnF td fun r s6 ⟨hr, I6⟩ => ?_
    subst hr
    exact hend H5 s6 I6 qq
  · have ti := T.item X rfl rfl rfl hc i pins s5 _ H5 (fun _ _ => False) I5 (stat I5 n5) st5 go
    refine thnF ti fun r s6 ⟨u, hr, h6⟩ => ?_
    subst hr
    refine thnF h6 fun _ s7 ⟨x, H7, I7, r7, y7, st7, n7⟩ => ?_
    have I7' := I7.pinned (stat I7 n7) (T.obj _ _ st7)
    refine xF (pg.run _ s7 _ H7 x u _ I7' r7 (step x H7 y7)) fun _ s8 ⟨σ8, H8, I8, hw8, q8⟩ => ?_
    refine xF (pt.run _ s8 σ8 H8 _ I8 q8) fun b s9 ⟨H9, I9, q9⟩ => ?_
    have fin : ∀ {σ9 : L2.St} {s' : Shared} {H' : Hp}, L2.Inv X (pins ++ pinsAt fp s7.heap) σ9 H' s' → Kept vs σ8 σ9 → Nx H' →
        ∃ m, m < n ∧ ∃ i H', L2.Inv X pins (L2.wipe σ vs) H' s' ∧ tn i s'.heap ∧ (∀ b ∈ fp, H' b = none) ∧ W i m H' := fun {σ9 s' H'} I' kp nx => by
      obtain ⟨m', hm, w'⟩ := hNx H' nx
      have pin' : ∀ b ∈ fp, ∀ o, s7.heap.get? b = some o → s'.heap.get? b = some o ∧ H' b = none := fun b hb o e =>
        let z := I'.pin (b, o) (List.mem_append_right _ (List.mem_append_right _ (mem_pinsAt hb e)))
        ⟨z.1, z.2.1⟩
      refine ⟨m', hm, i + 1, H', I'.unpinned.weak (by rw [kp.1, ← wipe_length σ8 vs, hw8]) (fun j v e => by rw [← hw8] at e; exact kp.2 j v e), T.keep _ _ _ st7 fun b hb o e => (pin' b hb o e).1, fun b hb => ?_, w'⟩
      obtain ⟨o, e, _⟩ := T.obj _ _ st7 b hb
      exact (pin' b hb o e).2
    cases b with
    | false =>
      simp only [Bool.false_eq_true, if_false] at q9 ⊢
      exact fin I9 (Kept.refl vs σ8) q9
    | true =>
      simp only [if_true] at q9 ⊢
      exact hin _ σ8 H9 s9 Nx _ I9 q9 fun σ' H' s' I' kp nx => fin I' kp nx
end
end DL

/-! comprehensions of several clauses: what is done within; three clauses of a list -/
namespace DL
open PySem PySem.Spec PyProof.Rows L2
def tApp (te : TE) (D : Addr) : TIn := fun σ H Nx => te σ H fun y H7 => ∃ acc, H7 D = some (.lst acc) ∧ acc.length < sizeLine ∧ Nx (upd H7 D (.lst (acc ++ [y])))
/-- how the k-th clause's loop begins -/
def StartAt (CE : Expr) (k : Nat) : Prop := ∀ {prog : Program} {w : World} {A : Around} {R : Result → Shared → Prop} {s : Shared} {it acc : Value} {env : PySem.Env}, codeAny (model prog w) A (.compLoop CE k it acc env) R s →
  wpAny (model prog w) A (pyIter it) (fun it' s' => codeAny (model prog w) A (.compLoop CE k it' acc env) R s') (notedBy (model prog w) A env fun x s' => R (.error x) s') s → codeAny (model prog w) A (.compStart CE k it acc env) R s
theorem start3_1 {elt t0 i0 t1 i1 t2 i2 : Expr} {f0 f1 f2 : List Expr} {scope : Scope} {pos : Pos} : StartAt (.ListComp elt [⟨t0, i0, f0, 0⟩, ⟨t1, i1, f1, 0⟩, ⟨t2, i2, f2, 0⟩] scope pos) 1 := by
  intro prog w A R s it acc env h0 h
  refine codeAny_of_tree ?_
  show wpAny _ _ ((compStart (.ListComp elt [⟨t0, i0, f0, 0⟩, ⟨t1, i1, f1, 0⟩, ⟨t2, i2, f2, 0⟩] scope pos) 1 it acc env).onRaise (fun x => do noteFrame x env; standAt theWindowsPlace)) _ _ s
  refine wpAny_notedAt ?_
  unfold compStart
  show wpAny _ _ (ask >>= _) _ _ s
  refine wpAny_bind (wpAny_askSetting (wpAny_ite ?_))
  split
  · first
      | exact wpAny_bind (wpAny_pure (wpAny_pure (And.intro rfl h0)))
      | exact wpAny_pure (And.intro rfl h0)
  · first
      | exact wpAny_bind (wpAny_rule (wpAny_bind (wpAny_standAt (wpAny_bind (wpAny_mono h (fun it' s' h' => wpAny_pure (And.intro rfl h')) fun _ _ x => x)))))
      | (refine wpAny_bind (wpAny_rule ?_); show wpAny _ _ (standAt i1.pos >>= _) _ _ s; exact wpAny_bind (wpAny_standAt (wpAny_bind (wpAny_mono h (fun it' s' h' => wpAny_pure (And.intro rfl h')) fun _ _ x => x))))
theorem start3_2 {elt t0 i0 t1 i1 t2 i2 : Expr} {f0 f1 f2 : List Expr} {scope : Scope} {pos : Pos} : StartAt (.ListComp elt [⟨t0, i0, f0, 0⟩, ⟨t1, i1, f1, 0⟩, ⟨t2, i2, f2, 0⟩] scope pos) 2 := by
  intro prog w A R s it acc env h0 h
  refine codeAny_of_tree ?_
  show wpAny _ _ ((compStart (.ListComp elt [⟨t0, i0, f0, 0⟩, ⟨t1, i1, f1, 0⟩, ⟨t2, i2, f2, 0⟩] scope pos) 2 it acc env).onRaise (fun x => do noteFrame x env; standAt theWindowsPlace)) _ _ s
  refine wpAny_notedAt ?_
  unfold compStart
  show wpAny _ _ (ask >>= _) _ _ s
  refine wpAny_bind (wpAny_askSetting (wpAny_ite ?_))
  split
  · first
      | exact wpAny_bind (wpAny_pure (wpAny_pure (And.intro rfl h0)))
      | exact wpAny_pure (And.intro rfl h0)
  · first
      | exact wpAny_bind (wpAny_rule (wpAny_bind (wpAny_standAt (wpAny_bind (wpAny_mono h (fun it' s' h' => wpAny_pure (And.intro rfl h')) fun _ _ x => x)))))
      | (refine wpAny_bind (wpAny_rule ?_); show wpAny _ _ (standAt i2.pos >>= _) _ _ s; exact wpAny_bind (wpAny_standAt (wpAny_bind (wpAny_mono h (fun it' s' h' => wpAny_pure (And.intro rfl h')) fun _ _ x => x))))
section
variable {X : Cx} {t i0 i1 elt CE : Expr} {ifs : List Expr} {g : TG} {tt : TT} {vs vs1 : List Nat} {R : Result → Shared → Prop} {D : Addr} {k : Nat} {env : PySem.Env}
theorem in_list {te : TE} (hxe : X.xe = fun _ _ => False) (pe : PE X elt te) (henv : env = X.env) : InnerOk X vs (InList X.prog X.w X.A R elt (.ref D) env) (tApp te D) := by
  intro pins σ H s Nx P I h hP
  subst henv
  have xF : ∀ {α : Type} {act : Sem α} {Q Q' : α → Shared → Prop} {E : Value → Shared → Prop} {s : Shared}, wpAny (model X.prog X.w) X.A act Q X.xe s → (∀ a s, Q a s → Q' a s) → wpAny (model X.prog X.w) X.A act Q' E s := fun {α act Q Q' E s} h k => thnF (by rw [hxe] at h; exact h) k
  refine xF (pe.run _ s σ H _ I h) fun z s17 ⟨yv, H17, I17, r17, acc, hD17, hz17, nx⟩ => ?_
  exact app_ok (X := X) I17 hD17 hz17 r17 fun s18 I18 => hP σ _ s18 I18 (Kept.refl vs σ) nx
theorem in_next {wi : TI} {tin : TIn} {Inner : (Result → Shared → Prop) → Shared → (Shared → Prop) → Prop} {acc : Value} (hxe : X.xe = fun _ _ => False) (hc : X.calm = true) (henv : env = X.env) (pi : PI X t i1 wi) (pg : PG X t g) (pt : PTs X ifs tt) (hst : StartAt CE (k + 1))
    (hloop : ∀ (R' : Result → Shared → Prop) (it : Addr) (I : Nat → Shared → Prop), (∀ n s, I n s → TurnAsk X.prog X.w X.A R' t ifs (.ref it) env (Inner R') n I s) → ∀ n s, I n s → codeAny (model X.prog X.w) X.A (.compLoop CE (k + 1) (.ref it) acc env) R' s)
    (hin : ∀ R', InnerOk X vs1 (Inner R') tin) (hv : ∀ i ∈ vs1, i ∈ vs) : InnerOk X vs (InNext X.prog X.w X.A R CE k i1 acc env) (tNext wi g tt tin vs1) := by
  intro pins σ H s Nx P I h hP
  have xF : ∀ {α : Type} {act : Sem α} {Q Q' : α → Shared → Prop} {E : Value → Shared → Prop} {s : Shared}, wpAny (model X.prog X.w) X.A act Q X.xe s → (∀ a s, Q a s → Q' a s) → wpAny (model X.prog X.w) X.A act Q' E s := fun {α act Q Q' E s} h k => thnF (by rw [hxe] at h; exact h) k
  subst henv
  unfold InNext
  refine xF (pi.run _ s σ H _ I h) fun xv s10 hx => xF hx fun itv s11 h11 => ?_
  obtain ⟨it1, fp1, tn1, J1, H11, e1, I11, T1, st11, f11, W1, ⟨m1, w1⟩, turn1⟩ := h11
  subst e1
  have loop1 := level_ok (R := fun r s' => match r with
                | .ok _ => P s'
                | .error _ => False) hxe hc pg pt T1 rfl (hloop _ it1) (hin _) (Qe := Nx) (pins := pins) (fun H' s' I' nx => hP _ H' s' I' ⟨wipe_length σ vs1, fun j v e => by
      obtain ⟨e1, e2⟩ := wipe_some e
      rw [wipe_out fun z => e2 (hv j z)]
      exact e1⟩ nx) (fun {σ' H' s'} _ hn b hb => ⟨hn b hb, (f11 b hb).2⟩) turn1 (I11.weak (wipe_length _ _) (fun j v e => (wipe_some e).1)) st11 (fun b hb => (f11 b hb).1) w1
  exact hst loop1 (T1.self X.A 0 _ _ _ st11 loop1)
end
end DL

/-! comprehensions of several clauses: the block -/
namespace DL
open PySem PySem.Spec PyProof.Rows L2
section
variable {X : Cx}
def tLcN (wi : TI) (g : TG) (tt : TT) (inner : Addr → TIn) (vs : List Nat) : TE := fun σ H Q => wi σ H fun J H1 => ∀ D, H1 D = none → ∃ W : Nat → Nat → Hp → Prop, (∃ m, W 0 m (upd H1 D (.lst []))) ∧ tClause J g tt (inner D) vs σ W (fun H => Q (.ref D) H)
def tDcN (wi : TI) (g : TG) (tt : TT) (inner : Addr → TIn) (vs : List Nat) : TE := fun σ H Q => wi σ H fun J H1 => ∀ D, H1 D = none → ∃ W : Nat → Nat → Hp → Prop, (∃ m, W 0 m (upd H1 D (.dT []))) ∧ tClause J g tt (inner D) vs σ W (fun H => Q (.ref D) H)
theorem lcN_core {pins : List (Addr × Obj)} {s : Shared} {σ : L2.St} {H : Hp} {Q : VK} {elt tg iter : Expr} {ifs : List Expr} {rest : List Comprehension} {scope : Scope} {own : List (Str × Nat)} {pos pos' : Pos} {wi : TI} {g : TG} {tt : TT} {inner : Addr → TIn} {Qf : Value → Shared → Prop}
    {Inner : Addr → (Result → Shared → Prop) → PySem.Env → Shared → (Shared → Prop) → Prop}
    (hc : X.calm = true) (hN : X.N.Nodup) (I : L2.Inv X pins σ H s) (hi : PI X tg iter wi) (ok : BlkOk X.N X.env.scope scope own)
    (hg : ∀ (s : Shared) (H : Hp) (C : Addr) (cl : List (Str × Addr)) (fp : List Addr), PG (X.blk s H scope (compEnvC scope cl C X.env) fp) tg g) (ht : ∀ (s : Shared) (H : Hp) (C : Addr) (cl : List (Str × Addr)) (fp : List Addr), PTs (X.blk s H scope (compEnvC scope cl C X.env) fp) ifs tt)
    (hloop : ∀ (D : Addr) (env : PySem.Env) (R : Result → Shared → Prop) (it : Addr) (I : Nat → Shared → Prop), (∀ n s, I n s → TurnAsk X.prog X.w X.A R tg ifs (.ref it) env (Inner D R env) n I s) → ∀ n s, I n s → codeAny (model X.prog X.w) X.A (.compLoop (.ListComp elt (⟨tg, iter, ifs, 0⟩ :: rest) scope pos) 0 (.ref it) (.ref D) env) R s)
    (hin : ∀ (s : Shared) (H : Hp) (C : Addr) (cl : List (Str × Addr)) (fp : List Addr) (D : Addr) (R : Result → Shared → Prop), InnerOk (X.blk s H scope (compEnvC scope cl C X.env) fp) (own.map (·.2)) (Inner D R (compEnvC scope cl C X.env)) (inner D))
    (hs : ∀ x, foldedSetIterable iter X.env x = pure x)
    (h : tLcN wi g tt inner (own.map (·.2)) σ H Q)
    (hRR : ∀ D C s' m H', L2.Inv X pins σ H' s' → Q (.ref D) H' → s'.heap.Ns C m → FpOk X pins H' C → compPost (model X.prog X.w) X.A X.xe none Qf (.ref D) C (.ok .next) s') :
    wpAny (model X.prog X.w) X.A (comprehension (.ListComp elt (⟨tg, iter, ifs, 0⟩ :: rest) scope pos) scope X.env pos' (newList []) false (eval iter X.env) none) Qf X.xe s := by
  have hfree : ∀ y ∈ scope.names, y.2 = .free → ∃ c, X.env.cells.lookup y.1 = some c := fun y hy e => by
    rcases ok.free y hy e with k | k
    · exact I.ok.has _ (.inl k)
    · exact I.ok.has _ (.inr k)
  refine wpAny_comprehension_free (use := none) rfl hs (closure_ok hfree) ok.kind (fun y hy e => by rw [ok.uniq y hy, e])
    (thn (hi.run pins s σ H _ I h) fun xv s1 hx => thn hx fun itv s2 h2 => ?_)
  obtain ⟨it, fp, tn, J, H2, e, I2, T, st2, f2, q⟩ := h2
  subst e
  refine wpAny_newObj_type (newEnv_comp ?_) (by show 0 ≤ sizeLine; decide)
  generalize hD : s2.heap.objs.size = D
  have hDn : H2 D = none := I2.hok.fresh (Nat.le_of_eq hD)
  obtain ⟨W, ⟨m0, w0⟩, turn⟩ := q D hDn
  generalize hs3 : ({ s2 with heap := s2.heap.push { cls := .type "list", data := .seq ([] : List Value).toArray } } : Shared) = s3
  have I3 : L2.Inv X pins σ (upd H2 D (.lst [])) s3 := by
    rw [← hs3]
    refine I2.laid (t' := s2.toks) (fun b o e => Heap.get?_push_of_some _ e) (Nat.le_of_eq hD) ⟨Nat.zero_le _, [], 0, .nil, ?_⟩
    rw [← hD]
    exact Heap.get?_push_size _ rfl
  have h3 : s3.heap = s2.heap.push { cls := .type "list", data := .seq ([] : List Value).toArray } := by rw [← hs3]
  have sz : ∀ b ∈ fp, b < s2.heap.objs.size := fun b hb => by
    obtain ⟨o, e, _⟩ := T.obj _ _ st2 b hb
    exact Heap.lt_size e
  have f3 : ∀ b ∈ fp, FpOk X pins (upd H2 D (.lst [])) b ∧ b < s3.heap.objs.size := fun b hb => by
    have hlt := sz b hb
    refine ⟨⟨?_, (f2 b hb).2⟩, by rw [h3, Heap.size_push]; exact Nat.lt_succ_of_lt hlt⟩
    rw [upd_ne (by rw [← hD]; exact Nat.ne_of_lt hlt)]
    exact (f2 b hb).1
  have st3 : tn 0 s3.heap := T.keep _ _ _ st2 fun b _ o e => by rw [h3]; exact Heap.get?_push_of_some _ e
  have I4 := block_start I3 ok hN f3
  have pg := hg s3 (upd H2 D (.lst [])) s3.heap.objs.size (cellsFrom (s3.heap.objs.size + 1) scope.names (cloFrom X.env.cells scope.names [])) fp
  have pt := ht s3 (upd H2 D (.lst [])) s3.heap.objs.size (cellsFrom (s3.heap.objs.size + 1) scope.names (cloFrom X.env.cells scope.names [])) fp
  have pin := hin s3 (upd H2 D (.lst [])) s3.heap.objs.size (cellsFrom (s3.heap.objs.size + 1) scope.names (cloFrom X.env.cells scope.names [])) fp D
  show codeAny _ _ (.compStart (.ListComp elt (⟨tg, iter, ifs, 0⟩ :: rest) scope pos) 0 (.ref it) (.ref D) (compEnvC scope (cellsFrom (s3.heap.objs.size + 1) scope.names (cloFrom X.env.cells scope.names [])) s3.heap.objs.size X.env)) (compPost (model X.prog X.w) X.A X.xe none Qf (.ref D) s3.heap.objs.size) { s3 with heap := pushCells (s3.heap.push { cls := .type "dict", data := .dict #[] }) scope.names }
  have nfp : ∀ b ∈ fp, (upd H2 D (.lst [])) b = none := fun b hb => (f3 b hb).1.1
  generalize hce : compEnvC scope (cellsFrom (s3.heap.objs.size + 1) scope.names (cloFrom X.env.cells scope.names [])) s3.heap.objs.size X.env = ce at I4 pg pt pin ⊢
  have cL : ce.locals = s3.heap.objs.size := by subst hce; rfl
  generalize hH3 : upd H2 D (.lst []) = H3 at I3 I4 pg pt pin w0 nfp f3
  generalize hs4 : ({ s3 with heap := pushCells (s3.heap.push { cls := .type "dict", data := .dict #[] }) scope.names } : Shared) = s4 at I4 ⊢
  have st4 : tn 0 s4.heap := T.keep _ _ _ st3 fun b _ o e => by rw [← hs4]; exact pushCells_keeps _ _ _ _ (Heap.get?_push_of_some _ e)
  have loop : codeAny (model X.prog X.w) X.A (.compLoop (.ListComp elt (⟨tg, iter, ifs, 0⟩ :: rest) scope pos) 0 (.ref it) (.ref D) ce) (compPost (model X.prog X.w) X.A X.xe none Qf (.ref D) s3.heap.objs.size) s4 := by
    refine level_ok (X := X.blk s3 H3 scope ce fp) (Inner := Inner D (compPost (model X.prog X.w) X.A X.xe none Qf (.ref D) s3.heap.objs.size) ce) rfl hc pg pt T rfl (hloop D ce _ it) (pin _) (pins := []) (Qe := fun H => Q (.ref D) H) (fun H5 s6 I6 qq => ?_) (fun {σ' H' s'} I' hn b hb => ⟨hn b hb, (I'.ok.exf b hb).1, I'.ok.exfs b hb, .inl hb, fun x c e => (I'.ok.exf b hb).2 x c e, fun p hp => absurd (show p ∈ ([] : List (Addr × Obj)) ++ [] from hp) (by simp)⟩) turn I4 st4 nfp w0
    have I7 : L2.Inv X pins σ H5 s6 := I3.call' (ch := fp) I6.os I6.base I6.hok I6.bare fun b hb => ⟨(f3 b hb).1.2.2.2.1, (f3 b hb).1.2.1, (f3 b hb).1.2.2.2.2.1, (f3 b hb).1.2.2.2.2.2⟩
    have nC : H5 s3.heap.objs.size = none := by
      have z : H5 ce.locals = none := I6.free
      rw [cL] at z
      exact z
    obtain ⟨m, hn, _⟩ := I6.loc
    have hn : s6.heap.Ns ce.locals m := hn
    rw [cL] at hn
    exact hRR D s3.heap.objs.size s6 m H5 I7 qq hn (I3.fpOk (Nat.le_refl _) nC)
  exact codeAny_compStart_list loop (T.self X.A 0 _ _ _ st4 loop)
end
end DL

/-! comprehensions of several clauses: three clauses of a list -/
namespace DL
open PySem PySem.Spec PyProof.Rows L2
section
variable {X : Cx}
theorem pe_lc3 {elt t0 i0 t1 i1 t2 i2 : Expr} {f0 f1 f2 : List Expr} {scope : Scope} {own : List (Str × Nat)} {vs1 vs2 : List Nat} {pos : Pos} {wi wi1 wi2 : TI} {g g1 g2 : TG} {tt tt1 tt2 : TT} {te : TE} (hc : X.calm = true) (hN : X.N.Nodup) (hi : PI X t0 i0 wi) (ok : BlkOk X.N X.env.scope scope own) (hv : ∀ i ∈ vs1, i ∈ own.map (·.2)) (hv2 : ∀ i ∈ vs2, i ∈ vs1)
    (hg : ∀ (s : Shared) (H : Hp) (C : Addr) (cl : List (Str × Addr)) (fp : List Addr), PG (X.blk s H scope (compEnvC scope cl C X.env) fp) t0 g) (ht : ∀ (s : Shared) (H : Hp) (C : Addr) (cl : List (Str × Addr)) (fp : List Addr), PTs (X.blk s H scope (compEnvC scope cl C X.env) fp) f0 tt)
    (hi1 : ∀ (s : Shared) (H : Hp) (C : Addr) (cl : List (Str × Addr)) (fp : List Addr), PI (X.blk s H scope (compEnvC scope cl C X.env) fp) t1 i1 wi1)
    (hg1 : ∀ (s : Shared) (H : Hp) (C : Addr) (cl : List (Str × Addr)) (fp : List Addr), PG (X.blk s H scope (compEnvC scope cl C X.env) fp) t1 g1) (ht1 : ∀ (s : Shared) (H : Hp) (C : Addr) (cl : List (Str × Addr)) (fp : List Addr), PTs (X.blk s H scope (compEnvC scope cl C X.env) fp) f1 tt1)
    (hi2 : ∀ (s : Shared) (H : Hp) (C : Addr) (cl : List (Str × Addr)) (fp : List Addr), PI (X.blk s H scope (compEnvC scope cl C X.env) fp) t2 i2 wi2)
    (hg2 : ∀ (s : Shared) (H : Hp) (C : Addr) (cl : List (Str × Addr)) (fp : List Addr), PG (X.blk s H scope (compEnvC scope cl C X.env) fp) t2 g2) (ht2 : ∀ (s : Shared) (H : Hp) (C : Addr) (cl : List (Str × Addr)) (fp : List Addr), PTs (X.blk s H scope (compEnvC scope cl C X.env) fp) f2 tt2)
    (he : ∀ (s : Shared) (H : Hp) (C : Addr) (cl : List (Str × Addr)) (fp : List Addr), PE (X.blk s H scope (compEnvC scope cl C X.env) fp) elt te) (hs : ∀ x, foldedSetIterable i0 X.env x = pure x := by intro _; rfl) (hs1 : ∀ env x, foldedSetIterable i1 env x = pure x := by intro _ _; rfl) (hs2 : ∀ env x, foldedSetIterable i2 env x = pure x := by intro _ _; rfl) :
    PE X (.ListComp elt [⟨t0, i0, f0, 0⟩, ⟨t1, i1, f1, 0⟩, ⟨t2, i2, f2, 0⟩] scope pos) (tLcN wi g tt (fun D => tNext wi1 g1 tt1 (tNext wi2 g2 tt2 (tApp te D) vs2) vs1) (own.map (·.2))) := by
  refine ⟨fun pins s σ H Q I h => ?_⟩
  rw [eval_ListComp]
  refine lcN_core (Inner := fun D R env => InNext X.prog X.w X.A R (.ListComp elt [⟨t0, i0, f0, 0⟩, ⟨t1, i1, f1, 0⟩, ⟨t2, i2, f2, 0⟩] scope pos) 0 i1 (.ref D) env) hc hN I hi ok hg ht
    (fun D env R it I turn => loopNext comp_list (eq3_0 _ _ _ _ _ _ _ _ _ _ _ _) (hs1 env) I turn) (fun s H C cl fp D R => ?_) hs h fun D C s' m H' I' q hn f => ⟨m, hn, fun h'' sb => ?_⟩
  · exact in_next (X := X.blk s H scope (compEnvC scope cl C X.env) fp) rfl hc rfl (hi1 s H C cl fp) (hg1 s H C cl fp) (ht1 s H C cl fp) start3_1
      (fun R' it I turn => loopNext comp_list (eq3_1 _ _ _ _ _ _ _ _ _ _ _ _) (hs2 _) I turn)
      (fun R' => in_next (X := X.blk s H scope (compEnvC scope cl C X.env) fp) rfl hc rfl (hi2 s H C cl fp) (hg2 s H C cl fp) (ht2 s H C cl fp) start3_2
        (fun R' it I turn => loopList comp_list (eq3_2 _ _ _ _ _ _ _ _ _ _ _ _) I turn) (fun R'' => in_list (X := X.blk s H scope (compEnvC scope cl C X.env) fp) rfl (he s H C cl fp) rfl) hv2) hv
  · obtain ⟨f0, f1, f2, f3, f4, f5⟩ := f
    exact ⟨.ref D, H', I'.turned (t' := s'.toks) (fun b o hb e => (sb.2 b hb).trans e) f0 f1 f3 f4 f5, rfl, q⟩
end
end DL

/-! comprehensions of dicts, keys that are tuples: one clause and two -/
namespace DL
open PySem PySem.Spec PyProof.Rows L2
/-- the last clause, of a dict -/
def EqDict (CE : Expr) (k : Nat) (t1 i1 : Expr) (ifs1 : List Expr) (kx vx : Expr) : Prop := ∀ (it : Value) (D : Addr) (env : PySem.Env), compTurn CE k it (.ref D) env = (do
      standAt i1.pos
      match ← pyNext it with
      | none => pure (.done .next)
      | some v =>
        letOwnedTupleGo t1 it v
        assign t1 env v
        let mut ok := true
        for c in ifs1 do
          if ok then ok ← isTrue c env (eval c env)
        if ok then
          (do
            let kv ← eval kx env
            let vv ← holding [kv] (eval vx env)
            standAt { kx.pos with endLine := vx.pos.endLine, endCol := vx.pos.endCol }
            holding [kv, vv] (dictSet D kv vv))
        again (.compLoop CE k it (.ref D) env))
theorem eqD1_0 (kx vx t0 i0 : Expr) (f0 : List Expr) (scope : Scope) (pos : Pos) : EqDict (.DictComp kx vx [⟨t0, i0, f0, 0⟩] scope pos) 0 t0 i0 f0 kx vx := fun _ _ _ => rfl
theorem eqD2_1 (kx vx t0 i0 t1 i1 : Expr) (f0 f1 : List Expr) (scope : Scope) (pos : Pos) : EqDict (.DictComp kx vx [⟨t0, i0, f0, 0⟩, ⟨t1, i1, f1, 0⟩] scope pos) 1 t1 i1 f1 kx vx := fun _ _ _ => rfl
theorem startD2_1 {kx vx t0 i0 t1 i1 : Expr} {f0 f1 : List Expr} {scope : Scope} {pos : Pos} : StartAt (.DictComp kx vx [⟨t0, i0, f0, 0⟩, ⟨t1, i1, f1, 0⟩] scope pos) 1 := by
  intro prog w A R s it acc env h0 h
  refine codeAny_of_tree ?_
  show wpAny _ _ ((compStart (.DictComp kx vx [⟨t0, i0, f0, 0⟩, ⟨t1, i1, f1, 0⟩] scope pos) 1 it acc env).onRaise (fun x => do noteFrame x env; standAt theWindowsPlace)) _ _ s
  refine wpAny_notedAt ?_
  unfold compStart
  show wpAny _ _ (ask >>= _) _ _ s
  refine wpAny_bind (wpAny_askSetting (wpAny_ite ?_))
  split
  · first
      | exact wpAny_bind (wpAny_pure (wpAny_pure (And.intro rfl h0)))
      | exact wpAny_pure (And.intro rfl h0)
  · first
      | exact wpAny_bind (wpAny_rule (wpAny_bind (wpAny_standAt (wpAny_bind (wpAny_mono h (fun it' s' h' => wpAny_pure (And.intro rfl h')) fun _ _ x => x)))))
      | (refine wpAny_bind (wpAny_rule ?_); show wpAny _ _ (standAt i1.pos >>= _) _ _ s; exact wpAny_bind (wpAny_standAt (wpAny_bind (wpAny_mono h (fun it' s' h' => wpAny_pure (And.intro rfl h')) fun _ _ x => x))))
section
variable {prog : Program} {w : World} {A : Around} {R : Result → Shared → Prop} {s : Shared} {CE t0 i0 kx vx : Expr} {ifs0 : List Expr} {it : Value} {D : Addr} {env : PySem.Env} {k : Nat}
def InDict (prog : Program) (w : World) (A : Around) (R : Result → Shared → Prop) (kx vx : Expr) (D : Addr) (env : PySem.Env) : Shared → (Shared → Prop) → Prop := fun s₃ P =>
  wpAny (model prog w) A (eval kx env) (fun kv s₄ => wpAny (model prog w) A (eval vx env) (fun vv s₅ =>
              wpAny (model prog w) A (dictSet D kv vv) (fun _ s₆ => P s₆) (notedBy (model prog w) A env fun e s' => R (.error e) s') s₅) (notedBy (model prog w) A env fun e s' => R (.error e) s') s₄) (notedBy (model prog w) A env fun e s' => R (.error e) s') s₃
theorem loopDict (hd : CompAt CE) (he : EqDict CE k t0 i0 ifs0 kx vx) (I : Nat → Shared → Prop)
    (turn : ∀ n s, I n s → TurnAsk prog w A R t0 ifs0 it env (InDict prog w A R kx vx D env) n I s) (n : Nat) (s : Shared) (h : I n s) :
    codeAny (model prog w) A (.compLoop CE k it (.ref D) env) R s := by
  refine codeAny_loop rfl I (fun n s hI => ?_) n h
  rw [hd.den, hd.under]
  refine wpAny_noted ?_
  rw [he]
  refine wpAny_bind (wpAny_standAt (wpAny_bind (wpAny_mono (turn n s hI) (fun r s₁ h₁ => ?_) fun _ _ h' => h')))
  cases r with
  | none => exact wpAny_pure h₁
  | some v =>
    refine wpAny_bind (wpAny_mono h₁ (fun _ s₁' h₁' => ?_) fun _ _ h' => h')
    refine wpAny_bind (wpAny_mono h₁' (fun _ s₂ h₂ => wpAny_bind (wpAny_mono h₂ (fun ok s₃ h₃ => ?_) fun _ _ h' => h')) fun _ _ h' => h')
    cases ok with
    | false => exact wpAny_pure ⟨rfl, h₃⟩
    | true =>
      exact wpAny_bind (wpAny_bind (wpAny_mono h₃ (fun kv s₄ h₄ => wpAny_bind (wpAny_holding (wpAny_mono h₄ (fun vv s₅ h₅ => wpAny_bind (wpAny_standAt (wpAny_holding (wpAny_mono h₅ (fun _ s₆ h₆ => wpAny_pure ⟨rfl, h₆⟩) fun _ _ h' => h')))) fun _ _ h' => h'))) fun _ _ h' => h'))
end
section
variable {X : Cx}
/-- d[k] = v by a comprehension, the key a tuple -/
theorem d_dictSetT {pins : List (Addr × Obj)} {σ : L2.St} {H : Hp} {s : Shared} {E : Value → Shared → Prop} {D b : Addr} {kvs : List (List Key × V)} {ks : List Key} {v : V} {u r : Value} {Q : Unit → Shared → Prop} (hu : X.A.units < cLine) (I : L2.Inv X pins σ H s) (hD : H D = some (.dT kvs)) (hz : kvs.length < sizeLine)
    (ry : RelV (.ref b) u) (eb : H b = some (.tup (ks.map kV))) (rv : RelV v r) (h : ∀ s', L2.Inv X pins σ (upd H D (.dT (putK kvs ks v))) s' → Q () s') : wpAny (model X.prog X.w) X.A (dictSet D u r) Q E s := by
  cases (show u = Value.ref b from ry)
  obtain ⟨z, hd, xs, rel, dd⟩ := dt_of I.hok hD
  have hzv : xs.length ≤ sizeLine := by rw [← Paired.length rel]; exact z
  have hl : (putK kvs ks v).length ≤ sizeLine := by have := length_putK kvs ks v; omega
  refine wpAny_dictSet_heap (knd := tupleKind (mixKind X.prog X.w)) (hsz := hzv) (show (tupleKind (mixKind X.prog X.w)).room X.A from hu) (key_of I.hok eb) dd fun h' dd' hs => h _ ?_
  obtain ⟨q, es, ep, hq, h2, h3, h4, _, h5⟩ := dd'
  refine d_write I (by rw [hD]; exact True.intro) hs ⟨q, hq⟩ ⟨hl, hd, _, (rel.put ks eb rv).keeps fun c ys ec => ?_, q, es, ep, hq, h2, h3, h4, h5⟩
  rw [upd_ne (ne_of ec hD (fun z => nomatch z))]
  exact ec
def tPutT (tk tv : TE) (D : Addr) : TIn := fun σ H Nx => tk σ H fun y H4 => tv σ H4 fun z H5 => ∃ kvs ks b, y = .ref b ∧ H5 b = some (.tup (ks.map kV)) ∧ H5 D = some (.dT kvs) ∧ kvs.length < sizeLine ∧ Nx (upd H5 D (.dT (putK kvs ks z)))
theorem in_dict {kx vx : Expr} {vs : List Nat} {R : Result → Shared → Prop} {D : Addr} {env : PySem.Env} {tk tv : TE} (hu : X.A.units < cLine) (hxe : X.xe = fun _ _ => False) (pk : PE X kx tk) (pe : PE X vx tv) (henv : env = X.env) : InnerOk X vs (InDict X.prog X.w X.A R kx vx D env) (tPutT tk tv D) := by
  intro pins σ H s Nx P I h hP
  subst henv
  have xF : ∀ {α : Type} {act : Sem α} {Q Q' : α → Shared → Prop} {E : Value → Shared → Prop} {s : Shared}, wpAny (model X.prog X.w) X.A act Q X.xe s → (∀ a s, Q a s → Q' a s) → wpAny (model X.prog X.w) X.A act Q' E s := fun {α act Q Q' E s} h k => thnF (by rw [hxe] at h; exact h) k
  refine xF (pk.run _ s σ H _ I h) fun z s10 ⟨yk, H10, I10, r10, q10⟩ => ?_
  refine xF (pe.run _ s10 σ H10 _ I10 q10) fun z2 s11 ⟨yv, H11, I11, r11, kvs, ks, b, ek, hb, hD11, hz11, nx⟩ => ?_
  subst ek
  exact d_dictSetT (X := X) hu I11 hD11 hz11 r10 hb r11 fun s12 I12 => hP σ _ s12 I12 (Kept.refl vs σ) nx
theorem dcN_core {pins : List (Addr × Obj)} {s : Shared} {σ : L2.St} {H : Hp} {Q : VK} {kx vx tg iter : Expr} {ifs : List Expr} {rest : List Comprehension} {scope : Scope} {own : List (Str × Nat)} {pos pos' : Pos} {wi : TI} {g : TG} {tt : TT} {inner : Addr → TIn} {Qf : Value → Shared → Prop}
    {Inner : Addr → (Result → Shared → Prop) → PySem.Env → Shared → (Shared → Prop) → Prop}
    (hc : X.calm = true) (hN : X.N.Nodup) (I : L2.Inv X pins σ H s) (hi : PI X tg iter wi) (ok : BlkOk X.N X.env.scope scope own)
    (hg : ∀ (s : Shared) (H : Hp) (C : Addr) (cl : List (Str × Addr)) (fp : List Addr), PG (X.blk s H scope (compEnvC scope cl C X.env) fp) tg g) (ht : ∀ (s : Shared) (H : Hp) (C : Addr) (cl : List (Str × Addr)) (fp : List Addr), PTs (X.blk s H scope (compEnvC scope cl C X.env) fp) ifs tt)
    (hloop : ∀ (D : Addr) (env : PySem.Env) (R : Result → Shared → Prop) (it : Addr) (I : Nat → Shared → Prop), (∀ n s, I n s → TurnAsk X.prog X.w X.A R tg ifs (.ref it) env (Inner D R env) n I s) → ∀ n s, I n s → codeAny (model X.prog X.w) X.A (.compLoop (.DictComp kx vx (⟨tg, iter, ifs, 0⟩ :: rest) scope pos) 0 (.ref it) (.ref D) env) R s)
    (hin : ∀ (s : Shared) (H : Hp) (C : Addr) (cl : List (Str × Addr)) (fp : List Addr) (D : Addr) (R : Result → Shared → Prop), InnerOk (X.blk s H scope (compEnvC scope cl C X.env) fp) (own.map (·.2)) (Inner D R (compEnvC scope cl C X.env)) (inner D))
    (hs : ∀ x, foldedSetIterable iter X.env x = pure x)
    (h : tDcN wi g tt inner (own.map (·.2)) σ H Q)
    (hRR : ∀ D C s' m H', L2.Inv X pins σ H' s' → Q (.ref D) H' → s'.heap.Ns C m → FpOk X pins H' C → compPost (model X.prog X.w) X.A X.xe none Qf (.ref D) C (.ok .next) s') :
    wpAny (model X.prog X.w) X.A (comprehension (.DictComp kx vx (⟨tg, iter, ifs, 0⟩ :: rest) scope pos) scope X.env pos' newDict false (eval iter X.env) none) Qf X.xe s := by
  have hfree : ∀ y ∈ scope.names, y.2 = .free → ∃ c, X.env.cells.lookup y.1 = some c := fun y hy e => by
    rcases ok.free y hy e with k | k
    · exact I.ok.has _ (.inl k)
    · exact I.ok.has _ (.inr k)
  refine wpAny_comprehension_free (use := none) rfl hs (closure_ok hfree) ok.kind (fun y hy e => by rw [ok.uniq y hy, e])
    (thn (hi.run pins s σ H _ I h) fun xv s1 hx => thn hx fun itv s2 h2 => ?_)
  obtain ⟨it, fp, tn, J, H2, e, I2, T, st2, f2, q⟩ := h2
  subst e
  refine wpAny_newObj_type (newEnv_comp ?_)
  generalize hD : s2.heap.objs.size = D
  have hDn : H2 D = none := I2.hok.fresh (Nat.le_of_eq hD)
  obtain ⟨W, ⟨m0, w0⟩, turn⟩ := q D hDn
  generalize hs3 : ({ s2 with heap := s2.heap.push { cls := .type "dict", data := .dict #[] } } : Shared) = s3
  have I3 : L2.Inv X pins σ (upd H2 D (.dT [])) s3 := by
    rw [← hs3]
    refine I2.laid (t' := s2.toks) (fun b o e => Heap.get?_push_of_some _ e) (Nat.le_of_eq hD) ?_
    rw [← hD]
    exact dt_empty s2.heap I2.big
  have h3 : s3.heap = s2.heap.push { cls := .type "dict", data := .dict #[] } := by rw [← hs3]
  have sz : ∀ b ∈ fp, b < s2.heap.objs.size := fun b hb => by
    obtain ⟨o, e, _⟩ := T.obj _ _ st2 b hb
    exact Heap.lt_size e
  have f3 : ∀ b ∈ fp, FpOk X pins (upd H2 D (.dT [])) b ∧ b < s3.heap.objs.size := fun b hb => by
    have hlt := sz b hb
    refine ⟨⟨?_, (f2 b hb).2⟩, by rw [h3, Heap.size_push]; exact Nat.lt_succ_of_lt hlt⟩
    rw [upd_ne (by rw [← hD]; exact Nat.ne_of_lt hlt)]
    exact (f2 b hb).1
  have st3 : tn 0 s3.heap := T.keep _ _ _ st2 fun b _ o e => by rw [h3]; exact Heap.get?_push_of_some _ e
  have I4 := block_start I3 ok hN f3
  have pg := hg s3 (upd H2 D (.dT [])) s3.heap.objs.size (cellsFrom (s3.heap.objs.size + 1) scope.names (cloFrom X.env.cells scope.names [])) fp
  have pt := ht s3 (upd H2 D (.dT [])) s3.heap.objs.size (cellsFrom (s3.heap.objs.size + 1) scope.names (cloFrom X.env.cells scope.names [])) fp
  have pin := hin s3 (upd H2 D (.dT [])) s3.heap.objs.size (cellsFrom (s3.heap.objs.size + 1) scope.names (cloFrom X.env.cells scope.names [])) fp D
  show codeAny _ _ (.compStart (.DictComp kx vx (⟨tg, iter, ifs, 0⟩ :: rest) scope pos) 0 (.ref it) (.ref D) (compEnvC scope (cellsFrom (s3.heap.objs.size + 1) scope.names (cloFrom X.env.cells scope.names [])) s3.heap.objs.size X.env)) (compPost (model X.prog X.w) X.A X.xe none Qf (.ref D) s3.heap.objs.size) { s3 with heap := pushCells (s3.heap.push { cls := .type "dict", data := .dict #[] }) scope.names }
  have nfp : ∀ b ∈ fp, (upd H2 D (.dT [])) b = none := fun b hb => (f3 b hb).1.1
  generalize hce : compEnvC scope (cellsFrom (s3.heap.objs.size + 1) scope.names (cloFrom X.env.cells scope.names [])) s3.heap.objs.size X.env = ce at I4 pg pt pin ⊢
  have cL : ce.locals = s3.heap.objs.size := by subst hce; rfl
  generalize hH3 : upd H2 D (.dT []) = H3 at I3 I4 pg pt pin w0 nfp f3
  generalize hs4 : ({ s3 with heap := pushCells (s3.heap.push { cls := .type "dict", data := .dict #[] }) scope.names } : Shared) = s4 at I4 ⊢
  have st4 : tn 0 s4.heap := T.keep _ _ _ st3 fun b _ o e => by rw [← hs4]; exact pushCells_keeps _ _ _ _ (Heap.get?_push_of_some _ e)
  have loop : codeAny (model X.prog X.w) X.A (.compLoop (.DictComp kx vx (⟨tg, iter, ifs, 0⟩ :: rest) scope pos) 0 (.ref it) (.ref D) ce) (compPost (model X.prog X.w) X.A X.xe none Qf (.ref D) s3.heap.objs.size) s4 := by
    refine level_ok (X := X.blk s3 H3 scope ce fp) (Inner := Inner D (compPost (model X.prog X.w) X.A X.xe none Qf (.ref D) s3.heap.objs.size) ce) rfl hc pg pt T rfl (hloop D ce _ it) (pin _) (pins := []) (Qe := fun H => Q (.ref D) H) (fun H5 s6 I6 qq => ?_) (fun {σ' H' s'} I' hn b hb => ⟨hn b hb, (I'.ok.exf b hb).1, I'.ok.exfs b hb, .inl hb, fun x c e => (I'.ok.exf b hb).2 x c e, fun p hp => absurd (show p ∈ ([] : List (Addr × Obj)) ++ [] from hp) (by simp)⟩) turn I4 st4 nfp w0
    have I7 : L2.Inv X pins σ H5 s6 := I3.call' (ch := fp) I6.os I6.base I6.hok I6.bare fun b hb => ⟨(f3 b hb).1.2.2.2.1, (f3 b hb).1.2.1, (f3 b hb).1.2.2.2.2.1, (f3 b hb).1.2.2.2.2.2⟩
    have nC : H5 s3.heap.objs.size = none := by
      have z : H5 ce.locals = none := I6.free
      rw [cL] at z
      exact z
    obtain ⟨m, hn, _⟩ := I6.loc
    have hn : s6.heap.Ns ce.locals m := hn
    rw [cL] at hn
    exact hRR D s3.heap.objs.size s6 m H5 I7 qq hn (I3.fpOk (Nat.le_refl _) nC)
  exact codeAny_compStart_dict loop (T.self X.A 0 _ _ _ st4 loop)
theorem pe_dcT1 {kx vx t0 i0 : Expr} {f0 : List Expr} {scope : Scope} {own : List (Str × Nat)} {pos : Pos} {wi : TI} {g : TG} {tt : TT} {tk tv : TE} (hu : X.A.units < cLine) (hc : X.calm = true) (hN : X.N.Nodup) (hi : PI X t0 i0 wi) (ok : BlkOk X.N X.env.scope scope own)
    (hg : ∀ (s : Shared) (H : Hp) (C : Addr) (cl : List (Str × Addr)) (fp : List Addr), PG (X.blk s H scope (compEnvC scope cl C X.env) fp) t0 g) (ht : ∀ (s : Shared) (H : Hp) (C : Addr) (cl : List (Str × Addr)) (fp : List Addr), PTs (X.blk s H scope (compEnvC scope cl C X.env) fp) f0 tt)
    (hk : ∀ (s : Shared) (H : Hp) (C : Addr) (cl : List (Str × Addr)) (fp : List Addr), PE (X.blk s H scope (compEnvC scope cl C X.env) fp) kx tk)
    (he : ∀ (s : Shared) (H : Hp) (C : Addr) (cl : List (Str × Addr)) (fp : List Addr), PE (X.blk s H scope (compEnvC scope cl C X.env) fp) vx tv) (hs : ∀ x, foldedSetIterable i0 X.env x = pure x := by intro _; rfl) :
    PE X (.DictComp kx vx [⟨t0, i0, f0, 0⟩] scope pos) (tDcN wi g tt (fun D => tPutT tk tv D) (own.map (·.2))) := by
  refine ⟨fun pins s σ H Q I h => ?_⟩
  rw [arm_eval_DictComp]
  refine dcN_core (Inner := fun D R env => InDict X.prog X.w X.A R kx vx D env) hc hN I hi ok hg ht
    (fun D env R it I turn => loopDict comp_dict (eqD1_0 _ _ _ _ _ _ _) I turn) (fun s H C cl fp D R => ?_) hs h fun D C s' m H' I' q hn f => ⟨m, hn, fun h'' sb => ?_⟩
  · exact in_dict (X := X.blk s H scope (compEnvC scope cl C X.env) fp) hu rfl (hk s H C cl fp) (he s H C cl fp) rfl
  · obtain ⟨f0, f1, f2, f3, f4, f5⟩ := f
    exact ⟨.ref D, H', I'.turned (t' := s'.toks) (fun b o hb e => (sb.2 b hb).trans e) f0 f1 f3 f4 f5, rfl, q⟩
theorem pe_dcT2 {kx vx t0 i0 t1 i1 : Expr} {f0 f1 : List Expr} {scope : Scope} {own : List (Str × Nat)} {vs1 : List Nat} {pos : Pos} {wi wi1 : TI} {g g1 : TG} {tt tt1 : TT} {tk tv : TE} (hu : X.A.units < cLine) (hc : X.calm = true) (hN : X.N.Nodup) (hi : PI X t0 i0 wi) (ok : BlkOk X.N X.env.scope scope own) (hv : ∀ i ∈ vs1, i ∈ own.map (·.2))
    (hg : ∀ (s : Shared) (H : Hp) (C : Addr) (cl : List (Str × Addr)) (fp : List Addr), PG (X.blk s H scope (compEnvC scope cl C X.env) fp) t0 g) (ht : ∀ (s : Shared) (H : Hp) (C : Addr) (cl : List (Str × Addr)) (fp : List Addr), PTs (X.blk s H scope (compEnvC scope cl C X.env) fp) f0 tt)
    (hi1 : ∀ (s : Shared) (H : Hp) (C : Addr) (cl : List (Str × Addr)) (fp : List Addr), PI (X.blk s H scope (compEnvC scope cl C X.env) fp) t1 i1 wi1)
    (hg1 : ∀ (s : Shared) (H : Hp) (C : Addr) (cl : List (Str × Addr)) (fp : List Addr), PG (X.blk s H scope (compEnvC scope cl C X.env) fp) t1 g1) (ht1 : ∀ (s : Shared) (H : Hp) (C : Addr) (cl : List (Str × Addr)) (fp : List Addr), PTs (X.blk s H scope (compEnvC scope cl C X.env) fp) f1 tt1)
    (hk : ∀ (s : Shared) (H : Hp) (C : Addr) (cl : List (Str × Addr)) (fp : List Addr), PE (X.blk s H scope (compEnvC scope cl C X.env) fp) kx tk)
    (he : ∀ (s : Shared) (H : Hp) (C : Addr) (cl : List (Str × Addr)) (fp : List Addr), PE (X.blk s H scope (compEnvC scope cl C X.env) fp) vx tv) (hs : ∀ x, foldedSetIterable i0 X.env x = pure x := by intro _; rfl) (hs1 : ∀ env x, foldedSetIterable i1 env x = pure x := by intro _ _; rfl) :
    PE X (.DictComp kx vx [⟨t0, i0, f0, 0⟩, ⟨t1, i1, f1, 0⟩] scope pos) (tDcN wi g tt (fun D => tNext wi1 g1 tt1 (tPutT tk tv D) vs1) (own.map (·.2))) := by
  refine ⟨fun pins s σ H Q I h => ?_⟩
  rw [arm_eval_DictComp]
  refine dcN_core (Inner := fun D R env => InNext X.prog X.w X.A R (.DictComp kx vx [⟨t0, i0, f0, 0⟩, ⟨t1, i1, f1, 0⟩] scope pos) 0 i1 (.ref D) env) hc hN I hi ok hg ht
    (fun D env R it I turn => loopNext comp_dict (eqD2_0 _ _ _ _ _ _ _ _ _ _) (hs1 env) I turn) (fun s H C cl fp D R => ?_) hs h fun D C s' m H' I' q hn f => ⟨m, hn, fun h'' sb => ?_⟩
  · exact in_next (X := X.blk s H scope (compEnvC scope cl C X.env) fp) rfl hc rfl (hi1 s H C cl fp) (hg1 s H C cl fp) (ht1 s H C cl fp) startD2_1
      (fun R' it I turn => loopDict comp_dict (eqD2_1 _ _ _ _ _ _ _ _ _ _) I turn)
      (fun R' => in_dict (X := X.blk s H scope (compEnvC scope cl C X.env) fp) hu rfl (hk s H C cl fp) (he s H C cl fp) rfl) hv
  · obtain ⟨f0, f1, f2, f3, f4, f5⟩ := f
    exact ⟨.ref D, H', I'.turned (t' := s'.toks) (fun b o hb e => (sb.2 b hb).trans e) f0 f1 f3 f4 f5, rfl, q⟩
end
end DL

/-! comprehensions of several clauses, in the world of things -/
namespace DL
open PySem PySem.Spec PyProof.Rows L2
abbrev WIn (α : Type) := Ro → α → Mu → (α → Mu → Prop) → Prop
def dApp (te : WE) : WIn (List Dat) := fun r acc m F => acc.length < sizeLine ∧ te r m fun d m' => F (acc ++ [d]) m'
def dPutT (tk tv : WE) : WIn (List (List Key × Dat)) := fun r acc m F => tk r m fun x m1 => tv r m1 fun d m2 => ∃ ks, tkeyD x = some ks ∧ acc.length < sizeLine ∧ F (pt acc ks d) m2
def dcompN {α : Type} (gd : Mu → Prop) (g : WG) (tt : WT) (din : WIn α) (r : Ro) (F : α → Mu → Prop) : List Dat → α → Mu → Prop
  | [], acc, m => gd m ∧ F acc m
  | x :: xs, acc, m => gd m ∧ g x r m fun r2 m2 => tt r2 m2 fun b m3 => if b = true then din r2 acc m3 fun acc' m4 => dcompN gd g tt din r F xs acc' m4 else dcompN gd g tt din r F xs acc m3
def dNextN {α : Type} (wi : WI) (g : WG) (tt : WT) (din : WIn α) (vs : List Nat) : WIn α := fun r acc m F => wi r m fun src m1 => dcompN src.guard g tt din (dwipe r vs) F src.items acc m1
def dLcN (wi : WI) (g : WG) (tt : WT) (din : WIn (List Dat)) (vs : List Nat) : WE := fun r m F => wi r m fun src m1 => dcompN src.guard g tt din (dwipe r vs) (fun acc m2 => F (.lst acc) m2) src.items [] m1
def dLcNM (wi : WI) (g : WG) (tt : WT) (din : WIn (List Dat)) (vs : List Nat) : WE := fun r m F => wi r m fun src m1 => dcompN src.guard g tt din (dwipe r vs) (fun acc m2 => ∀ n, m2 n = none → F (.ref n) (m2.set n (.lst acc))) src.items [] m1
def dDcN (wi : WI) (g : WG) (tt : WT) (din : WIn (List (List Key × Dat))) (vs : List Nat) : WE := fun r m F => wi r m fun src m1 => dcompN src.guard g tt din (dwipe r vs) (fun acc m2 => ∀ n, m2 n = none → F (.ref n) (m2.set n (.dcT acc))) src.items [] m1
section
variable {K : PySem.W.Frag}
theorem SrcOk.up {W W' : Wd} {src : Src} {J : It} (h : SrcOk K W src J) (u : Up W W') : SrcOk K W' src J := by
  obtain ⟨G, Y, wk, stay, yld⟩ := h.ok
  exact ⟨G, Y, wk, fun W1 m1 u1 => stay W1 m1 (u.trans u1), fun W1 m1 i x H' u1 => yld W1 m1 i x H' (u.trans u1)⟩
/-- what is gathered lies at p, and nobody else's -/
def AtL (K : PySem.W.Frag) (p : Addr) (W : Wd) (acc : List Dat) : Prop := Priv W p ∧ ∃ xs, W.H p = some (.lst xs) ∧ DAll K W xs acc
def AtT (K : PySem.W.Frag) (p : Addr) (W : Wd) (acc : List (List Key × Dat)) : Prop := Priv W p ∧ ∃ kvs, W.H p = some (.dT kvs) ∧ RelKD K W kvs acc
theorem AtL.le {p : Addr} {W W' : Wd} {acc : List Dat} (h : AtL K p W acc) (l : Le W W') : AtL K p W' acc := by
  obtain ⟨pr, xs, hH, x⟩ := h
  obtain ⟨p2, h2⟩ := pr.le hH l
  exact ⟨p2, xs, h2, x.up l.up⟩
theorem AtT.le {p : Addr} {W W' : Wd} {acc : List (List Key × Dat)} (h : AtT K p W acc) (l : Le W W') : AtT K p W' acc := by
  obtain ⟨pr, xs, hH, x⟩ := h
  obtain ⟨p2, h2⟩ := pr.le hH l
  exact ⟨p2, xs, h2, x.up l.up⟩
def InL {α : Type} (K : PySem.W.Frag) (W1 : Wd) (At : Wd → α → Prop) (din : WIn α) (tin : TIn) : Prop := ∀ (W : Wd) (σ : L2.St) (r : Ro) (m : Mu) (acc : α) (F : α → Mu → Prop) (Nx : Hp → Prop), Le W1 W → Sim K W m → Env K W σ r → At W acc → din r acc m F →
  (∀ W' m' acc', Le W1 W' → Up W W' → Sim K W' m' → At W' acc' → F acc' m' → Nx W'.H) → tin σ W.H Nx
theorem inL_app {W1 : Wd} {p : Addr} {te : WE} (hp : W1.H p = none) : InL K W1 (AtL K p) (dApp te) (tApp (liftE K te) p) := by
  rintro W σ r m acc F Nx l S V ⟨pr, xs, hH, x⟩ ⟨hz, q⟩ nx
  refine ⟨W, r, m, _, rfl, S, V, q, fun Wb mb vb db lb Sb xb qb => ?_⟩
  obtain ⟨pb, hb⟩ := pr.le hH lb
  exact ⟨xs, hb, by rw [x.length]; omega, nx ⟨Wb.S, Wb.io, upd Wb.H p (.lst (xs ++ [vb]))⟩ mb (acc ++ [db]) ((l.trans lb).off hp) (lb.up.trans (Up.off pb)) (Sb.off pb) ⟨pb.off, xs ++ [vb], upd_same, ((x.up lb.up).up (Up.off pb)).append (.cons (xb.up (Up.off pb)) .nil)⟩ qb⟩
theorem inL_put {W1 : Wd} {p : Addr} {tk tv : WE} (hp : W1.H p = none) : InL K W1 (AtT K p) (dPutT tk tv) (tPutT (liftE K tk) (liftE K tv) p) := by
  rintro W σ r m acc F Nx l S V h q nx
  refine ⟨W, r, m, _, rfl, S, V, q, fun Wa ma va da la Sa xa qa => ?_⟩
  refine ⟨Wa, r, ma, _, rfl, Sa, V.up la.up, qa, fun Wb mb vb db lb Sb xb ⟨ks, hk, hz, qb⟩ => ?_⟩
  obtain ⟨pb, kvs, hb, x⟩ := (h.le la).le lb
  obtain ⟨b, rfl, hkb⟩ := tkey_of (xa.up lb.up) hk
  exact ⟨kvs, ks, b, rfl, hkb, hb, by rw [x.length]; omega, nx ⟨Wb.S, Wb.io, upd Wb.H p (.dT (putK kvs ks vb))⟩ mb (pt acc ks db) (((l.trans la).trans lb).off hp) ((la.trans lb).up.trans (Up.off pb)) (Sb.off pb) ⟨pb.off, putK kvs ks vb, upd_same, (x.pt xb).up (Up.off pb)⟩ qb⟩
theorem clauseL {α : Type} {At : Wd → α → Prop} {W1 W : Wd} {src : Src} {J : It} {js vs : List Nat} {g : WG} {tt : WT} {din : WIn α} {tin : TIn} {σ : L2.St} {r : Ro} {m : Mu} {acc : α} {F : α → Mu → Prop} {Qe : Hp → Prop} (keep : ∀ (W W' : Wd) (acc : α), At W acc → Le W W' → At W' acc) (hjs : ∀ j ∈ js, j ∈ vs) (hin : InL K W1 At din tin)
    (l1 : Le W1 W) (S : Sim K W m) (V : Env K W σ r) (so : SrcOk K W src J) (x : At W acc) (q : dcompN src.guard g tt din (dwipe r vs) F src.items acc m)
    (fin : ∀ W' m' acc', Le W1 W' → Up W W' → Sim K W' m' → At W' acc' → F acc' m' → Qe W'.H) :
    ∃ Wn : Nat → Nat → Hp → Prop, (∃ n, Wn 0 n W.H) ∧ tClause J (liftG K js g) (liftT K tt) tin vs σ Wn Qe := by
  obtain ⟨Gd, Y, wk, stay, yld⟩ := so.ok
  unfold tClause
  refine walk_it wk (fun i H' => ∃ W2 m2 acc, W2.H = H' ∧ Le W1 W2 ∧ Up W W2 ∧ Sim K W2 m2 ∧ At W2 acc ∧ dcompN src.guard g tt din (dwipe r vs) F (src.items.drop i) acc m2) ?_ ?_ ?_ ?_
  · exact ⟨W, m, acc, rfl, l1, .refl _, S, x, q⟩
  · rintro i H' hi ⟨W2, m2, acc, rfl, l2, u2, S2, x2, q2⟩
    refine stay W2 m2 u2 S2 ?_
    cases hd : src.items.drop i with
    | nil => rw [hd] at q2; exact q2.1
    | cons x ys => rw [hd] at q2; exact q2.1
  · rintro i x H' H'' hlt ⟨W2, m2, acc, rfl, l2, u2, S2, x2, q2⟩ y
    rw [List.drop_eq_getElem_cons hlt] at q2
    obtain ⟨gd, q2⟩ := q2
    obtain ⟨W3, d, rfl, l3, S3, hd, x3⟩ := yld W2 m2 i x H'' u2 S2 gd hlt y
    rw [List.getElem?_eq_getElem hlt] at hd
    cases hd
    refine ⟨W3, dwipe r vs, m2, _, _, rfl, S3, (V.wipe vs).up (u2.trans l3.up), x3, q2, fun W4 m4 σ4 r4 l4 S4 V4 ko q4 => ⟨wipe_back (ko vs hjs), ?_⟩⟩
    refine ⟨W4, r4, m4, _, rfl, S4, V4, q4, fun W5 m5 b l5 S5 q5 => ?_⟩
    have l25 := (l3.trans l4).trans l5
    have x5 := keep _ _ _ x2 l25
    cases b with
    | false => exact ⟨W5, m5, acc, rfl, l2.trans l25, u2.trans l25.up, S5, x5, q5⟩
    | true =>
      rw [if_pos rfl] at q5
      show ite (true = true) (tin σ4 W5.H _) _
      rw [if_pos rfl]
      exact hin W5 σ4 r4 m5 acc _ _ (l2.trans l25) S5 (V4.up l5.up) x5 q5 fun W' m' acc' l' u' S' x' q' => ⟨W', m', acc', rfl, l', (u2.trans l25.up).trans u', S', x', q'⟩
  · rintro H' ⟨W2, m2, acc, rfl, l2, u2, S2, x2, q2⟩
    rw [List.drop_length] at q2
    exact fin W2 m2 acc l2 u2 S2 x2 q2.2
theorem inL_next {α : Type} {At : Wd → α → Prop} {W1 : Wd} {wi : WI} {js vs : List Nat} {g : WG} {tt : WT} {din : WIn α} {tin : TIn} (keep : ∀ (W W' : Wd) (acc : α), At W acc → Le W W' → At W' acc) (hjs : ∀ j ∈ js, j ∈ vs) (hin : InL K W1 At din tin) : InL K W1 At (dNextN wi g tt din vs) (tNext (liftI K wi) (liftG K js g) (liftT K tt) tin vs) := by
  intro W σ r m acc F Nx l S V x q nx
  refine ⟨W, r, m, _, rfl, S, V, q, fun W2 m2 src J l2 S2 so q2 => ?_⟩
  exact clauseL keep hjs hin (l.trans l2) S2 (V.up l2.up) so (keep _ _ _ x l2) q2 fun W' m' acc' l' u' => nx W' m' acc' l' (l2.up.trans u')
end
section
variable {X : Cx}
theorem lcNF {wi : WI} {js : List Nat} {g : WG} {tt : WT} {din : WIn (List Dat)} {inner : Addr → TIn} {vs : List Nat} {σ : L2.St} {H : Hp} {Q : VK} (hjs : ∀ j ∈ js, j ∈ vs) (hin : ∀ (W1 : Wd) (p : Addr), W1.H p = none → InL X.K W1 (AtL X.K p) din (inner p))
    (h : liftE X.K (dLcN wi g tt din vs) σ H Q) : tLcN (liftI X.K wi) (liftG X.K js g) (liftT X.K tt) inner vs σ H Q := by
  obtain ⟨W, r, m, F, e0, S, V, h, q⟩ := h
  refine ⟨W, r, m, _, e0, S, V, h, fun W1 m1 src J l1 S1 so q1 p hp => ?_⟩
  have pr := S1.priv hp
  refine clauseL (At := AtL X.K p) (fun _ _ _ h l => h.le l) hjs (hin W1 p hp) (W := ⟨W1.S, W1.io, upd W1.H p (.lst [])⟩) ((Le.refl W1).off hp) (S1.off pr) (V.up (l1.up.trans ((Le.refl W1).off hp).up)) (so.up ((Le.refl W1).off hp).up) ⟨pr.off, [], upd_same, .nil⟩ q1 fun W2 m2 acc l2 u2 S2 ⟨p2, xs, h2, x2⟩ q2 => ?_
  obtain ⟨l3, S3, u3⟩ := S2.settleP l2 hp p2 (by rw [h2]; rfl)
  exact q ⟨fun b => W2.S b ∨ b = p, W2.io, W2.H⟩ m2 _ _ (l1.trans l3) S3 (.lst (.inr rfl) h2 (x2.up u3)) q2
theorem lcNMF {wi : WI} {js : List Nat} {g : WG} {tt : WT} {din : WIn (List Dat)} {inner : Addr → TIn} {vs : List Nat} {σ : L2.St} {H : Hp} {Q : VK} (hjs : ∀ j ∈ js, j ∈ vs) (hin : ∀ (W1 : Wd) (p : Addr), W1.H p = none → InL X.K W1 (AtL X.K p) din (inner p))
    (h : liftE X.K (dLcNM wi g tt din vs) σ H Q) : tLcN (liftI X.K wi) (liftG X.K js g) (liftT X.K tt) inner vs σ H Q := by
  obtain ⟨W, r, m, F, e0, S, V, h, q⟩ := h
  refine ⟨W, r, m, _, e0, S, V, h, fun W1 m1 src J l1 S1 so q1 p hp => ?_⟩
  have pr := S1.priv hp
  refine clauseL (At := AtL X.K p) (fun _ _ _ h l => h.le l) hjs (hin W1 p hp) (W := ⟨W1.S, W1.io, upd W1.H p (.lst [])⟩) ((Le.refl W1).off hp) (S1.off pr) (V.up (l1.up.trans ((Le.refl W1).off hp).up)) (so.up ((Le.refl W1).off hp).up) ⟨pr.off, [], upd_same, .nil⟩ q1 fun W2 m2 acc l2 u2 S2 ⟨p2, xs, h2, x2⟩ q2 => ?_
  obtain ⟨n, hn, l3, S3⟩ := S2.cellP (c := .lst acc) l2 hp p2 (by rw [h2]; rfl) ⟨xs, h2, x2⟩
  exact q ⟨W2.S, fun k => if k = n then some p else W2.io k, W2.H⟩ _ _ _ (l1.trans l3) S3 (.ref (by simp)) (q2 n hn)
theorem dcNF {wi : WI} {js : List Nat} {g : WG} {tt : WT} {din : WIn (List (List Key × Dat))} {inner : Addr → TIn} {vs : List Nat} {σ : L2.St} {H : Hp} {Q : VK} (hjs : ∀ j ∈ js, j ∈ vs) (hin : ∀ (W1 : Wd) (p : Addr), W1.H p = none → InL X.K W1 (AtT X.K p) din (inner p))
    (h : liftE X.K (dDcN wi g tt din vs) σ H Q) : tDcN (liftI X.K wi) (liftG X.K js g) (liftT X.K tt) inner vs σ H Q := by
  obtain ⟨W, r, m, F, e0, S, V, h, q⟩ := h
  refine ⟨W, r, m, _, e0, S, V, h, fun W1 m1 src J l1 S1 so q1 p hp => ?_⟩
  have pr := S1.priv hp
  refine clauseL (At := AtT X.K p) (fun _ _ _ h l => h.le l) hjs (hin W1 p hp) (W := ⟨W1.S, W1.io, upd W1.H p (.dT [])⟩) ((Le.refl W1).off hp) (S1.off pr) (V.up (l1.up.trans ((Le.refl W1).off hp).up)) (so.up ((Le.refl W1).off hp).up) ⟨pr.off, [], upd_same, rfl, .nil⟩ q1 fun W2 m2 acc l2 u2 S2 ⟨p2, kvs, h2, x2⟩ q2 => ?_
  obtain ⟨n, hn, l3, S3⟩ := S2.cellP (c := .dcT acc) l2 hp p2 (by rw [h2]; rfl) ⟨kvs, h2, x2.ks, x2.xs⟩
  exact q ⟨W2.S, fun k => if k = n then some p else W2.io k, W2.H⟩ _ _ _ (l1.trans l3) S3 (.ref (by simp)) (q2 n hn)
theorem de_lc3 {elt t0 i0 t1 i1 t2 i2 : Expr} {f0 f1 f2 : List Expr} {scope : Scope} {own : List (Str × Nat)} {vs1 vs2 : List Nat} {pos : Pos} {wi wi1 wi2 : WI} {js js1 js2 : List Nat} {g g1 g2 : WG} {tt tt1 tt2 : WT} {te : WE} (hc : X.calm = true) (hN : X.N.Nodup) (hi : DI X t0 i0 wi) (ok : BlkOk X.N X.env.scope scope own) (hv : ∀ i ∈ vs1, i ∈ own.map (·.2)) (hv2 : ∀ i ∈ vs2, i ∈ vs1)
    (hg : ∀ (s : Shared) (H : Hp) (C : Addr) (cl : List (Str × Addr)) (fp : List Addr), DG (X.blk s H scope (compEnvC scope cl C X.env) fp) t0 js g) (ht : ∀ (s : Shared) (H : Hp) (C : Addr) (cl : List (Str × Addr)) (fp : List Addr), DTs (X.blk s H scope (compEnvC scope cl C X.env) fp) f0 tt)
    (hi1 : ∀ (s : Shared) (H : Hp) (C : Addr) (cl : List (Str × Addr)) (fp : List Addr), DI (X.blk s H scope (compEnvC scope cl C X.env) fp) t1 i1 wi1)
    (hg1 : ∀ (s : Shared) (H : Hp) (C : Addr) (cl : List (Str × Addr)) (fp : List Addr), DG (X.blk s H scope (compEnvC scope cl C X.env) fp) t1 js1 g1) (ht1 : ∀ (s : Shared) (H : Hp) (C : Addr) (cl : List (Str × Addr)) (fp : List Addr), DTs (X.blk s H scope (compEnvC scope cl C X.env) fp) f1 tt1)
    (hi2 : ∀ (s : Shared) (H : Hp) (C : Addr) (cl : List (Str × Addr)) (fp : List Addr), DI (X.blk s H scope (compEnvC scope cl C X.env) fp) t2 i2 wi2)
    (hg2 : ∀ (s : Shared) (H : Hp) (C : Addr) (cl : List (Str × Addr)) (fp : List Addr), DG (X.blk s H scope (compEnvC scope cl C X.env) fp) t2 js2 g2) (ht2 : ∀ (s : Shared) (H : Hp) (C : Addr) (cl : List (Str × Addr)) (fp : List Addr), DTs (X.blk s H scope (compEnvC scope cl C X.env) fp) f2 tt2)
    (he : ∀ (s : Shared) (H : Hp) (C : Addr) (cl : List (Str × Addr)) (fp : List Addr), DE (X.blk s H scope (compEnvC scope cl C X.env) fp) elt te)
    (hjs : ∀ j ∈ js, j ∈ own.map (·.2) := by decide) (hjs1 : ∀ j ∈ js1, j ∈ vs1 := by decide) (hjs2 : ∀ j ∈ js2, j ∈ vs2 := by decide)
    (hs : ∀ x, foldedSetIterable i0 X.env x = pure x := by intro _; rfl) (hs1 : ∀ env x, foldedSetIterable i1 env x = pure x := by intro _ _; rfl) (hs2 : ∀ env x, foldedSetIterable i2 env x = pure x := by intro _ _; rfl) :
    DE X (.ListComp elt [⟨t0, i0, f0, 0⟩, ⟨t1, i1, f1, 0⟩, ⟨t2, i2, f2, 0⟩] scope pos) (dLcN wi g tt (dNextN wi1 g1 tt1 (dNextN wi2 g2 tt2 (dApp te) vs2) vs1) (own.map (·.2))) :=
  PE.imp (pe_lc3 hc hN hi ok hv hv2 hg ht hi1 hg1 ht1 hi2 hg2 ht2 he hs hs1 hs2) fun _ _ _ h => lcNF hjs (fun _ _ hp => inL_next (fun _ _ _ h l => AtL.le h l) hjs1 (inL_next (fun _ _ _ h l => AtL.le h l) hjs2 (inL_app hp))) h
theorem de_lc3M {elt t0 i0 t1 i1 t2 i2 : Expr} {f0 f1 f2 : List Expr} {scope : Scope} {own : List (Str × Nat)} {vs1 vs2 : List Nat} {pos : Pos} {wi wi1 wi2 : WI} {js js1 js2 : List Nat} {g g1 g2 : WG} {tt tt1 tt2 : WT} {te : WE} (hc : X.calm = true) (hN : X.N.Nodup) (hi : DI X t0 i0 wi) (ok : BlkOk X.N X.env.scope scope own) (hv : ∀ i ∈ vs1, i ∈ own.map (·.2)) (hv2 : ∀ i ∈ vs2, i ∈ vs1)
    (hg : ∀ (s : Shared) (H : Hp) (C : Addr) (cl : List (Str × Addr)) (fp : List Addr), DG (X.blk s H scope (compEnvC scope cl C X.env) fp) t0 js g) (ht : ∀ (s : Shared) (H : Hp) (C : Addr) (cl : List (Str × Addr)) (fp : List Addr), DTs (X.blk s H scope (compEnvC scope cl C X.env) fp) f0 tt)
    (hi1 : ∀ (s : Shared) (H : Hp) (C : Addr) (cl : List (Str × Addr)) (fp : List Addr), DI (X.blk s H scope (compEnvC scope cl C X.env) fp) t1 i1 wi1)
    (hg1 : ∀ (s : Shared) (H : Hp) (C : Addr) (cl : List (Str × Addr)) (fp : List Addr), DG (X.blk s H scope (compEnvC scope cl C X.env) fp) t1 js1 g1) (ht1 : ∀ (s : Shared) (H : Hp) (C : Addr) (cl : List (Str × Addr)) (fp : List Addr), DTs (X.blk s H scope (compEnvC scope cl C X.env) fp) f1 tt1)
    (hi2 : ∀ (s : Shared) (H : Hp) (C : Addr) (cl : List (Str × Addr)) (fp : List Addr), DI (X.blk s H scope (compEnvC scope cl C X.env) fp) t2 i2 wi2)
    (hg2 : ∀ (s : Shared) (H : Hp) (C : Addr) (cl : List (Str × Addr)) (fp : List Addr), DG (X.blk s H scope (compEnvC scope cl C X.env) fp) t2 js2 g2) (ht2 : ∀ (s : Shared) (H : Hp) (C : Addr) (cl : List (Str × Addr)) (fp : List Addr), DTs (X.blk s H scope (compEnvC scope cl C X.env) fp) f2 tt2)
    (he : ∀ (s : Shared) (H : Hp) (C : Addr) (cl : List (Str × Addr)) (fp : List Addr), DE (X.blk s H scope (compEnvC scope cl C X.env) fp) elt te)
    (hjs : ∀ j ∈ js, j ∈ own.map (·.2) := by decide) (hjs1 : ∀ j ∈ js1, j ∈ vs1 := by decide) (hjs2 : ∀ j ∈ js2, j ∈ vs2 := by decide)
    (hs : ∀ x, foldedSetIterable i0 X.env x = pure x := by intro _; rfl) (hs1 : ∀ env x, foldedSetIterable i1 env x = pure x := by intro _ _; rfl) (hs2 : ∀ env x, foldedSetIterable i2 env x = pure x := by intro _ _; rfl) :
    DE X (.ListComp elt [⟨t0, i0, f0, 0⟩, ⟨t1, i1, f1, 0⟩, ⟨t2, i2, f2, 0⟩] scope pos) (dLcNM wi g tt (dNextN wi1 g1 tt1 (dNextN wi2 g2 tt2 (dApp te) vs2) vs1) (own.map (·.2))) :=
  PE.imp (pe_lc3 hc hN hi ok hv hv2 hg ht hi1 hg1 ht1 hi2 hg2 ht2 he hs hs1 hs2) fun _ _ _ h => lcNMF hjs (fun _ _ hp => inL_next (fun _ _ _ h l => AtL.le h l) hjs1 (inL_next (fun _ _ _ h l => AtL.le h l) hjs2 (inL_app hp))) h
theorem de_dcT1 {kx vx t0 i0 : Expr} {f0 : List Expr} {scope : Scope} {own : List (Str × Nat)} {pos : Pos} {wi : WI} {js : List Nat} {g : WG} {tt : WT} {tk tv : WE} (hu : X.A.units + 64 < cLine) (hc : X.calm = true) (hN : X.N.Nodup) (hi : DI X t0 i0 wi) (ok : BlkOk X.N X.env.scope scope own)
    (hg : ∀ (s : Shared) (H : Hp) (C : Addr) (cl : List (Str × Addr)) (fp : List Addr), DG (X.blk s H scope (compEnvC scope cl C X.env) fp) t0 js g) (ht : ∀ (s : Shared) (H : Hp) (C : Addr) (cl : List (Str × Addr)) (fp : List Addr), DTs (X.blk s H scope (compEnvC scope cl C X.env) fp) f0 tt)
    (hk : ∀ (s : Shared) (H : Hp) (C : Addr) (cl : List (Str × Addr)) (fp : List Addr), DE (X.blk s H scope (compEnvC scope cl C X.env) fp) kx tk) (he : ∀ (s : Shared) (H : Hp) (C : Addr) (cl : List (Str × Addr)) (fp : List Addr), DE (X.blk s H scope (compEnvC scope cl C X.env) fp) vx tv) (hjs : ∀ j ∈ js, j ∈ own.map (·.2) := by decide) (hs : ∀ x, foldedSetIterable i0 X.env x = pure x := by intro _; rfl) :
    DE X (.DictComp kx vx [⟨t0, i0, f0, 0⟩] scope pos) (dDcN wi g tt (dPutT tk tv) (own.map (·.2))) :=
  PE.imp (pe_dcT1 (Nat.lt_of_le_of_lt (Nat.le_add_right _ 64) hu) hc hN hi ok hg ht hk he hs) fun _ _ _ h => dcNF hjs (fun _ _ hp => inL_put hp) h
theorem de_dcT2 {kx vx t0 i0 t1 i1 : Expr} {f0 f1 : List Expr} {scope : Scope} {own : List (Str × Nat)} {vs1 : List Nat} {pos : Pos} {wi wi1 : WI} {js js1 : List Nat} {g g1 : WG} {tt tt1 : WT} {tk tv : WE} (hu : X.A.units + 64 < cLine) (hc : X.calm = true) (hN : X.N.Nodup) (hi : DI X t0 i0 wi) (ok : BlkOk X.N X.env.scope scope own) (hv : ∀ i ∈ vs1, i ∈ own.map (·.2))
    (hg : ∀ (s : Shared) (H : Hp) (C : Addr) (cl : List (Str × Addr)) (fp : List Addr), DG (X.blk s H scope (compEnvC scope cl C X.env) fp) t0 js g) (ht : ∀ (s : Shared) (H : Hp) (C : Addr) (cl : List (Str × Addr)) (fp : List Addr), DTs (X.blk s H scope (compEnvC scope cl C X.env) fp) f0 tt)
    (hi1 : ∀ (s : Shared) (H : Hp) (C : Addr) (cl : List (Str × Addr)) (fp : List Addr), DI (X.blk s H scope (compEnvC scope cl C X.env) fp) t1 i1 wi1) (hg1 : ∀ (s : Shared) (H : Hp) (C : Addr) (cl : List (Str × Addr)) (fp : List Addr), DG (X.blk s H scope (compEnvC scope cl C X.env) fp) t1 js1 g1) (ht1 : ∀ (s : Shared) (H : Hp) (C : Addr) (cl : List (Str × Addr)) (fp : List Addr), DTs (X.blk s H scope (compEnvC scope cl C X.env) fp) f1 tt1)
    (hk : ∀ (s : Shared) (H : Hp) (C : Addr) (cl : List (Str × Addr)) (fp : List Addr), DE (X.blk s H scope (compEnvC scope cl C X.env) fp) kx tk) (he : ∀ (s : Shared) (H : Hp) (C : Addr) (cl : List (Str × Addr)) (fp : List Addr), DE (X.blk s H scope (compEnvC scope cl C X.env) fp) vx tv) (hjs : ∀ j ∈ js, j ∈ own.map (·.2) := by decide) (hjs1 : ∀ j ∈ js1, j ∈ vs1 := by decide) (hs : ∀ x, foldedSetIterable i0 X.env x = pure x := by intro _; rfl) (hs1 : ∀ env x, foldedSetIterable i1 env x = pure x := by intro _ _; rfl) :
    DE X (.DictComp kx vx [⟨t0, i0, f0, 0⟩, ⟨t1, i1, f1, 0⟩] scope pos) (dDcN wi g tt (dNextN wi1 g1 tt1 (dPutT tk tv) vs1) (own.map (·.2))) :=
  PE.imp (pe_dcT2 (Nat.lt_of_le_of_lt (Nat.le_add_right _ 64) hu) hc hN hi ok hv hg ht hi1 hg1 ht1 hk he hs hs1) fun _ _ _ h => dcNF hjs (fun _ _ hp => inL_next (fun _ _ _ h l => AtT.le h l) hjs1 (inL_put hp)) h
end
end DL

/-! dict(pairs), keys that are tuples; sorted(tuples of ints) -/
namespace DL
open PySem PySem.Spec PyProof.Rows L2
section
variable {X : Cx}
def KeyedPair (K : PySem.W.Frag) (H : Hp) (p : Addr) (t : List Key × Addr × V) : Prop := SqT K H p [.ref t.2.1, t.2.2] ∧ H t.2.1 = some (.tup (t.1.map kV))
theorem pairsT_of {pins : List (Addr × Obj)} {σ : L2.St} {H : Hp} {s : Shared} (I : L2.Inv X pins σ H s) : ∀ {ps : List Addr} {ts : List (List Key × Addr × V)}, Paired (KeyedPair X.K H) ps ts →
    ∃ xs : List (List Key × Addr × Value), KT H (ts.map fun t => (t.1, t.2.2)) xs ∧ xs.length = ps.length ∧ ∀ (j : Nat) (q : List Key × Addr × Value), xs[j]? = some q → ∃ b : Addr, ps[j]? = some b ∧ IsTup s.heap b #[.ref q.2.1, q.2.2]
  | _, _, .nil => ⟨[], .nil, rfl, fun j q e => by simp at e⟩
  | _, _, .cons (a := p) (b := t) h hs => by
    obtain ⟨xs, r, hl, hp⟩ := pairsT_of I hs
    obtain ⟨h1, h2⟩ := h
    obtain ⟨its, rv, ht, _⟩ := I.tuple h1
    obtain ⟨u, y, ei, ru, ry⟩ := vals2 rv
    subst ei
    cases (show u = Value.ref t.2.1 from ru)
    refine ⟨(t.1, t.2.1, y) :: xs, .cons ⟨rfl, h2, ry⟩ r, by rw [List.length_cons, List.length_cons, hl], fun j q e => ?_⟩
    cases j with
    | zero =>
      have e' : (t.1, t.2.1, y) = q := Option.some.inj e
      subst e'
      exact ⟨p, rfl, ht⟩
    | succ j =>
      obtain ⟨b, e1, e2⟩ := hp j q (by simpa using e)
      exact ⟨b, by simpa using e1, e2⟩
/-- dict(xs) of a list of pairs (key, value), the keys tuples: later pairs win, the place is the first one's -/
theorem call_dictPT (hcalm : X.calm = true) (hu : X.A.units + 64 < cLine) : CallR X (.type "dict") (fun xs H Q => ∃ (a : Addr) (ps : List Addr) (ts : List (List Key × Addr × V)), xs = [.ref a] ∧ SqL X.K H a (ps.map V.ref) ∧ Paired (KeyedPair X.K H) ps ts ∧
    ∀ p, H p = none → Q (.ref p) (upd H p (.dT (mergeT [] (ts.map fun t => (t.1, t.2.2)))))) := by
  intro pins s σ H xs us Q I r q
  obtain ⟨a, ps, ts, ex, hq, hp, q⟩ := q
  subst ex
  obtain ⟨u, eu, rx⟩ := vals1 r
  subst eu
  cases rx
  obtain ⟨its, rv, pl, hz⟩ := I.list hq
  have ei := refs_at rv
  subst ei
  rw [List.length_map] at hz
  obtain ⟨xs, rel, hl, hpr⟩ := pairsT_of I hp
  obtain ⟨o, n, ho, hc, hd, hdat⟩ := pl
  have hlx : (ts.map fun t => (t.1, t.2.2)).length = xs.length := Paired.length rel
  have P := PairArg.list (prog := X.prog) (w := X.w) a (ps.map Value.ref).toArray (fun j => ps.getD j 0) (xs.map fun q => (Value.ref q.2.1, q.2.2))
  refine PySem.call_dict_pairsH (knd := tupleKind (mixKind X.prog X.w)) (ps := xs) P (I.ok.hd hcalm) ?_ ⟨⟨o, n, ho, hc, hd, hdat⟩, ?_, fun j k v e => ?_⟩ ⟨?_, fun i key v e => ?_⟩ (fun h' hk x hx => ?_) ?_ fun h' tk hd' hk => ?_
  · show X.A.units + 1 + 1 < cLine
    omega
  · simp [hl]
  · rw [List.getElem?_map] at e
    obtain ⟨q', e1, e2⟩ := Option.map_eq_some_iff.mp e
    cases e2
    obtain ⟨b, e3, e4⟩ := hpr j q' e1
    have e5 : ps.getD j 0 = b := by rw [List.getD_eq_getElem?_getD, e3]; rfl
    show _ = some (Value.ref (ps.getD j 0)) ∧ PairAt s.heap (ps.getD j 0) _ _
    rw [e5]
    refine ⟨by simp [e3], .inl ?_⟩
    obtain ⟨o', h1, h2, n', h3⟩ := e4
    exact ⟨o', h1, h2, n', h3⟩
  · simp
  · have e : (xs.map fun q => (Value.ref q.2.1, q.2.2))[i]? = some (key, v) := e
    rw [List.getElem?_map] at e
    obtain ⟨q', e1, e2⟩ := Option.map_eq_some_iff.mp e
    cases e2
    exact ⟨q'.1, q'.2.1, e1, rfl⟩
  · have key : ∃ ks, ks = x.1 ∧ H x.2.1 = some (.tup (ks.map kV)) := by
      have all : ∀ {l : List (List Key × V)} {m : List (List Key × Addr × Value)}, KT H l m → ∀ x ∈ m, H x.2.1 = some (.tup (x.1.map kV)) := by
        intro l m q
        induction q with
        | nil => intro x hx; exact nomatch hx
        | @cons p q ps qs hq t ih =>
          intro x hx
          rcases List.mem_cons.mp hx with e | hx
          · subst e
            rw [← hq.1]; exact hq.2.1
          · exact ih x hx
      exact ⟨_, rfl, all rel x hx⟩
    obtain ⟨ks, rfl, hkx⟩ := key
    obtain ⟨o', its', n', g1, g2, g3, g4⟩ := key_of I.hok hkx
    exact ⟨o', its', n', hk _ _ (Nat.ne_of_lt (Heap.lt_size g1)) (by simp) g1, g2, g3, g4⟩
  · simp only [List.length_map]; omega
  · have hm : (s.heap.objs.size == sysModules) = false := beq_eq_false_iff_ne.mpr (Nat.ne_of_gt I.big)
    have hlen : (mergeT [] (ts.map fun t => (t.1, t.2.2))).length ≤ sizeLine := by
      refine Nat.le_trans (length_mergeT _ []) ?_
      rw [List.length_nil, Nat.zero_add, hlx, hl]
      exact hz
    have hn : H s.heap.objs.size = none := I.hok.fresh (Nat.le_refl _)
    obtain ⟨o2, es, ep, gq, g2, g3, g4, _, g5⟩ := hd'
    exact ⟨.ref s.heap.objs.size, upd H s.heap.objs.size (.dT (mergeT [] (ts.map fun t => (t.1, t.2.2)))), I.laid (t' := tk) (fun b o e => hk b o (by simp) e) (Nat.le_refl _) (show ObjOk X.prog X.w _ _ _ (.dT (mergeT [] (ts.map fun t => (t.1, t.2.2)))) from ⟨hlen, hm, storedAllH [] xs, (kt_merge rel .nil).keeps (fun c ys ec => by rw [upd_ne (fun z => by rw [z, hn] at ec; cases ec)]; exact ec), o2, es, ep, gq, g2, g3, g4, g5⟩), rfl, q _ hn⟩
def pairD (p : List Key × Dat) : Dat := .tup [datT p.1, p.2]
def rDictPT : RLD := fun ds m F => ∃ d ps, ds = [d] ∧ items m d = some (ps.map pairD) ∧ ∀ n, m n = none → F (.ref n) (m.set n (.dcT (mgT [] ps)))
theorem tkeyD_datT (ks : List Key) : tkeyD (datT ks) = some ks := by
  show keysD (ks.map datK) = some ks
  induction ks with
  | nil => rfl
  | cons k ks ih => rw [List.map_cons]; simp only [keysD, ih]; cases k <;> rfl
theorem pairsD_of {K : PySem.W.Frag} {W : Wd} : ∀ {vs : List V} {ps : List (List Key × Dat)}, DAll K W vs (ps.map pairD) → ∃ (qs : List Addr) (ts : List (List Key × Addr × V)), vs = qs.map V.ref ∧ Paired (KeyedPair K W.H) qs ts ∧ RelKD K W (ts.map fun t => (t.1, t.2.2)) ps
  | _, [], h => by cases h; exact ⟨[], [], rfl, .nil, rfl, .nil⟩
  | _, p :: ps, h => by
    rw [List.map_cons] at h
    cases h with
    | cons x1 x2 =>
      obtain ⟨qs, ts, rfl, h2, h3, h4⟩ := pairsD_of x2
      unfold pairD at x1
      cases x1 with
      | tup e1 q =>
        cases q with
        | cons y1 q =>
          cases q with
          | cons y2 q =>
            cases q
            obtain ⟨b, rfl, hb⟩ := tkey_of y1 (tkeyD_datT p.1)
            exact ⟨_ :: qs, (p.1, b, _) :: ts, rfl, .cons ⟨SqT.of e1, hb⟩ h2, by simp [h3], .cons y2 h4⟩
theorem c_dictPT (hc : X.calm = true) (hu : X.A.units + 64 < cLine) : CallR X (.type "dict") (liftL X.K rDictPT) := by
  rintro pins s σ H xs us Q I r ⟨W, m, ds, F, e, S, xa, ⟨d, ps, rfl, hd, h⟩, k⟩
  subst e
  obtain ⟨v, rfl, x1⟩ := dall1 xa
  obtain ⟨a, ys, rfl, e1, q⟩ := x1.items S hd
  obtain ⟨qs, ts, rfl, h2, h3⟩ := pairsD_of q
  refine call_dictPT hc hu pins s σ _ _ us Q I r ⟨a, qs, ts, rfl, SqL.of e1, h2, fun p hp => ?_⟩
  obtain ⟨n, hn, hi, l2, S2⟩ := S.newM (o := .dT (mergeT [] (ts.map fun t => (t.1, t.2.2)))) (c := .dcT (mgT [] ps)) hp
  have rel : RelKD X.K W (mergeT [] (ts.map fun t => (t.1, t.2.2))) (mgT [] ps) := rel_merge h3 ⟨rfl, .nil⟩
  exact k _ _ _ _ l2 (S2 ⟨_, upd_same, (rel.up l2.up).ks, (rel.up l2.up).xs⟩) (.ref (by simp)) (h n hn)
/-! sorted(tuples of ints) -/
theorem perm_map_inv {α β : Type} {f : α → β} {ys l : List β} (h : l.Perm ys) : ∀ xs : List α, l = xs.map f → ∃ zs, xs.Perm zs ∧ ys = zs.map f := by
  induction h with
  | nil => intro xs e; cases xs with
    | nil => exact ⟨[], .nil, rfl⟩
    | cons a as => simp at e
  | cons x h ih => intro xs e; cases xs with
    | nil => simp at e
    | cons a as =>
      simp only [List.map_cons, List.cons.injEq] at e
      obtain ⟨rfl, e⟩ := e
      obtain ⟨zs, hz, rfl⟩ := ih as e
      exact ⟨a :: zs, hz.cons a, rfl⟩
  | swap x y l => intro xs e; match xs, e with
    | a :: b :: as, e =>
      simp only [List.map_cons, List.cons.injEq] at e
      obtain ⟨rfl, rfl, rfl⟩ := e
      exact ⟨b :: a :: as, .swap .., rfl⟩
  | trans h1 h2 ih1 ih2 => intro xs e
                           obtain ⟨zs, hz, rfl⟩ := ih1 xs e
                           obtain ⟨ws, hw, rfl⟩ := ih2 zs rfl
                           exact ⟨ws, hz.trans hw, rfl⟩
def rSortTI (D : Nat) (B : Int) : RLD := fun ds m F => ∃ x iss, ds = [x] ∧ items m x = some (iss.map tupI) ∧ iss.length < 64 ∧ (∀ ns ∈ iss, ns.length = D ∧ TS.Bd B ns) ∧ ∀ out : List (List Int), out.Perm iss → out.Pairwise (fun a b => TS.code B a ≤ TS.code B b) → F (.lst (out.map tupI)) m
theorem c_sortTI {D : Nat} {B : Int} (hD : 1 ≤ D) : CallR X (.builtin "sorted") (liftL X.K (rSortTI D B)) := by
  rintro pins s σ H xs us Q I r ⟨W, m, ds, F, e, S, xa, ⟨x, iss, rfl, hd, h64, hb, h⟩, k⟩
  subst e
  obtain ⟨v, rfl, x1⟩ := dall1 xa
  obtain ⟨a, ys, rfl, e1, q⟩ := x1.items S hd
  obtain ⟨ks, rfl, g2, g3⟩ := tups_of q
  subst g2
  have hT : ∀ p ∈ ks, TupI X.K W.H (V.ref p.1) p.2 := fun p hp => ⟨p.1, rfl, SqT.of (g3 p hp)⟩
  refine cr_sortT (B := B) hD pins s σ _ _ us Q I r ⟨a, _, rfl, SqL.of e1, by simpa using h64, fun z hz => ?_, fun zs p pm pw hp => ?_⟩
  · obtain ⟨p, hp, rfl⟩ := List.mem_map.mp hz
    exact ⟨p.2, hT p hp, hb _ (List.mem_map.mpr ⟨p, hp, rfl⟩)⟩
  · obtain ⟨ls, hls, rfl⟩ := perm_map_inv pm.symm ks rfl
    have hx : ∀ M : List (Addr × List Int), (∀ p ∈ M, p ∈ ks) → DAll X.K W (M.map fun p => V.ref p.1) ((M.map (·.2)).map tupI) := by
      intro M
      induction M with
      | nil => intro _; exact .nil
      | cons p M ih =>
        intro hM
        refine .cons (.tup (g3 p (hM p (by simp))) ?_) (ih fun z hz => hM z (by simp [hz]))
        exact dall_ints p.2
    refine finL S k (h (ls.map fun z => z.2) (hls.symm.map _) ?_) (hx ls fun z hz => hls.symm.subset hz) hp
    rw [List.pairwise_map] at pw ⊢
    refine pw.imp_of_mem fun {x y} hx hy hxy => hxy _ _ (hT x (hls.symm.subset hx)) (hT y (hls.symm.subset hy))
end
end DL

/-! reading: comprehensions of several clauses, cells made in a comprehension, dict(pairs), sorted(tuples) -/
namespace DL
open PySem PySem.Spec PyProof.Rows L2
section
variable {r : Ro} {m : Mu} {F : KD} {wi : WI} {g : WG} {tt : WT} {vs : List Nat}
theorem u_lcN {din : WIn (List Dat)} (h : wi r m fun src m1 => dcompN src.guard g tt din (dwipe r vs) (fun acc m2 => F (.lst acc) m2) src.items [] m1) : dLcN wi g tt din vs r m F := h
theorem u_lcNM {din : WIn (List Dat)} (h : wi r m fun src m1 => dcompN src.guard g tt din (dwipe r vs) (fun acc m2 => ∀ n, m2 n = none → F (.ref n) (m2.set n (.lst acc))) src.items [] m1) : dLcNM wi g tt din vs r m F := h
theorem u_dcN {din : WIn (List (List Key × Dat))} (h : wi r m fun src m1 => dcompN src.guard g tt din (dwipe r vs) (fun acc m2 => ∀ n, m2 n = none → F (.ref n) (m2.set n (.dcT acc))) src.items [] m1) : dDcN wi g tt din vs r m F := h
theorem u_nextN {α : Type} {din : WIn α} {acc : α} {F : α → Mu → Prop} (h : wi r m fun src m1 => dcompN src.guard g tt din (dwipe r vs) F src.items acc m1) : dNextN wi g tt din vs r acc m F := h
theorem u_app {te : WE} {acc : List Dat} {F : List Dat → Mu → Prop} (hz : acc.length < sizeLine) (h : te r m fun d m' => F (acc ++ [d]) m') : dApp te r acc m F := ⟨hz, h⟩
theorem u_putT {tk tv : WE} {acc : List (List Key × Dat)} {F : List (List Key × Dat) → Mu → Prop} (h : tk r m fun x m1 => tv r m1 fun d m2 => ∃ ks, tkeyD x = some ks ∧ acc.length < sizeLine ∧ F (pt acc ks d) m2) : dPutT tk tv r acc m F := h
/-- over what is mapped: A, what is gathered after the things done -/
theorem compN_split {α ι : Type} {gd : Mu → Prop} {din : WIn α} {F : α → Mu → Prop} (f : ι → Dat) (A : List ι → α) (hg : gd m) {xs : List ι} {acc : α} (e0 : A [] = acc)
    (h : ∀ x dn rest, xs = dn ++ x :: rest → ∀ k : α → Mu → Prop, k (A (dn ++ [x])) m → g (f x) r m fun r2 m2 => tt r2 m2 fun b m3 => if b = true then din r2 (A dn) m3 (fun acc' m4 => k acc' m4) else k (A dn) m3)
    (hF : F (A xs) m) : dcompN gd g tt din r F (xs.map f) acc m := by
  subst e0
  have key : ∀ rest dn, xs = dn ++ rest → dcompN gd g tt din r F (rest.map f) (A dn) m := by
    intro rest
    induction rest with
    | nil => intro dn e; rw [List.append_nil] at e; subst e; exact ⟨hg, hF⟩
    | cons x rest ih =>
      intro dn e
      exact ⟨hg, h x dn rest e (fun acc' m4 => dcompN gd g tt din r F (rest.map f) acc' m4) (ih (dn ++ [x]) (by simp [e]))⟩
  exact key xs [] rfl
/-- a comprehension that makes a cell a turn -/
theorem comp_cells {ι : Type} {gd : Mu → Prop} {te : WE} {c : Cell} {FL : List Dat → Mu → Prop} (f : ι → Dat) (hg : ∀ m, gd m) {m0 : Mu} {xs : List ι}
    (h : ∀ x ∈ xs, ∀ (m : Mu) (k : Dat → Mu → Prop), (∀ n, m n = none → k (.ref n) (m.set n c)) → g (f x) r m fun r2 m2 => te r2 m2 k)
    (hF : ∀ (ks : List Nat) (m' : Mu), ks.length = xs.length → ks.Nodup → (∀ k ∈ ks, m0 k = none ∧ m' k = some c) → (∀ a, a ∉ ks → m' a = m0 a) → FL (ks.map .ref) m') : dcomp gd g dYes te r FL (xs.map f) [] m0 := by
  have key : ∀ (rest dn : List ι) (ks : List Nat) (m' : Mu), xs = dn ++ rest → ks.length = dn.length → ks.Nodup → (∀ k ∈ ks, m0 k = none ∧ m' k = some c) → (∀ a, a ∉ ks → m' a = m0 a) → dcomp gd g dYes te r FL (rest.map f) (ks.map .ref) m' := by
    intro rest
    induction rest with
    | nil => intro dn ks m' e hl hn h1 h2; rw [List.append_nil] at e; subst e; exact ⟨hg _, hF ks m' hl hn h1 h2⟩
    | cons x rest ih =>
      intro dn ks m' e hl hn h1 h2
      have step := h x (by simp [e]) m' (fun y m4 => dcomp gd g dYes te r FL (rest.map f) (ks.map .ref ++ [y]) m4) fun n hn' => ?_
      · exact ⟨hg _, by simpa [dYes] using step⟩
      · have hnk : n ∉ ks := fun z => by rw [(h1 n z).2] at hn'; cases hn'
        have e2 : ks.map Dat.ref ++ [.ref n] = (ks ++ [n]).map .ref := by simp
        show dcomp gd g dYes te r FL (rest.map f) (ks.map Dat.ref ++ [.ref n]) _
        rw [e2]
        refine ih (dn ++ [x]) (ks ++ [n]) _ (by simp [e]) (by simp [hl]) (List.nodup_append.mpr ⟨hn, by simp, fun a ha b hb z => by
          obtain rfl := List.mem_singleton.mp hb
          exact hnk (z ▸ ha)⟩) (fun k hk => ?_) fun a ha => ?_
        · rcases List.mem_append.mp hk with hk1 | hk1
          · refine ⟨(h1 k hk1).1, ?_⟩
            have hkn : k ≠ n := fun z => by subst z; exact hnk hk1
            rw [Mu.set_ne _ _ hkn]
            exact (h1 k hk1).2
          · obtain rfl := List.mem_singleton.mp hk1
            exact ⟨by rw [← h2 k hnk]; exact hn', Mu.set_same ..⟩
        · have ha1 : a ∉ ks := fun z => ha (by simp [z])
          have ha2 : a ≠ n := fun z => ha (by simp [z])
          rw [Mu.set_ne _ _ ha2]
          exact h2 a ha1
  exact key xs [] [] m0 rfl rfl .nil (fun k hk => nomatch hk) fun _ _ => rfl
end
/-! what nests -/
theorem NiceL.sum {α : Type} {f : α → PyData} {d : Nat} {w : α → Nat} : ∀ {xs : List α}, (∀ x ∈ xs, Nice (f x) d (w x)) → NiceL (xs.map f) d ((xs.map fun x => w x + 1).sum)
  | [], _ => .nil
  | x :: xs, h => by
    have g := NiceL.cons (h x (by simp)) (NiceL.sum (xs := xs) fun y hy => h y (by simp [hy]))
    simpa [Nat.add_assoc] using g
theorem Nice.int6 {i : Int} {d : Nat} (h1 : 0 ≤ i) (h2 : i < 64) : Nice (.int i) d 7 := by
  obtain ⟨a, b, c, dd, e, _⟩ := Nice.int (i := i) (d := d) (by omega) (by omega)
  refine ⟨a, b, c, dd, e, ?_⟩
  have hl : i.natAbs.log2 < 6 := by
    by_cases h0 : i.natAbs = 0
    · rw [h0]; decide
    · refine (Nat.log2_lt h0).mpr ?_
      have e : (2 : Nat) ^ 6 = 64 := by decide
      rw [e]; omega
  simp only [PyData.weight]
  split
  · exact Nat.zero_le _
  · omega
end DL

/-! f'{n:b}', zfill, 1 << n -/
namespace PySem
open Sem (wp)
open Builtin Builtin.Str Builtin.Int Builtin.Float
theorem gives_after_nameCut {v : Value} {T : String} {k : String → Sem Fin} {m : Made} {c : Nat} (hT : ∀ s : Shared, s.TypeIs v T)
    (hn : (Value.type T == Value.type "builtin_function_or_method") = false) (g : ∀ n, Gives (k n) m) : Gives (do let n ← typeNameOfCut c v; k n) m :=
  fun prog w A R s hq => by
    refine wpAny_bind ?_
    unfold typeNameOfCut shownTypeOf
    refine wpAny_bind (wpAny_bind (wpAny_typeOf (hT s) ?_))
    rw [hn]
    refine wpAny_pure ?_
    show wpAny _ _ (typeName (.type T)) _ _ _
    exact wpAny_pure (g _ prog w A R s hq)
def bitsOf (x : Int) : Str := ⟨((if x < 0 then [45] else []) ++ (Nat.toDigits 2 x.natAbs).map Char.toNat).toArray⟩
set_option maxHeartbeats 1000000 in
theorem gives_int_formatB (x : Int) (t u : Tok) :
    Gives («int.__format__» ⟨[.int x t, .str ⟨#[98]⟩ u], []⟩) (.str (bitsOf x)) := by
  intro prog w A R s hq
  unfold «int.__format__»
  refine wpAny_bind (wpAny_of_eq (a := (Value.int x t, Value.str ⟨#[98]⟩ u)) rfl ?_)
  refine wpAny_bind (wpAny_of_eq (a := x) rfl ?_)
  refine wpAny_bind ?_
  show wpAny _ _ (typeNameOf (.str ⟨#[98]⟩ u)) _ _ s
  refine wpAny_typeNameOf (T := "str") (typeIs_str s _ _) (by decide) fun kind => ?_
  refine wpAny_bind (wpAny_of_eq (a := some ⟨#[98]⟩) rfl ?_)
  show wpAny _ _ (typeNameOfCut 200 (.int x t) >>= _) _ _ s
  refine wpAny_bind ?_
  unfold typeNameOfCut shownTypeOf
  refine wpAny_bind (wpAny_bind (wpAny_typeOf (typeIs_int s _ _) ?_))
  show wpAny _ _ (pure _ >>= _) _ _ _
  refine wpAny_bind (wpAny_pure ?_)
  refine wpAny_pure ?_
  refine wpAny_of_eq (a := "int") rfl ?_
  have gr : ∀ y : Str, y = bitsOf x → wpAny (model prog w) A.in1 (retStr y) (fun fin s' => match fin with
              | Fin.done f => R (Except.ok f) s'
              | Fin.again c' => c'.quiet = true ∧ codeAny (model prog w) A c' R s') (fun e s' => R (.error e) s') s := fun y e => by
    subst e
    exact gives_retStr _ prog w A R s hq
  refine gr _ ?_
  have main : ∀ (sg D : List Nat), (⟨(List.replicate ((-1 : Int) - ((sg.length : Int) + (0 : Nat) + (0 : Nat)) - (((if D.isEmpty = true then [] else List.replicate ((0 : Int).toNat - D.length) 48 ++ D) : List Nat).length : Int)).toNat 32 ++ sg ++ [] ++ List.replicate 0 32 ++ (if D.isEmpty = true then [] else List.replicate ((0 : Int).toNat - D.length) 48 ++ D) ++ [] ++ List.replicate 0 32).toArray⟩ : Str) = ⟨(sg ++ D).toArray⟩ := fun sg D => by
    have e1 : ((if D.isEmpty = true then [] else List.replicate ((0 : Int).toNat - D.length) 48 ++ D) : List Nat) = D := by
      cases D with
      | nil => rfl
      | cons a as => simp
    rw [e1]
    have e2 : ((-1 : Int) - ((sg.length : Int) + (0 : Nat) + (0 : Nat)) - (D.length : Int)).toNat = 0 := by omega
    rw [e2]
    simp
  have h := main (if decide (x < 0) = true then [45] else []) ((Nat.toDigits 2 x.natAbs).map Char.toNat)
  have e3 : bitsOf x = ⟨((if decide (x < 0) = true then [45] else []) ++ (Nat.toDigits 2 x.natAbs).map Char.toNat).toArray⟩ := by
    unfold bitsOf
    by_cases hx : x < 0 <;> simp [hx]
  rw [e3, ← h]
  rfl
end PySem

namespace DL
open PySem PySem.Spec PyProof.Rows L2
section
variable {X : Cx} {e : Expr} {pos : Pos}
def tFmtB (te : TE) : TE := fun σ H Q => te σ H fun x H1 => ∃ i : Int, x = .int i ∧ (bitsOf i).length ≤ sizeLine ∧ Q (.str (bitsOf i)) H1
theorem pe_fmtB {te : TE} {j : Nat} {p1 p2 : Pos} (he : PE X e te) : PE X (.JoinedStr [.FormattedValue e (-1) (some (.JoinedStr [.Constant (.str "b") j p1] p2)) pos] pos2) (tFmtB te) := by
  refine pe_joined1 ⟨fun pins s σ H Q I h => ?_⟩
  refine wpAny_FormattedValue_spec (thn (he.run pins s σ H _ I h) fun v s1 hv => ?_)
  obtain ⟨x, H1, I1, r1, i, rfl, hz, q⟩ := hv
  obtain ⟨t, rfl⟩ := r1
  refine thn ((pe_joined1 (pe_str (X := X) (x := "b"))).run pins s1 σ H1 (fun y H2 => y = .str "b" ∧ H2 = H1) I1 ⟨rfl, rfl⟩) fun v2 s2 hv2 => ?_
  obtain ⟨y, H2, I2, r2, rfl, rfl⟩ := hv2
  obtain ⟨t2, rfl⟩ := r2
  exact ⟨_, t2, rfl, wpAny_formatField_spec (T := "int") (x := bitsOf i) rfl (fun s' => typeIs_int s' i t) F.slot_int_format F.entry_int_format F.args_int_format_2 (fun u => gives_int_formatB i t u) ⟨.str (bitsOf i), _, I2.tok _, ⟨_, rfl⟩, q⟩ (by decide) hz⟩
def dFmtB (wa : WE) : WE := fun r m F => wa r m fun d m1 => ∃ i : Int, d = .int i ∧ (bitsOf i).length ≤ sizeLine ∧ F (.str (bitsOf i)) m1
theorem de_fmtB {wa : WE} {j : Nat} {p1 p2 : Pos} (he : DE X e wa) : DE X (.JoinedStr [.FormattedValue e (-1) (some (.JoinedStr [.Constant (.str "b") j p1] p2)) pos] pos2) (dFmtB wa) :=
  PE.imp (pe_fmtB he) fun σ H Q ⟨W, r, m, F, e, S, V, h, k⟩ => ⟨W, r, m, _, e, S, V, h, fun W1 m1 v1 d1 l1 S1 x1 ⟨i, q1, q2, q3⟩ => by
    subst q1
    cases x1
    exact ⟨i, rfl, q2, k W1 m1 _ _ l1 S1 (.str _) q3⟩⟩
theorem mt_zfill : MtR X "str.zfill" (fun x xs H Q => ∃ a i, x = .str a ∧ xs = [.int i] ∧ PadOk i = true ∧ Q (.str (Txt.zfill a i)) H) := by
  intro pins s σ H x xs v us Q I rx rs h
  obtain ⟨a, i, rfl, rfl, hp, h⟩ := h
  obtain ⟨t, rfl⟩ := rx
  cases rs with
  | cons r1 rs =>
    cases rs
    obtain ⟨u, rfl⟩ := r1
    exact call_gives F.slot_str_zfill (typeIs_str _ _ _) F.entry_str_zfill (F.args_str_zfill_2 _ _) (gives_str_zfill a i t u (PadOk.parts hp).1 (PadOk.parts hp).2) (post_val_or_made (fits_zfilled (PadOk.parts hp).2) fun t' k => ⟨.str (Txt.zfill a i), H, I.tok k, ⟨t', rfl⟩, h⟩)
def rZfill : RMD := fun d ds m F => ∃ a i, d = .str a ∧ ds = [.int i] ∧ PadOk i = true ∧ F (.str (Txt.zfill a i)) m
theorem m_zfill : MtR X "str.zfill" (liftM X.K rZfill) := by
  rintro pins s σ H x xs v us Q I rx rs ⟨W, m, d, ds, F, e, S, xa, xb, ⟨a, i, rfl, rfl, hp, h⟩, k⟩
  subst e
  obtain ⟨u, rfl, x2⟩ := dall1 xb
  cases xa
  cases x2
  exact mt_zfill pins s σ _ _ _ v us Q I rx rs ⟨_, _, rfl, rfl, hp, fin0 S k h (.str _)⟩
def rShl1 : R2D := fun a b m F => a = .int 1 ∧ ∃ k : Nat, b = .int (k : Int) ∧ k ≤ 134217727 ∧ F (.int (2 ^ k)) m
theorem o_shl1 : OpR X (binaryOp .LShift) (lift2 X.K rShl1) := by
  rintro pins s σ H x y v u Q I rx ry h
  obtain ⟨W, m, a, b, F, e, S, xa, xb, ⟨rfl, n, rfl, hn, h⟩, k⟩ := h
  subst e
  cases xa
  cases xb
  exact op_oneShl pins s σ _ _ _ v u Q I rx ry ⟨n, rfl, rfl, hn, fin0 S k h (.int _)⟩
end
end DL

/-! int(text, 2) -/
namespace PySem
open NumText
def bitsVal (bs : List Nat) : Nat := bs.foldl (fun acc c => acc * 2 + (c - 48)) 0
theorem fold2 : ∀ (cs : List Nat) (p : Array Nat × Bool), (∀ c ∈ cs, c = 48 ∨ c = 49) → cs.foldlM (NumText.step 2) p = some (p.1 ++ (cs.map fun c => c - 48).toArray, p.2 || !cs.isEmpty)
  | [], p, _ => by simp
  | c :: cs, p, h => by
    have hs : NumText.step 2 p c = some (p.1.push (c - 48), true) := by
      rcases h c (by simp) with rfl | rfl <;> rfl
    rw [List.foldlM_cons, hs]
    show cs.foldlM (NumText.step 2) (p.1.push (c - 48), true) = _
    rw [fold2 cs _ fun d hd => h d (by simp [hd])]
    simp
theorem read2 {bs : List Nat} (hne : bs ≠ []) (h : ∀ c ∈ bs, c = 48 ∨ c = 49) : (int_private% "readNumeral") 0 2 bs = (int_private% "Numeral.value") ((bitsVal bs : Nat) : Int) := by
  obtain ⟨c, cs, rfl⟩ : ∃ c cs, bs = c :: cs := by cases bs with
    | nil => exact absurd rfl hne
    | cons c cs => exact ⟨c, cs, rfl⟩
  have hb : ∀ d ∈ c :: cs, blank d = false := fun d hd => by rcases h d hd with rfl | rfl <;> rfl
  have e1 : (c :: cs).dropWhile blank = c :: cs := by
    rw [List.dropWhile_cons, hb c (by simp)]; rfl
  have e2 : sign (c :: cs) = (false, c :: cs) := by
    rcases h c (by simp) with rfl | rfl <;> rfl
  have e3 : based 2 (c :: cs) = (2, false, c :: cs) := by
    cases cs with
    | nil => rcases h c (by simp) with rfl | rfl <;> rfl
    | cons d ds => rcases h c (by simp) with rfl | rfl <;> rcases h d (by simp) with rfl | rfl <;> rfl
  have e4 : ((c :: cs).reverse.dropWhile blank).reverse = c :: cs := by
    have : (c :: cs).reverse.dropWhile blank = (c :: cs).reverse := by
      cases hr : (c :: cs).reverse with
      | nil => rfl
      | cons d ds =>
        have hd : d ∈ c :: cs := by rw [← List.mem_reverse, hr]; simp
        rw [List.dropWhile_cons, hb d hd]; rfl
    rw [this, List.reverse_reverse]
  have e5 : digits? 2 (c :: cs) = some ((c :: cs).map fun c => c - 48).toArray := by
    unfold digits?
    rw [fold2 _ _ h]
    simp
  rw [readNumeral_eq, e1, e2, e3]
  show judge 0 false 2 false (digits? 2 ((c :: cs).reverse.dropWhile blank).reverse) = _
  rw [e4, e5]
  show (int_private% "Numeral.value") _ = _
  congr 1
  simp [bitsVal, List.foldl_map]
end PySem
namespace PySem.W
open PySem PySem.Calls PySem.NumText PyProof.Rows
namespace KIN
theorem wp_text2 {M : Model} {A : Around} {E : Value → Shared → Prop} {s : Shared} {Q : Value → Shared → Prop} {v : Value} {text : List Nat} {n : Int}
    (hs : (text.takeWhile (· != 0)).length ≤ 640) (hr : (int_private% "readNumeral") 0 2 (text.takeWhile (· != 0)) = (int_private% "Numeral.value") n)
    (ha : ((text.takeWhile (· != 0)).length == text.length) = true) (h : Q (.int n s.toks) { s with toks := s.toks + 1 }) :
    wpAny M A ((int_private% "intFromText") v text 2) Q E s := by
  obtain ⟨hp, g, d, tk, os⟩ := s
  repeat (any_goals (first
    | assumption
    | (with_reducible refine wpAny_ite_true (decide_eq_true hs) ?_)
    | (with_reducible refine wpAny_ite_true (decide_eq_true ha) ?_)
    | wp_step))
  all_goals (try rw [hr])
  all_goals (try dsimp only)
  repeat (any_goals (first
    | assumption
    | (with_reducible refine wpAny_ite_true (decide_eq_true hs) ?_)
    | (with_reducible refine wpAny_ite_true (decide_eq_true ha) ?_)
    | wp_step))
set_option maxHeartbeats 4000000 in
theorem gives_text2 {x : PySem.Str} {u t : Tok} {n : Int} (hs : (numSeenOf x).length ≤ 640) (hr : (int_private% "readNumeral") 0 2 (numSeenOf x) = (int_private% "Numeral.value") n ∧ ((numSeenOf x).length == (numTextOf x).length) = true) : Gives (Builtin.«int.__new__» ⟨[.type "int", .str x u, .int 2 t], []⟩) (.int n) :=
  .of_wp fun M A E s Q h => by
    obtain ⟨hp, g, d, tk, os⟩ := s
    have f1 := F.conv_sub_int
    have f2 := F.madeHere_int
    have f6 : typeOf (.str x u) = pure (.type "str") := rfl
    have hk := Hid.mk (And.intro hs hr)
    clear hs hr
    repeat (any_goals (first
      | assumption
      | ((with_reducible show wpAny _ _ ((int_private% "intFromText") _ _ _) _ _ _); refine wp_text2 hk.out.1 hk.out.2.1 hk.out.2.2 ?_)
      | wp_step))
    all_goals first | exact ⟨_, rfl, h⟩ | skip
theorem call_int2 {prog : Program} {w : World} {A : Around} {E : Value → Shared → Prop} {s : Shared} {Q : Value → Shared → Prop} {x : PySem.Str} {u t : Tok} (hl : x.length ≤ 640) (h : ∀ c ∈ x.cps.toList, c = 48 ∨ c = 49) (hne : x.cps.toList ≠ [])
    (hQ : Q (.int ((bitsVal x.cps.toList : Nat) : Int) s.toks) { s with toks := s.toks + 1 }) : wpAny (model prog w) A (call (.type "int") [.str x u, .int 2 t]) Q E s := by
  have e1 : numTextOf x = x.cps.toList := by
    unfold numTextOf
    rw [if_pos]
    rw [← Array.all_toList, List.all_eq_true]
    intro c hc
    rcases h c hc with rfl | rfl <;> rfl
  have e2 : numSeenOf x = x.cps.toList := by
    unfold numSeenOf
    rw [e1]
    have tw : ∀ l : List Nat, (∀ c ∈ l, c = 48 ∨ c = 49) → l.takeWhile (· != 0) = l := by
      intro l
      induction l with
      | nil => intro _; rfl
      | cons c l ih =>
        intro hl
        rw [List.takeWhile_cons, if_pos (by rcases hl c (by simp) with rfl | rfl <;> rfl), ih fun d hd => hl d (by simp [hd])]
    exact tw _ h
  exact callType_new F.called_int F.newNe_int (L2.Hx.typeCall_int_2 _ _) (L2.Hx.newCall_int_2 _ _) (fun obj => F.initArgs_range_2 obj _ _) F.entry_int_new
    (gives_text2 (x := x) (u := u) (t := t) (n := ((bitsVal x.cps.toList : Nat) : Int)) (Nat.le_trans (seen_length x) hl) ⟨by rw [e2]; exact read2 hne h, by rw [e1, e2]; exact beq_self_eq_true _⟩).meets (show (Made.int ((bitsVal x.cps.toList : Nat) : Int)).post _ s from ⟨rfl, hQ⟩)
end KIN
end PySem.W
namespace DL
open PySem PySem.Spec PyProof.Rows L2
section
variable {X : Cx}
def rInt2 : RLD := fun ds m F => ∃ x : Str, ds = [.str x, .int 2] ∧ x.length ≤ 640 ∧ x.cps.toList ≠ [] ∧ (∀ c ∈ x.cps.toList, c = 48 ∨ c = 49) ∧ F (.int ((bitsVal x.cps.toList : Nat) : Int)) m
theorem c_int2 : CallR X (.type "int") (liftL X.K rInt2) := by
  rintro pins s σ H xs us Q I r ⟨W, m, ds, F, e, S, xa, ⟨x, rfl, hl, hne, hx, h⟩, k⟩
  subst e
  obtain ⟨v1, v2, rfl, x1, x2⟩ := dall2 xa
  cases x1
  cases x2
  obtain ⟨u, w', rfl, r1, r2⟩ := vals2 r
  obtain ⟨t1, rfl⟩ := r1
  obtain ⟨t2, rfl⟩ := r2
  exact PySem.W.KIN.call_int2 hl hx hne ⟨.int ((bitsVal x.cps.toList : Nat) : Int), W.H, I.tok _, ⟨_, rfl⟩, fin0 S k h (.int _)⟩
end
end DL

/-! in, not in, list.index over data of any depth; a list times a number as a cell -/
namespace DL
open PySem PySem.Spec PyProof.Rows L2
section
variable {X : Cx}
def rInD (neg : Bool) : R2D := fun a b m F => ∃ p qs, DView m a p ∧ DView m b (.list qs) ∧ SeqAt.shaped p = true ∧ SeqAt.shaped (.list qs) = true ∧ F (.bl (if neg then !(qs.any fun z => PyData.eqv z p) else qs.any fun z => PyData.eqv z p)) m
theorem o_inDD (hu : X.A.units + 65 < cLine) : OpR X (compareOp .In) (lift2 X.K (rInD false)) := by
  intro pins s σ H x y v u Q I rx ry ⟨W, m, a, b, F, e, S, xa, yb, ⟨p, qs, h1, h2, h3, h4, h5⟩, k⟩
  subst e
  exact op_inD hu pins s σ _ _ _ v u Q I rx ry ⟨p, qs, xa.dview S h1, yb.dview S h2, h3, h4, fin0 S k h5 (.bl _)⟩
theorem o_ninDD (hu : X.A.units + 65 < cLine) : OpR X (compareOp .NotIn) (lift2 X.K (rInD true)) := by
  intro pins s σ H x y v u Q I rx ry ⟨W, m, a, b, F, e, S, xa, yb, ⟨p, qs, h1, h2, h3, h4, h5⟩, k⟩
  subst e
  exact op_notInD hu pins s σ _ _ _ v u Q I rx ry ⟨p, qs, xa.dview S h1, yb.dview S h2, h3, h4, fin0 S k h5 (.bl _)⟩
def rIndexDD : RMD := fun d ds m F => ∃ (x : Dat) (p : PyData) (qs : List PyData) (j : Nat) (z : PyData), ds = [x] ∧ DView m d (.list qs) ∧ DView m x p ∧ SeqAt.shaped (.list qs) = true ∧ SeqAt.shaped p = true ∧
  qs[j]? = some z ∧ PyData.eqv z p = true ∧ (∀ (i : Nat) (z' : PyData), i < j → qs[i]? = some z' → PyData.eqv z' p = false) ∧ F (.int (j : Nat)) m
theorem m_indexDD (hu : X.A.units + 65 < cLine) : MtR X "list.index" (liftM X.K rIndexDD) := by
  rintro pins s σ H x xs v us Q I rx rs ⟨W, m, d, ds, F, e, S, xa, xb, ⟨y, p, qs, j, z, rfl, h1, h2, h3, h4, h5, h6, h7, h8⟩, k⟩
  subst e
  obtain ⟨u, rfl, x2⟩ := dall1 xb
  have q := xa.dview S h1
  obtain ⟨a, rfl⟩ : ∃ a, x = .ref a := by cases q with | lst hs ha => exact ⟨_, rfl⟩
  exact mt_indexD hu pins s σ _ _ _ v us Q I rx rs ⟨a, u, p, qs, j, z, rfl, rfl, q, x2.dview S h2, h3, h4, h5, h6, h7, fin0 S k h8 (.int _)⟩
def rMulM : R2D := fun a b m F => ∃ x n, items m a = some x ∧ b = .int n ∧ -(2 ^ 63) ≤ n ∧ n < 2 ^ 63 ∧ x.length * n.toNat ≤ sizeLine ∧ ∀ k, m k = none → F (.ref k) (m.set k (.lst (List.replicate n.toNat x).flatten))
theorem o_mulM : OpR X (binaryOp .Mult) (lift2 X.K rMulM) := by
  intro pins s σ H x y v u Q I rx ry ⟨W, m, a, b, F, e, S, xa, yb, ⟨ds, n, h1, hb, h2, h3, h4, h5⟩, k⟩
  subst e
  subst hb
  cases yb
  obtain ⟨p, xs, rfl, e1, q1⟩ := xa.items S h1
  exact op_rep pins s σ _ _ _ v u Q I rx ry ⟨p, _, xs, rfl, rfl, e1, h2, h3, by rw [q1.length]; exact h4, fun r hr => finM S k h5 (q1.rep _) hr⟩
end
variable {m : Mu} {F : KD}
theorem replicate1 {α : Type} (n : Nat) (d : α) : (List.replicate n [d]).flatten = List.replicate n d := by
  induction n with
  | zero => rfl
  | succ n ih => rw [List.replicate_succ, List.flatten_cons, ih, List.replicate_succ]; rfl
theorem p_mulM {d : Dat} {n : Int} (h0 : 0 ≤ n) (h1 : n ≤ 10000) (h : ∀ k, m k = none → F (.ref k) (m.set k (.lst (List.replicate n.toNat d)))) : rMulM (.lst [d]) (.int n) m F :=
  ⟨[d], n, rfl, rfl, by omega, by omega, by rw [sizeLine_eq]; simp; omega, by rw [replicate1]; exact h⟩
theorem units65 {k : Nat} {A : Around} (r : Room k A) : A.units + 65 < cLine := by have := r.un; omega
theorem u_get2 {wd wk wx : WE} {r : Ro} (h : wd r m fun d m1 => (∃ ds, dKs m1 d = some ds) ∧ (wk r m1 fun x m2 => wx r m2 fun z m3 => ∃ ds k, dKs m3 d = some ds ∧ keyD x = some k ∧ ∃ y, (lk ds k).getD z = y ∧ F y m3) ∨ (∃ ds, dTs m1 d = some ds) ∧ (wk r m1 fun x m2 => wx r m2 fun z m3 => ∃ ds ks, dTs m3 d = some ds ∧ tkeyD x = some ks ∧ ∃ y, (lk ds ks).getD z = y ∧ F y m3)) : dGet2D wd wk wx r m F := h
theorem p_get2T {d : Dat} {dt : List (List Key × Dat)} {P Q : Prop} (h1 : dTs m d = some dt) (h : Q) : P ∨ ((∃ ds, dTs m d = some ds) ∧ Q) := .inr ⟨⟨_, h1⟩, h⟩
theorem p_get2T' {d x z y : Dat} {dt : List (List Key × Dat)} {ks : List Key} {R : Dat → Prop} (h1 : dTs m d = some dt) (h2 : tkeyD x = some ks) (h3 : (lk dt ks).getD z = y) (h : R y) : ∃ ds ks, dTs m d = some ds ∧ tkeyD x = some ks ∧ ∃ y, (lk ds ks).getD z = y ∧ R y := ⟨_, _, h1, h2, _, h3, h⟩
end DL

/-! sorted(things that read as data) -/
namespace DL
open PySem PySem.Spec PySem.W PyProof.Rows L2
section
variable {X : Cx}
def rSortD : RLD := fun ds m F => ∃ (β : Type) (dat : β → Dat) (enc : β → PyData) (x : Dat) (bs : List β), ds = [x] ∧ items m x = some (bs.map dat) ∧ (∀ b ∈ bs, viewPy m (dat b) = some (enc b) ∧ (enc b).depth ≤ 60) ∧
  AllAlike (bs.map enc) ∧ Sortable (bs.map enc) ∧ bs.length ≤ sizeLine ∧ F (.lst ((bs.mergeSort (dataLe false enc)).map dat)) m
def SV (K : PySem.W.Frag) (W : Wd) (d : Dat) (v : Value) : Prop := ∃ y : V, RelV y v ∧ D K W y d
theorem each_vals {K : PySem.W.Frag} {W : Wd} {β : Type} {dat : β → Dat} : ∀ {ys : List V} {its : List Value} {bs : List β}, Vals ys its → DAll K W ys (bs.map dat) → EachIs (fun v b => SV K W (dat b) v) its bs
  | _, _, [], rv, q => by cases q; cases rv; exact .nil
  | _, _, b :: bs, rv, q => by
    rw [List.map_cons] at q
    cases q with
    | cons x1 x2 =>
      cases rv with
      | cons r1 r2 => exact .cons ⟨_, r1, x1⟩ (each_vals r2 x2)
theorem vals_each {K : PySem.W.Frag} {W : Wd} {β : Type} {dat : β → Dat} : ∀ {its : List Value} {bs : List β}, EachIs (fun v b => SV K W (dat b) v) its bs → ∃ ys : List V, Vals ys its ∧ DAll K W ys (bs.map dat)
  | _, _, .nil => ⟨[], .nil, .nil⟩
  | _, _, .cons ⟨y, r, x⟩ t => by
    obtain ⟨ys, h1, h2⟩ := vals_each t
    exact ⟨y :: ys, .cons r h1, .cons x h2⟩
theorem c_sortD (hu : X.A.units + 64 < cLine) : CallR X (.builtin "sorted") (liftL X.K rSortD) := by
  rintro pins s σ H xs us Q I r ⟨W, m, ds, F, e, S, xa, ⟨β, dat, enc, x, bs, rfl, hd, hv, hal, hk, hl, h⟩, k⟩
  subst e
  obtain ⟨v, rfl, x1⟩ := dall1 xa
  obtain ⟨a, ys, rfl, e1, q⟩ := x1.items S hd
  rw [Vals.ref1 r]
  obtain ⟨its, rv, hli, hz⟩ := I.list (SqL.of e1)
  have ev := each_vals rv q
  have er : ∀ {its : List Value} {bs : List β}, (∀ b ∈ bs, viewPy m (dat b) = some (enc b) ∧ (enc b).depth ≤ 60) → EachIs (fun v b => SV X.K W (dat b) v) its bs → EachIs (fun v b => ∃ as, Reads s.heap v (enc b) as) its bs := by
    intro its bs hb ee
    induction ee with
    | nil => exact .nil
    | cons h1 h2 ih =>
      obtain ⟨y, r1, d1⟩ := h1
      refine .cons ?_ (ih fun b hb' => hb b (List.mem_cons_of_mem _ hb'))
      obtain ⟨as, hr⟩ := Dp.reads I _ y _ (d1.view S (hb _ (List.mem_cons_self ..)).1) r1
      exact ⟨as, hr⟩
  refine sorted_data (R := fun v b => SV X.K W (dat b) v) hli.isList ev (er hv ev) hal hk hl (fun b hb => by have := (hv b hb).2; omega) fun out ho eo => ?_
  obtain ⟨zs, v1, v2⟩ := vals_each eo
  obtain ⟨ep, he'⟩ := PyProof.Rows.sortedAll_at s.heap its out.toArray
  have hlen : zs.length ≤ sizeLine := by rw [v1.length, ho]; exact hl
  exact ⟨.ref _, upd W.H (s.heap.objs.size + 1) (.lst zs), I.laid (t' := s.toks) (fun _ _ => PyProof.Rows.sortedAll_old) (Nat.le_succ _) ⟨hlen, out, ep, v1, he'⟩, rfl, finL S k h v2 (I.hok.fresh (Nat.le_succ _))⟩
end
section
variable {X : Cx} {m : Mu} {F : KD}
/-- one sign in a text -/
def rInS : R2D := fun a b m F => ∃ (c : Nat) (z : Str), a = .str ⟨#[c]⟩ ∧ b = .str z ∧ F (.bl (decide (c ∈ z.cps.toList))) m
theorem o_inS : OpR X (compareOp .In) (lift2 X.K rInS) := by
  intro pins s σ H x y v u Q I rx ry ⟨W, m, a, b, F, e, S, xa, yb, ⟨c, z, ea, eb, h⟩, k⟩
  subst e
  subst ea
  subst eb
  cases xa
  cases yb
  exact op_in_sign pins s σ _ _ _ v u Q I rx ry ⟨c, z, rfl, rfl, fin0 S k h (.bl _)⟩
theorem p_inS {c : Nat} {x z : Str} (hx : x = ⟨#[c]⟩) (h : F (.bl (decide (c ∈ z.cps.toList))) m) : rInS (.str x) (.str z) m F := ⟨c, z, by rw [hx], rfl, h⟩
end
section
variable {r : Ro} {m : Mu} {g : WG}
/-- things gathered that hold a new cell each -/
theorem comp_cellsW {ι : Type} {gd : Mu → Prop} {te : WE} {c : Cell} {FL : List Dat → Mu → Prop} (f : ι → Dat) (w : ι → Nat → Dat) (hg : ∀ m, gd m) {m0 : Mu} {xs : List ι}
    (h : ∀ x ∈ xs, ∀ (m : Mu) (k : Dat → Mu → Prop), (∀ n, m n = none → k (w x n) (m.set n c)) → g (f x) r m fun r2 m2 => te r2 m2 k)
    (hF : ∀ (ks : List Nat) (m' : Mu), ks.length = xs.length → ks.Nodup → (∀ k ∈ ks, m0 k = none ∧ m' k = some c) → (∀ a, a ∉ ks → m' a = m0 a) → FL ((xs.zip ks).map fun p => w p.1 p.2) m') : dcomp gd g dYes te r FL (xs.map f) [] m0 := by
  have key : ∀ (rest dn : List ι) (ks : List Nat) (m' : Mu), xs = dn ++ rest → ks.length = dn.length → ks.Nodup → (∀ k ∈ ks, m0 k = none ∧ m' k = some c) → (∀ a, a ∉ ks → m' a = m0 a) → dcomp gd g dYes te r FL (rest.map f) ((dn.zip ks).map fun p => w p.1 p.2) m' := by
    intro rest
    induction rest with
    | nil => intro dn ks m' e hl hn h1 h2; rw [List.append_nil] at e; subst e; exact ⟨hg _, hF ks m' hl hn h1 h2⟩
    | cons x rest ih =>
      intro dn ks m' e hl hn h1 h2
      have step := h x (by simp [e]) m' (fun y m4 => dcomp gd g dYes te r FL (rest.map f) (((dn.zip ks).map fun p => w p.1 p.2) ++ [y]) m4) fun n hn' => ?_
      · exact ⟨hg _, by simpa [dYes] using step⟩
      · have hnk : n ∉ ks := fun z => by rw [(h1 n z).2] at hn'; cases hn'
        have e2 : ((dn.zip ks).map fun p => w p.1 p.2) ++ [w x n] = ((dn ++ [x]).zip (ks ++ [n])).map fun p => w p.1 p.2 := by
          rw [List.zip_append hl.symm, List.map_append]; rfl
        show dcomp gd g dYes te r FL (rest.map f) (((dn.zip ks).map fun p => w p.1 p.2) ++ [w x n]) _
        rw [e2]
        refine ih (dn ++ [x]) (ks ++ [n]) _ (by simp [e]) (by simp [hl]) (List.nodup_append.mpr ⟨hn, by simp, fun a ha b hb z => by
          obtain rfl := List.mem_singleton.mp hb
          exact hnk (z ▸ ha)⟩) (fun k hk => ?_) fun a ha => ?_
        · rcases List.mem_append.mp hk with hk1 | hk1
          · refine ⟨(h1 k hk1).1, ?_⟩
            have hkn : k ≠ n := fun z => by subst z; exact hnk hk1
            rw [Mu.set_ne _ _ hkn]
            exact (h1 k hk1).2
          · obtain rfl := List.mem_singleton.mp hk1
            exact ⟨by rw [← h2 k hnk]; exact hn', Mu.set_same ..⟩
        · have ha1 : a ∉ ks := fun z => ha (by simp [z])
          have ha2 : a ≠ n := fun z => ha (by simp [z])
          rw [Mu.set_ne _ _ ha2]
          exact h2 a ha1
  exact key xs [] [] m0 rfl rfl .nil (fun k hk => nomatch hk) fun _ _ => rfl
/-- the cells by a map -/
theorem cells_fun {α : Type} [DecidableEq α] : ∀ {l : List α} {ks : List Nat}, ks.length = l.length → l.Nodup → ks.Nodup → ∃ A : α → Nat, ks = l.map A ∧ ∀ x ∈ l, ∀ y ∈ l, A x = A y → x = y
  | [], [], _, _, _ => ⟨fun _ => 0, rfl, fun x h => nomatch h⟩
  | x :: l, k :: ks, hl, nd, nk => by
    obtain ⟨A, h1, h2⟩ := cells_fun (l := l) (ks := ks) (by simpa using hl) (List.nodup_cons.mp nd).2 (List.nodup_cons.mp nk).2
    have hx := (List.nodup_cons.mp nd).1
    have hk := (List.nodup_cons.mp nk).1
    have ne : ∀ y ∈ l, y ≠ x := fun y hy e => hx (e ▸ hy)
    refine ⟨fun z => if z = x then k else A z, ?_, ?_⟩
    · rw [List.map_cons, if_pos rfl, h1]
      congr 1
      exact List.map_congr_left fun y hy => (if_neg (ne y hy)).symm
    · intro y hy z hz e
      have mk : ∀ y ∈ l, A y ≠ k := fun y hy e => hk (by rw [h1]; exact List.mem_map.mpr ⟨y, hy, e⟩)
      by_cases ey : y = x <;> by_cases ez : z = x
      · rw [ey, ez]
      · have hz' : z ∈ l := (List.mem_cons.mp hz).resolve_left ez
        simp only [if_pos ey, if_neg ez] at e; exact absurd e.symm (mk z hz')
      · have hy' : y ∈ l := (List.mem_cons.mp hy).resolve_left ey
        simp only [if_pos ez, if_neg ey] at e; exact absurd e (mk y hy')
      · have hz' : z ∈ l := (List.mem_cons.mp hz).resolve_left ez
        have hy' : y ∈ l := (List.mem_cons.mp hy).resolve_left ey
        simp only [if_neg ey, if_neg ez] at e; exact h2 y hy' z hz' e
theorem zip_map_self {α β γ : Type} (A : α → β) (f : α × β → γ) : ∀ l : List α, (l.zip (l.map A)).map f = l.map fun x => f (x, A x)
  | [] => rfl
  | x :: l => by rw [List.map_cons, List.zip_cons_cons, List.map_cons, zip_map_self A f l, List.map_cons]
theorem mgT_nodup : ∀ {ps ds : List (List Key × Dat)}, ((ds ++ ps).map (·.1)).Nodup → mgT ds ps = ds ++ ps
  | [], ds, _ => by simp [mgT]
  | p :: ps, ds, h => by
    have hp : p.1 ∉ ds.map (·.1) := by
      rw [List.map_append, List.nodup_append] at h
      exact fun hm => h.2.2 _ hm p.1 (by simp) rfl
    have e : pt ds p.1 p.2 = ds ++ [p] := by
      unfold pt
      rw [if_neg]
      intro ha
      obtain ⟨x, hx, he⟩ := List.any_eq_true.mp ha
      exact hp (List.mem_map.mpr ⟨x, hx, of_decide_eq_true he⟩)
    show mgT (pt ds p.1 p.2) ps = _
    rw [e, mgT_nodup (by simpa using h)]
    simp
theorem lk_map {α : Type} (f : α → List Key) (v : α → Dat) {l : List α} (inj : ∀ x ∈ l, ∀ y ∈ l, f x = f y → x = y) {x : α} (hx : x ∈ l) : lk (l.map fun y => (f y, v y)) (f x) = some (v x) := by
  induction l with
  | nil => cases hx
  | cons y l ih =>
    unfold lk
    rw [List.map_cons, List.find?_cons]
    by_cases e : f y = f x
    · obtain rfl := inj y (by simp) x hx e
      simp
    · have : x ∈ l := by
        rcases List.mem_cons.mp hx with rfl | h
        · exact absurd rfl e
        · exact h
      rw [decide_eq_false e]
      exact ih (fun a ha b hb => inj a (by simp [ha]) b (by simp [hb])) this
end
section
variable {X : Cx} {k : Nat} {f g C C2 : Addr} {ps : List Str} {sp : Spec} {nm : Str} {pos apos : Pos} {e o : Expr} {es : List Expr} {wo : WE} {w : WA}
/-- o.f(..), f an object of an own class that may be called -/
def tCallA (X : Cx) (C C2 : Addr) (nm : Str) (sp : L2.Sp) (E : XK) (ta : TE) (t : TA) : TE := fun σ H Q => ta σ H fun x H1 => ∃ a dx fs b, x = V.ref a ∧ H1 a = some (.ins C dx fs) ∧ fs.lookup nm = some (V.ref b) ∧ t σ H1 fun vs H2 => StX.InsC X H2 b C2 ∧ sp (V.ref b :: vs) H2 Q E
theorem pe_callA {pl : Sem Bool} {E : XK} {ta : TE} {t : TA} {sp : L2.Sp} (he : PE X o ta) (cC : Cls X.K C) (n : NoAttr X.K C nm) (c : StX.CallO X.K C2 g) (F : FnR X.prog X.w X.K X.mg X.base CX0 k g sp) (hr : Room k X.A) (hx : Passes CX0 X E) (ha : PA X (e :: es) t)
    (hst : starEach (e :: es) X.env = (false, eval e X.env) :: starEach es X.env := by rfl) (hpl : (backTo pos (starEach es X.env)).any (·.1) = false := by rfl)
    (ht : eval (.Call (.Attribute o nm apos) (e :: es) [] pos) X.env = (do
      let ov ← eval o X.env
      standAt apos.atName
      let (f, first) ← holding [ov] (getMethod ov nm pl)
      callWith pos f first (backTo pos (starEach (e :: es) X.env)) (backToKw pos (keywordEach [] X.env))) := by rfl) :
    PE X (.Call (.Attribute o nm apos) (e :: es) [] pos) (tCallA X C C2 nm sp E ta t) := by
  refine ⟨fun pins s σ H Q I h => ?_⟩
  refine PySem.W.methodCall_KW (pl := pl) (thn (he.run pins s σ H _ I h) fun u s1 ⟨x, H1, I1, rx, a, dx, fs, b, ex, ea, l, q⟩ => ?_) ht
  subst ex
  obtain rfl : u = Value.ref a := rx
  obtain ⟨mA, O, _⟩ := ins_get I1.hok ea
  obtain ⟨od, J, _⟩ := O.look
  have pg := PySem.W.plainGet_of (cC.get nm)
  refine PySem.W.method_usual (r := none) I1.kIn J pg.1 pg.2 n rfl ?_
  refine getattr_ok I1 ea cC n l fun u' s2 I2 ru => ?_
  obtain rfl : u' = Value.ref b := ru
  refine StX.callO_with (thn (ha.run pos pins s2 σ H1 _ I2 q) fun us s3 ⟨vs, H2, I3, r, hi, q2⟩ => ?_) hst hpl
  obtain ⟨ox, od2, J2, hd⟩ := StX.insC_at I3 hi
  exact ⟨⟨C2, ox, od2, J2, hd⟩, StX.run_callO c F hr hx I3 hi r q2⟩
def dCallA (C C2 : Addr) (nm : Str) (sp : Spec) (wo : WE) (w : WA) : WE := fun r m F => wo r m fun d m1 => ∃ gs d2, insD m1 d = some (C, gs) ∧ gs.lookup nm = some d2 ∧ (∃ g2, insD m1 d2 = some (C2, g2)) ∧ w r m1 fun ds m2 => (∃ g2, insD m2 d2 = some (C2, g2)) ∧ sp (d2 :: ds) m2 F X0
theorem de_callA {pl : Sem Bool} (cC : Cls X.K C) (n : NoAttr X.K C nm) (c : StX.CallO X.K C2 f) (F : DO X.prog X.w X.K X.mg X.base k f ps sp) (hr : Room k X.A) (ho : DE X o wo) (ha : DA X (e :: es) w)
    (hst : starEach (e :: es) X.env = (false, eval e X.env) :: starEach es X.env := by rfl) (hpl : (backTo pos (starEach es X.env)).any (·.1) = false := by rfl)
    (ht : eval (.Call (.Attribute o nm apos) (e :: es) [] pos) X.env = (do
      let ov ← eval o X.env
      standAt apos.atName
      let (f, first) ← holding [ov] (getMethod ov nm pl)
      callWith pos f first (backTo pos (starEach (e :: es) X.env)) (backToKw pos (keywordEach [] X.env))) := by rfl) :
    DE X (.Call (.Attribute o nm apos) (e :: es) [] pos) (dCallA C C2 nm sp wo w) := by
  refine PE.imp (pe_callA (E := E0) ho cC n c F.fnR hr pass0 ha hst hpl ht) fun σ H Q ⟨W, r, m, G, e0, S, V, h, q⟩ => ⟨W, r, m, _, e0, S, V, h, fun W1 m1 v d l1 S1 x1 ⟨gs, d2, h1, h2, ⟨g2, h3⟩, q1⟩ => ?_⟩
  obtain ⟨a, dx, fs, rfl, j3, j4, j5⟩ := x1.ins S1 h1
  obtain ⟨u, j6, j7⟩ := look_some j4 j5 h2
  obtain ⟨b, dx2, fs2, rfl, k3, k4, k5⟩ := j7.ins S1 h3
  refine ⟨a, dx, fs, b, rfl, j3, j6, W1, r, m1, _, rfl, S1, V.up l1.up, q1, fun W2 m2 vs ds l2 S2 x2 ⟨⟨g3, h6⟩, q2⟩ => ?_⟩
  obtain ⟨b', dx', fs', e', h7, _⟩ := (j7.up l2.up).ins S2 h6
  cases e'
  exact ⟨.inr ⟨dx', fs', h7⟩, call_dsp (E := E0) (σ := σ) (r := r) (m := m) (H1 := H) (l1.trans l2) S2 (.cons (j7.up l2.up) x2) q2 q .no⟩
theorem u_callA {r : Ro} {m : Mu} {F : KD} (h : wo r m fun d m1 => ∃ gs d2, insD m1 d = some (C, gs) ∧ gs.lookup nm = some d2 ∧ (∃ g2, insD m1 d2 = some (C2, g2)) ∧ w r m1 fun ds m2 => (∃ g2, insD m2 d2 = some (C2, g2)) ∧ sp (d2 :: ds) m2 F X0) : dCallA C C2 nm sp wo w r m F := h
end
/-- sorted, and nothing lost -/
theorem sortD_eq {β : Type} {le : β → β → Bool} (ht : ∀ a b c, le a b = true → le b c = true → le a c = true) (tot : ∀ a b, (le a b || le b a) = true) {bs cs : List β} (hp : bs.Perm cs) (hs : cs.Pairwise fun a b => le a b = true) (anti : ∀ a b, a ∈ cs → b ∈ cs → le a b = true → le b a = true → a = b) : bs.mergeSort le = cs :=
  List.Perm.eq_of_pairwise (le := fun a b => le a b = true) (fun a b ha hb h1 h2 => anti a b ((List.mergeSort_perm bs le).trans hp |>.mem_iff.mp ha) hb h1 h2) (List.pairwise_mergeSort ht tot bs) hs ((List.mergeSort_perm bs le).trans hp)
end DL

/-! == of dicts with tuple keys; text.find; divmod -/
namespace PySem.W
open Lean Elab Tactic Meta PySem PySem.Calls PyProof.Rows PyProof.V PySem.Spec
section
variable {prog : Program} {w : World} {K : Type} [DecidableEq K] {knd : HeapKind prog w K} {A : Around} {E : Value → Shared → Prop} {s : Shared}
inductive HitsH {K : Type} [DecidableEq K] (prog : Program) (w : World) (A : Around) (s : Shared) (kb : List (K × Addr × Value)) : List (K × Addr × Value) → Bool → Prop
  | nil : HitsH prog w A s kb [] true
  | miss {k : K} {a : Addr} {v : Value} {r : List (K × Addr × Value)} : atKey kb k = none → HitsH prog w A s kb ((k, a, v) :: r) false
  | hit {k : K} {a : Addr} {v : Value} {y : Addr × Value} {r : List (K × Addr × Value)} {e b : Bool} : atKey kb k = some y → SeqAt.EqP prog w A s v y.2 e → HitsH prog w A s kb r b → HitsH prog w A s kb ((k, a, v) :: r) (e && b)
theorem HitsH.inv {kb : List (K × Addr × Value)} {k : K} {a : Addr} {v : Value} {r : List (K × Addr × Value)} {b : Bool} (h : HitsH prog w A s kb ((k, a, v) :: r) b) :
    (atKey kb k = none ∧ b = false) ∨ ∃ y e b', atKey kb k = some y ∧ SeqAt.EqP prog w A s v y.2 e ∧ HitsH prog w A s kb r b' ∧ b = (e && b') := by
  cases h with
  | miss hn => exact .inl ⟨hn, rfl⟩
  | hit hy he hr => exact .inr ⟨_, _, _, hy, he, hr, rfl⟩
theorem samePairsH {nm : String} {a b : Addr} {ka kb : List (K × Addr × Value)} {r : Bool} {Q : Bool → Shared → Prop} (ha : (a == sysModules) = false) (hb : (b == sysModules) = false) (hu : knd.room A)
    (da : s.heap.DictOfH knd a ka) (db : s.heap.DictOfH knd b kb) (hits : ka.length = kb.length → HitsH prog w A s kb ka r) (h : Q (ka.length == kb.length && r) s) :
    wpAny (model prog w) A (Builtin.Dict.samePairs nm a b) Q E s := by
  obtain ⟨oa, es, ep, hoa, _, hda, hea, hisa, hna⟩ := da
  obtain ⟨ob, es', ep', hob, _, hdb, heb, hisb, hnb⟩ := db
  have hla : ka.length = es.size := (size_of_entries hea).symm
  have hlb : kb.length = es'.size := (size_of_entries heb).symm
  rw [hla, hlb] at h
  unfold Builtin.Dict.samePairs Builtin.Dict.showsAll
  rw [if_neg (show ¬ (a == sysModules) = true by rw [ha]; exact Bool.false_ne_true), if_neg (show ¬ (b == sysModules) = true by rw [hb]; exact Bool.false_ne_true)]
  refine wpAny_bind (wpAny_pure (wpAny_bind (wpAny_pure ?_)))
  refine wpAny_bind (wpAny_dictEntries hoa hda ?_)
  dsimp only
  refine wpAny_bind (wpAny_dictEntries hob hdb ?_)
  by_cases hsz : es.size = es'.size
  case neg =>
    rw [if_pos (by simpa using hsz)]
    have hbf : (es.size == es'.size) = false := by simpa using hsz
    rw [hbf, Bool.false_and] at h
    exact wpAny_bind (wpAny_rule (wpAny_pure h))
  case pos =>
    have h' : Q r s := by simpa [hsz] using h
    have hits' := hits (by rw [hla, hlb]; exact hsz)
    rw [if_neg (by rw [hsz]; simp)]
    refine wpAny_bind (wpAny_dictEpoch hoa hda ?_)
    refine wpAny_bind ?_
    rw [Std.Legacy.Range.forIn_eq_forIn_range']
    simp only [Std.Legacy.Range.size, Nat.sub_zero, Nat.add_sub_cancel, Nat.div_one]
    refine wpAny_forIn_list _
      (fun rest q s' => s' = s ∧ q = (none, ()) ∧ ∃ i, rest = List.range' i (es.size - i) ∧ i ≤ es.size ∧ HitsH prog w A s kb (ka.drop i) r)
      _ ?_ ?_ _ _ ⟨rfl, rfl, 0, by simp, Nat.zero_le _, hits'⟩
    · rintro x rest q s' ⟨rfl, rfl, i, hr, hi, hpre⟩
      have hlt : i < es.size := by
        rcases Nat.lt_or_ge i es.size with h | h
        · exact h
        · rw [Nat.sub_eq_zero_of_le h] at hr; simp at hr
      obtain ⟨rfl, hrest⟩ : x = i ∧ rest = List.range' (i + 1) (es.size - (i + 1)) := by
        have e : es.size - i = (es.size - (i + 1)) + 1 := by omega
        rw [e, List.range'_succ] at hr
        injection hr with h1 h2
        exact ⟨h1, h2⟩
      refine wpAny_bind (wpAny_dictEntries hoa hda ?_)
      have hlt' : x < ka.length := by rw [hla]; exact hlt
      obtain ⟨k, c, v, hkv⟩ : ∃ k c v, ka[x] = (k, c, v) := ⟨_, _, _, rfl⟩
      have hkv' : ka[x]? = some (k, c, v) := by rw [List.getElem?_eq_getElem hlt', hkv]
      have hdrop : ka.drop x = (k, c, v) :: ka.drop (x + 1) := by rw [← hkv]; exact List.drop_eq_getElem_cons hlt'
      have hex : es[x]? = some ⟨knd.hash k, .ref c, v⟩ := by rw [entry_at hea x, hkv']; rfl
      rw [hex]
      dsimp only
      have hkey : knd.is s'.heap k c := hisa _ (List.mem_of_getElem? hkv')
      rw [hdrop] at hpre
      refine wpAny_bind (wpAny_holding (wpAny_bind (wpAny_dictFind_heap hu hkey hob hdb heb hisb hnb (fun hno => ?_) (fun j p hj => ?_))))
      · have hn : atKey kb k = none := atKey_none_of_get hno
        rcases hpre.inv with ⟨_, er⟩ | ⟨y, _, _, hy, _⟩
        · rw [er] at h'
          refine wpAny_pure ?_
          show wpAny _ _ (if (!false) = true then _ else _) _ _ _
          rw [if_pos (by decide)]
          exact wpAny_pure (wpAny_pure h')
        · rw [hn] at hy; exact nomatch hy
      · have hv' : atKey kb k = some p := atKey_of_get hnb hj
        have hex' : es'[j]? = some ⟨knd.hash k, .ref p.1, p.2⟩ := by rw [entry_at heb j, hj]; rfl
        refine wpAny_bind (wpAny_dictEntries hob hdb ?_)
        rw [hex']
        dsimp only
        rcases hpre.inv with ⟨hn, _⟩ | ⟨y, e, b', hy, he, hrr, er⟩
        · rw [hv'] at hn; exact nomatch hn
        · have ey : p = y := Option.some.inj (hv'.symm.trans hy)
          rw [← ey] at he
          refine wpAny_holding (he _ _ ?_)
          cases e with
          | false =>
            rw [er, Bool.false_and] at h'
            show wpAny _ _ (if (!false) = true then _ else _) _ _ _
            rw [if_pos (by decide)]
            exact wpAny_pure (wpAny_pure h')
          | true =>
            rw [Bool.true_and] at er
            rw [← er] at hrr
            show wpAny _ _ (if (!true) = true then _ else _) _ _ _
            rw [if_neg (by decide)]
            refine wpAny_bind (wpAny_dictEpoch hoa hda ?_)
            rw [if_neg (by simp)]
            exact wpAny_pure ⟨rfl, rfl, x + 1, hrest, hlt, hrr⟩
    · rintro q s' ⟨rfl, rfl, i, hr, hi, hpre⟩
      have hin : i = es.size := by
        rcases Nat.lt_or_ge i es.size with h | h
        · have e : es.size - i = (es.size - (i + 1)) + 1 := by omega
          rw [e, List.range'_succ] at hr; exact nomatch hr
        · exact Nat.le_antisymm hi h
      refine wpAny_pure ?_
      rw [hin, ← hla, List.drop_length] at hpre
      cases hpre
      exact h'
theorem eqH_eq {a b : Addr} {ka kb : List (K × Addr × Value)} {r : Bool} {Q : Value → Shared → Prop} (ha : (a == sysModules) = false) (hb : (b == sysModules) = false) (hr : knd.room A.in1)
    (da : s.heap.DictOfH knd a ka) (db : s.heap.DictOfH knd b kb) (hu : A.units < cLine) (hits : ka.length = kb.length → HitsH prog w A.in1 s kb ka r) (h : Q (.bool (ka.length == kb.length && r)) s) :
    wpAny (model prog w) A (compareOp .Eq (.ref a) (.ref b)) Q E s := by
  refine wpAny_richCompare_same_room (op := .Eq) da.typeIs db.typeIs PySem.F.slot_dict_eq (wpAny_call_entry PySem.F.slot_dict_eq da.typeIs PySem.F.entry_dict_eq ?_ (PySem.F.args_dict_eq_2 _ _)) hu
  show wpAny _ _ (Builtin.Dict.dictSlotArgs "__eq__" ⟨[.ref a, .ref b], []⟩ >>= _) _ _ s
  refine wpAny_bind ?_
  unfold Builtin.Dict.dictSlotArgs
  refine wpAny_bind (wpAny_notOrdered_dict da.typeIs ?_)
  show wpAny _ _ (pure (Value.ref a, Value.ref b)) _ _ s
  refine wpAny_pure ?_
  refine wpAny_bind (wpAny_isInstance (T := "dict") db.typeIs PySem.F.sub_dict_dict ?_)
  simp only [Bool.not_true, Bool.false_eq_true, if_false]
  refine wpAny_bind (wpAny_pure (wpAny_bind (wpAny_pure ?_)))
  refine wpAny_bind (samePairsH ha hb hr da db hits ?_)
  refine wpAny_pure ⟨_, rfl, ?_, ?_⟩
  · exact fun x => nomatch x
  · simpa using h
theorem eqH_ne {a b : Addr} {ka kb : List (K × Addr × Value)} {r : Bool} {Q : Value → Shared → Prop} (ha : (a == sysModules) = false) (hb : (b == sysModules) = false) (hr : knd.room A.in1)
    (da : s.heap.DictOfH knd a ka) (db : s.heap.DictOfH knd b kb) (hu : A.units < cLine) (hits : ka.length = kb.length → HitsH prog w A.in1 s kb ka r) (h : Q (.bool (!(ka.length == kb.length && r))) s) :
    wpAny (model prog w) A (compareOp .NotEq (.ref a) (.ref b)) Q E s := by
  refine wpAny_richCompare_same_room (op := .NotEq) da.typeIs db.typeIs PySem.F.slot_dict_ne (wpAny_call_entry PySem.F.slot_dict_ne da.typeIs PySem.F.entry_dict_ne ?_ (PySem.F.args_dict_ne_2 _ _)) hu
  show wpAny _ _ (Builtin.Dict.dictSlotArgs "__ne__" ⟨[.ref a, .ref b], []⟩ >>= _) _ _ s
  refine wpAny_bind ?_
  unfold Builtin.Dict.dictSlotArgs
  refine wpAny_bind (wpAny_notOrdered_dict da.typeIs ?_)
  show wpAny _ _ (pure (Value.ref a, Value.ref b)) _ _ s
  refine wpAny_pure ?_
  refine wpAny_bind (wpAny_isInstance (T := "dict") db.typeIs PySem.F.sub_dict_dict ?_)
  simp only [Bool.not_true, Bool.false_eq_true, if_false]
  refine wpAny_bind (wpAny_pure (wpAny_bind (wpAny_pure ?_)))
  refine wpAny_bind (samePairsH ha hb hr da db hits ?_)
  refine wpAny_pure ⟨_, rfl, ?_, ?_⟩
  · exact fun x => nomatch x
  · simpa using h
end
end PySem.W
namespace DL
open PySem PySem.Spec PyProof.Rows L2
def eqDT (f : Dat → PyData) (ks ls : List (List Key × Dat)) : Bool := ks.length == ls.length && ks.all fun p => match lk ls p.1 with
  | none => false
  | some e => PyData.eqv (f p.2) (f e)
section
variable {X : Cx}
theorem lk_in {κ : Type} [DecidableEq κ] {ds : List (κ × Dat)} {k : κ} {d : Dat} (h : lk ds k = some d) : (k, d) ∈ ds := by
  unfold lk at h
  obtain ⟨p, h1, h2⟩ := Option.map_eq_some_iff.mp h
  have h3 := List.find?_some h1
  simp only [decide_eq_true_eq] at h3
  have h4 := List.mem_of_find?_eq_some h1
  obtain ⟨a, b⟩ := p
  simp only at h2 h3
  subst h2 h3
  exact h4
theorem hits_data {pins : List (Addr × Obj)} {σ : L2.St} {s : Shared} {W : Wd} {m : Mu} {ls : List (List Key × V)} {es : List (List Key × Dat)} {xb : List (List Key × Addr × Value)} {f : Dat → PyData} {A : Around} (I : L2.Inv X pins σ W.H s) (S : Sim X.K W m)
    (hu : A.in1.units + 64 < cLine) (rb : KT W.H ls xb) (rl : RelKD X.K W ls es) (fl : ∀ p ∈ es, DView m p.2 (f p.2) ∧ SeqAt.shaped (f p.2) = true) :
    ∀ (ds : List (List Key × Dat)) (ks : List (List Key × V)) (xa : List (List Key × Addr × Value)), KT W.H ks xa → RelKD X.K W ks ds → (∀ p ∈ ds, DView m p.2 (f p.2) ∧ SeqAt.shaped (f p.2) = true) →
      PySem.W.HitsH X.prog X.w A.in1 s xb xa (ds.all fun p => match lk es p.1 with
        | none => false
        | some e => PyData.eqv (f p.2) (f e))
  | ds, [], xa, ra, rd, fd => by
    cases ra
    have : ds = [] := by
      have := rd.length
      exact List.length_eq_zero_iff.mp this.symm
    subst this
    exact .nil
  | [], (k, v) :: ks, xa, ra, rd, fd => by cases rd.ks
  | (k', d) :: ds, (k, v) :: ks, xa, ra, rd, fd => by
    cases ra with
    | cons h1 h2 =>
      rename_i q qs
      obtain ⟨k2, c, u⟩ := q
      obtain ⟨e1, e2, e3⟩ := h1
      simp only at e1 e2 e3
      have e4 := rd.ks
      have e5 := rd.xs
      simp only [List.map_cons, List.cons.injEq] at e4
      obtain ⟨e4, e6⟩ := e4
      subst e1
      subst e4
      cases e5 with
      | cons x1 x2 =>
        have ih := hits_data I S hu rb rl fl ds ks qs h2 ⟨e6, x2⟩ fun p hp => fd p (List.mem_cons_of_mem _ hp)
        rcases RelKD.lk (k := k) rl with ⟨n1, n2⟩ | ⟨w, e, n1, n2, x3⟩
        · have hn : atKey xb k = none := by
            have := RelO.none_of (o := (atKey xb k).map (·.2)) (by rw [← n1]; exact rb.val k)
            simpa using this
          have : (((k, d) :: ds).all fun p => match lk es p.1 with
            | none => false
            | some e => PyData.eqv (f p.2) (f e)) = false := by
            rw [List.all_cons]
            simp only [n2, Bool.false_and]
          rw [this]
          exact .miss hn
        · obtain ⟨w', hw, rw'⟩ := RelO.some_of (v := w) (o := (atKey xb k).map (·.2)) (by rw [← n1]; exact rb.val k)
          obtain ⟨p, hp, hp2⟩ := Option.map_eq_some_iff.mp hw
          have : (((k, d) :: ds).all fun p => match lk es p.1 with
            | none => false
            | some e => PyData.eqv (f p.2) (f e)) = (PyData.eqv (f d) (f e) && (ds.all fun p => match lk es p.1 with
            | none => false
            | some e => PyData.eqv (f p.2) (f e))) := by
            rw [List.all_cons]
            simp only [n2]
          rw [this]
          obtain ⟨v1, s1⟩ := fd (k, d) (List.mem_cons_self ..)
          obtain ⟨v2, s2⟩ := fl (k, e) (lk_in n2)
          obtain ⟨as, r1⟩ := Dp.reads I _ v u (x1.dview S v1) e3
          obtain ⟨bs, r2⟩ := Dp.reads I _ w p.2 (x3.dview S v2) (hp2 ▸ rw')
          exact .hit hp (SeqAt.EqAt.eqP (PySem.W.keq_at r1 r2 s1 s2 hu)) ih
def rEqT (neg : Bool) : R2D := fun a b m F => ∃ ks ls f, dTs m a = some ks ∧ dTs m b = some ls ∧ (∀ p ∈ ks, DView m p.2 (f p.2) ∧ SeqAt.shaped (f p.2) = true) ∧ (∀ p ∈ ls, DView m p.2 (f p.2) ∧ SeqAt.shaped (f p.2) = true) ∧ F (.bl (if neg then !eqDT f ks ls else eqDT f ks ls)) m
theorem o_eqT (hu : X.A.units + 65 < cLine) : OpR X (compareOp .Eq) (lift2 X.K (rEqT false)) := by
  intro pins s σ H x y v u Q I rx ry ⟨W, m, a, b, F, e, S, xa, yb, ⟨ks, ls, f, h1, h2, h3, h4, h5⟩, k⟩
  subst e
  obtain ⟨p, vs, rfl, ea, ra⟩ := xa.dts S h1
  obtain ⟨q, us, rfl, eb, rb⟩ := yb.dts S h2
  cases (show v = Value.ref p from rx)
  cases (show u = Value.ref q from ry)
  obtain ⟨_, ya, xs, ka, da⟩ := dt_rd I.hok ea
  obtain ⟨_, yb', ys, kb, db⟩ := dt_rd I.hok eb
  have hl : (xs.length == ys.length) = (ks.length == ls.length) := by rw [← Paired.length ka, ← Paired.length kb, ra.length, rb.length]
  have q := fin0 S k h5 (.bl _)
  exact PySem.W.eqH_eq ya yb' (tupleKind_room_in1 (by omega)) da db (by omega) (fun _ => hits_data I S (by show X.A.units + 1 + 64 < cLine; omega) kb rb h4 ks vs xs ka ra h3) ⟨.bl (eqDT f ks ls), _, I, by rw [hl]; rfl, q⟩
theorem o_neT (hu : X.A.units + 65 < cLine) : OpR X (compareOp .NotEq) (lift2 X.K (rEqT true)) := by
  intro pins s σ H x y v u Q I rx ry ⟨W, m, a, b, F, e, S, xa, yb, ⟨ks, ls, f, h1, h2, h3, h4, h5⟩, k⟩
  subst e
  obtain ⟨p, vs, rfl, ea, ra⟩ := xa.dts S h1
  obtain ⟨q, us, rfl, eb, rb⟩ := yb.dts S h2
  cases (show v = Value.ref p from rx)
  cases (show u = Value.ref q from ry)
  obtain ⟨_, ya, xs, ka, da⟩ := dt_rd I.hok ea
  obtain ⟨_, yb', ys, kb, db⟩ := dt_rd I.hok eb
  have hl : (xs.length == ys.length) = (ks.length == ls.length) := by rw [← Paired.length ka, ← Paired.length kb, ra.length, rb.length]
  have q := fin0 S k h5 (.bl _)
  exact PySem.W.eqH_ne ya yb' (tupleKind_room_in1 (by omega)) da db (by omega) (fun _ => hits_data I S (by show X.A.units + 1 + 64 < cLine; omega) kb rb h4 ks vs xs ka ra h3) ⟨.bl (!eqDT f ks ls), _, I, by rw [hl]; rfl, q⟩
/-! ### text.find(text) -/
def rFind : RMD := fun d ds m F => ∃ a b, d = .str a ∧ ds = [.str b] ∧ F (.int (Txt.find a b)) m
theorem m_find : MtR X "str.find" (liftM X.K rFind) := by
  rintro pins s σ H x xs v us Q I rx rs ⟨W, m, d, ds, F, e, S, xa, xb, ⟨a, b, rfl, rfl, h⟩, k⟩
  subst e
  obtain ⟨u, rfl, x2⟩ := dall1 xb
  cases xa
  cases x2
  exact mt_find pins s σ _ _ _ v us Q I rx rs ⟨_, _, rfl, rfl, fin0 S k h (.int _)⟩
/-! ### divmod(i, j) -/
def rDivmod : RLD := fun ds m F => ∃ i j, ds = [.int i, .int j] ∧ CDiv i j ∧ F (.tup [.int (i / j), .int (i % j)]) m
theorem c_divmod : CallR X (.builtin "divmod") (liftL X.K rDivmod) := by
  rintro pins s σ H xs us Q I r ⟨W, m, ds, F, e, S, xa, ⟨i, j, rfl, hd, h⟩, k⟩
  subst e
  obtain ⟨v, u, rfl, x1, x2⟩ := dall2 xa
  cases x1
  cases x2
  exact call_divmod pins s σ _ _ us Q I r ⟨i, j, rfl, hd, fun p hp => finT S k h (.cons (.int _) (.cons (.int _) .nil)) hp⟩
end
/-! ### list(range(i, j)) -/
section
variable {X : Cx} {p p2 pos pos2 : Pos} {a b : Expr} {wa wb : WE}
def dListRg2 (wa wb : WE) : WE := fun r m F => wa r m fun d m1 => wb r m1 fun e m2 => ∃ i j : Int, d = .int i ∧ e = .int j ∧ RgOk i j ∧ F (.lst (rangeD i (j - i).toNat)) m2
theorem rg_dall2 {K : PySem.W.Frag} {W : Wd} {i j : Int} : DAll K W (rgV i j) (rangeD i (j - i).toNat) := by
  unfold rgV rangeD
  exact dall_range (fun t => i + (t : Int)) _
theorem rg2_lift {σ : L2.St} {H : Hp} {Q : VK} (h : liftE X.K (dListRg2 wa wb) σ H Q) : tLstRg (tRg2 (liftE X.K wa) (liftE X.K wb)) σ H Q := by
  obtain ⟨W, r, m, F, e, S, V, h, k⟩ := h
  refine ⟨W, r, m, _, e, S, V, h, fun W1 m1 v1 d1 l1 S1 x1 h1 => ⟨W1, r, m1, _, rfl, S1, V.up l1.up, h1, fun W2 m2 v2 d2 l2 S2 x2 ⟨i, j, q1, q2, q3, q4⟩ => ?_⟩⟩
  subst q1 q2
  cases x1
  cases x2
  exact ⟨i, j, rfl, rfl, q3, fun q hq => finL S2 (fun W' m' v d l S x q => k W' m' v d ((l1.trans l2).trans l) S x q) q4 rg_dall2 hq⟩
theorem de_listRg2 (hc : X.calm = true) (hg : Gl X "list") (hm : X.mg "list" = none) (hg2 : Gl X "range") (hm2 : X.mg "range" = none) (ha : DE X a wa) (hb : DE X b wb)
    (he : starEach [a, b] X.env = (false, eval a X.env) :: starEach [b] X.env := by rfl) (hf : starEach [b] X.env = (false, eval b X.env) :: starEach [] X.env := by rfl) (hp : (backTo pos2 (starEach [b] X.env)).any (·.1) = false := by rfl)
    (he2 : starEach [.Call (.Name "range" p2) [a, b] [] pos2] X.env = (false, eval (.Call (.Name "range" p2) [a, b] [] pos2) X.env) :: starEach [] X.env := by rfl) :
    DE X (.Call (.Name "list" p) [.Call (.Name "range" p2) [a, b] [] pos2] [] pos) (dListRg2 wa wb) :=
  PE.imp (pe_listRg hc hg hm (prg_2 hg2 hm2 ha hb he hf hp) he2) fun _ _ _ h => rg2_lift h
end
section
variable {r : Ro} {m : Mu} {F : KD} {wa wb : WE}
theorem u_lrg2 (h : wa r m fun d m1 => wb r m1 fun e m2 => ∃ i j : Int, d = .int i ∧ e = .int j ∧ RgOk i j ∧ F (.lst (rangeD i (j - i).toNat)) m2) : dListRg2 wa wb r m F := h
theorem p_lrg2 {i j : Int} {Q : List Dat → Prop} (h0 : 0 ≤ i) (h1 : i ≤ 16777216) (h2 : 0 ≤ j) (h3 : j ≤ 16777216) (h : Q (rangeD i (j - i).toNat)) : ∃ i' j' : Int, Dat.int i = .int i' ∧ Dat.int j = .int j' ∧ RgOk i' j' ∧ Q (rangeD i' (j' - i').toNat) := ⟨i, j, rfl, rfl, .of_le h0 h3 h1 h2, h⟩
end
section
variable {m : Mu} {F : KD}
theorem p_divmod {i j : Int} (h0 : 0 < j) (h1 : j < 1073741824) (h : F (.tup [.int (i / j), .int (i % j)]) m) : rDivmod [.int i, .int j] m F := ⟨i, j, rfl, ⟨h0, h1⟩, h⟩
theorem p_find {a b : Str} (h : F (.int (Txt.find a b)) m) : rFind (.str a) [.str b] m F := ⟨a, b, rfl, rfl, h⟩
theorem p_eqT {a b : Dat} {ks ls : List (List Key × Dat)} (f : Dat → PyData) (h1 : dTs m a = some ks) (h2 : dTs m b = some ls) (h3 : ∀ p ∈ ks, DView m p.2 (f p.2) ∧ SeqAt.shaped (f p.2) = true) (h4 : ∀ p ∈ ls, DView m p.2 (f p.2) ∧ SeqAt.shaped (f p.2) = true)
    (h : F (.bl (eqDT f ks ls)) m) : rEqT false a b m F := ⟨ks, ls, f, h1, h2, h3, h4, h⟩
theorem p_neT {a b : Dat} {ks ls : List (List Key × Dat)} (f : Dat → PyData) (h1 : dTs m a = some ks) (h2 : dTs m b = some ls) (h3 : ∀ p ∈ ks, DView m p.2 (f p.2) ∧ SeqAt.shaped (f p.2) = true) (h4 : ∀ p ∈ ls, DView m p.2 (f p.2) ∧ SeqAt.shaped (f p.2) = true)
    (h : F (.bl (!eqDT f ks ls)) m) : rEqT true a b m F := ⟨ks, ls, f, h1, h2, h3, h4, h⟩
end
end DL

/-! t[::-1] of a tuple -/
namespace HT
open PySem PyProof.Rows
section
open PySem.SeqAt
variable {prog : Program} {w : World} {A : Around} {E : Value → Shared → Prop} {s : Shared}
theorem pick_back (xs : Array Value) : ((List.range xs.size).filterMap fun (m : Nat) => xs[(((xs.size : Int) - 1) + (m : Int) * (-1)).toNat]?).toArray = xs.toList.reverse.toArray := by
  have e : ((List.range xs.size).filterMap fun (m : Nat) => xs[(((xs.size : Int) - 1) + (m : Int) * (-1)).toNat]?) = ((List.range xs.size).map fun k => xs.size - 1 - k).filterMap (xs[·]?) := by
    have key : ∀ l : List Nat, (∀ m ∈ l, m < xs.size) → (l.filterMap fun (m : Nat) => xs[(((xs.size : Int) - 1) + (m : Int) * (-1)).toNat]?) = (l.map fun k => xs.size - 1 - k).filterMap (xs[·]?) := by
      intro l
      induction l with
      | nil => intro _; rfl
      | cons m l ih =>
        intro hl
        have hm := hl m (by simp)
        have e2 : (((xs.size : Int) - 1) + (m : Int) * (-1)).toNat = xs.size - 1 - m := by omega
        rw [List.map_cons, List.filterMap_cons, List.filterMap_cons, e2, ih fun z hz => hl z (by simp [hz])]
    exact key _ fun m hm => List.mem_range.mp hm
  rw [e, PySem.W.krv_range, List.filterMap_reverse, PySem.W.krv_all]
theorem sliceApplied_back {sl : Addr} {vs : Value} {n : Nat} {Q : Int × Int × Nat → Shared → Prop} (hs : s.heap.IsSliceOf sl .none .none vs) (ps : IsPart vs (some (-1)))
    (h : Q ((n : Int) - 1, -1, n) s) : wpAny (model prog w) A (Builtin.Slice.sliceApplied (.ref sl) (pure (n : Int))) Q E s := by
  obtain ⟨os, hos, hcs, hds⟩ := id hs
  unfold Builtin.Slice.sliceApplied Builtin.Slice.sliceFields
  refine wpAny_bind (wpAny_bind (wpAny_field hos hds (x := .none) rfl (wpAny_bind (wpAny_field hos hds (x := .none) rfl (wpAny_bind (wpAny_field hos hds (x := vs) rfl (wpAny_pure ?_)))))))
  refine wpAny_bind (slicePart_ ps ?_)
  show wpAny _ _ (if ((-1 : Int) == 0) = true then _ else _) _ _ s
  rw [if_neg (by decide)]
  refine wpAny_bind (slicePart_none (wpAny_bind (slicePart_none (wpAny_bind (wpAny_pure ?_)))))
  show wpAny _ _ (pure ((n : Int) - 1, (-1 : Int), Builtin.Slice.slicePlaces ((n : Int) - 1) (-1) (-1))) _ _ s
  have e : Builtin.Slice.slicePlaces ((n : Int) - 1) (-1) (-1) = n := by
    unfold Builtin.Slice.slicePlaces
    rw [if_neg (by decide)]
    have e1 : (-(-1 : Int)) = 1 := by decide
    rw [e1, Int.ediv_one]
    split <;> omega
  rw [e]
  exact wpAny_pure h
theorem getItem_tuple_back {t sl : Addr} {items : Array Value} {vs : Value} {Q : Value → Shared → Prop} (ht : IsTup s.heap t items) (hs : s.heap.IsSliceOf sl .none .none vs) (ps : IsPart vs (some (-1)))
    (h : Q (.ref s.heap.objs.size) { s with heap := s.heap.push { cls := .type "tuple", data := .seq items.toList.reverse.toArray } })
    (hsz : items.size ≤ sizeLine) : wpAny (model prog w) A (getItem (.ref t) (.ref sl)) Q E s := by
  have htake : sizeOk (.seq items.toList.reverse.toArray) := by
    show items.toList.reverse.toArray.size ≤ sizeLine
    rw [List.size_toArray, List.length_reverse, Array.length_toList]
    exact hsz
  obtain ⟨os, hos, hcs, hds⟩ := id hs
  have hTs : s.TypeIs (.ref sl) "slice" := ⟨os, hos, hcs⟩
  unfold getItem
  try with_reducible refine wpAny_holding ?_
  first | refine wpAny_bind (wpAny_pure ?_) | skip
  refine wpAny_bind (wpAny_sequenceKey ht.typeIs (by decide) ?_)
  refine wpAny_bind (wpAny_callSpecial?_slot (name := Str.ofString "__getitem__") ht.typeIs PyProof.Rows.slot_tuple_getitem
    (wpAny_call_entry PyProof.Rows.slot_tuple_getitem ht.typeIs entry_tuple_getitem ?_ (args_tuple_getitem _ _)))
  show wpAny _ _ (Builtin.Tuple.tupleItemsOf (.ref t) >>= _) _ _ s
  refine wpAny_bind (tupleItemsOf_ ht ?_)
  refine wpAny_bind (wpAny_typeOf hTs ?_)
  rw [if_pos (by decide)]
  refine wpAny_bind (sliceApplied_back hs ps ?_)
  have hno : ¬ (((items.size : Int) - 1 == 0 && (-1 : Int) == 1 && items.size == items.size) = true) := by
    intro q
    rw [Bool.and_eq_true, Bool.and_eq_true] at q
    exact absurd q.1.2 (by decide)
  show wpAny _ _ (if ((items.size : Int) - 1 == 0 && (-1 : Int) == 1 && items.size == items.size) = true then _ else _) _ _ s
  rw [if_neg hno, pick_back]
  first
    | exact wpAny_bind (m := Builtin.Tuple.tupleExact _) (wpAny_newObj_type (wpAny_pure ⟨_, rfl, wpAny_pure h⟩) htake)
    | exact wpAny_bind (m := Builtin.Tuple.tupleExact _) (wpAny_newObj_type (wpAny_bind (wpAny_pure (wpAny_pure ⟨_, rfl, wpAny_pure h⟩))) htake)
    | exact wpAny_bind (wpAny_bind (m := Builtin.Tuple.tupleExact _) (wpAny_newObj_type (wpAny_pure (wpAny_pure ⟨_, rfl, wpAny_pure h⟩)) htake))
    | exact wpAny_bind (wpAny_bind (m := Builtin.Tuple.tupleExact _) (wpAny_newObj_type (wpAny_pure ⟨_, rfl, wpAny_pure h⟩) htake))
end
end HT
namespace L2
open PySem PySem.Spec PyProof.Rows
section
variable {X : Cx}
def tRevT (K : PySem.W.Frag) (te : TE) : TE := fun σ H Q => te σ H fun x H1 => ∃ a xs, x = .ref a ∧ SqT K H1 a xs ∧ ∀ p, H1 p = none → Q (.ref p) (upd H1 p (.tup xs.reverse))
theorem pe_revT {e : Expr} {te : TE} {k : Nat} {p1 p2 p3 pos : Pos} (he : PE X e te) : PE X (.Subscript e (.Slice none none (some (.UnaryOp .USub (.Constant (.int 1) k p1) p2)) p3) pos) (tRevT X.K te) := by
  refine ⟨fun pins s σ H Q I h => ?_⟩
  refine Subscript_ (thn (he.run pins s σ H _ I h) fun v s1 ⟨x, H1, I1, r1, q1⟩ => ?_)
  obtain ⟨a, xs, ex, hx, q⟩ := q1
  subst ex
  cases r1
  have hst : PO X (some (.UnaryOp .USub (.Constant (.int 1) k p1) p2)) (tPart (tUn (rU fun i => .int (-i)) (tC (.int 1)))) := po_some (pe_un un_neg pe_int)
  refine wpAny_Slice (thn (po_none.run pins s1 σ H1 (fun o H2 => o = none ∧ H2 = H1) I1 ⟨rfl, rfl⟩) fun vl s2 ⟨l, H2, I2, pl, el, e2⟩ => ?_)
  subst el e2
  refine thn (po_none.run pins s2 σ H2 (fun o H3 => o = none ∧ H3 = H2) I2 ⟨rfl, rfl⟩) fun vu s3 ⟨u, H3, I3, pu, eu, e3⟩ => ?_
  subst eu e3
  refine thn (hst.run pins s3 σ H3 (fun o H4 => o = some (-1) ∧ H4 = H3) I3 ⟨1, rfl, -1, rfl, rfl, rfl⟩) fun vs s4 ⟨o, H4, I4, ps, eo, e4⟩ => ?_
  subst eo e4
  cases pl
  cases pu
  have I5 : Inv X pins σ H4 { s4 with heap := s4.heap.push { cls := .type "slice", data := .fields #[.none, .none, vs] } } := I4.kept (t' := s4.toks) fun b ob q => Heap.get?_push_of_some _ q
  obtain ⟨its, r, ht, hz⟩ := I5.tuple hx
  have hlen := r.length
  show wpAny (model X.prog X.w) X.A (subscriptTail e (.Slice none none (some (.UnaryOp .USub (.Constant (.int 1) k p1) p2)) p3) (.ref a) (.ref s4.heap.objs.size)) (EP X pins σ Q) X.xe { s4 with heap := s4.heap.push { cls := .type "slice", data := .fields #[.none, .none, vs] } }
  refine tail_any (ops := [.ref a, .ref s4.heap.objs.size]) ht.typeIs (PyProof.Rows.slot_tuple_getitem.lookup) ?_ (by with_unfolding_all rfl)
  refine HT.getItem_tuple_back ht (Heap.IsSliceOf.new _ .none .none vs) ps ?_ (by rw [List.size_toArray]; omega)
  refine ⟨.ref _, _, I5.laid (t' := s4.toks) (o := .tup xs.reverse) (fun b ob q => Heap.get?_push_of_some _ q) (Nat.le_refl _) ?_, rfl, q _ (I5.hok.fresh (Nat.le_refl _))⟩
  exact ⟨by rw [List.length_reverse]; exact hz, _, r.reverse, IsTup.new _ _⟩
end
end L2
namespace DL
open PySem PySem.Spec PyProof.Rows L2
section
variable {X : Cx} {e : Expr} {w : WE} {pos : Pos}
def dRevT (w : WE) : WE := fun r m F => w r m fun d m1 => ∃ ds, d = .tup ds ∧ F (.tup ds.reverse) m1
theorem de_revT {k : Nat} {p1 p2 p3 : Pos} (h : DE X e w) : DE X (.Subscript e (.Slice none none (some (.UnaryOp .USub (.Constant (.int 1) k p1) p2)) p3) pos) (dRevT w) :=
  PE.imp (pe_revT h) fun σ H Q ⟨W, r, m, F, e0, S, V, h, k⟩ => ⟨W, r, m, _, e0, S, V, h, fun W1 m1 v1 d1 l1 S1 x1 ⟨ds, q1, q2⟩ => by
    subst q1
    have ha : ∃ p, v1 = .ref p := by cases x1 <;> exact ⟨_, rfl⟩
    obtain ⟨a, rfl⟩ := ha
    obtain ⟨ys, e1, q⟩ := x1.sqT
    exact ⟨a, ys, rfl, e1, fun p hp => finT S1 (fun W' m' v d l S x q => k W' m' v d (l1.trans l) S x q) q2 q.reverse hp⟩⟩
theorem u_revT {r : Ro} {m : Mu} {F : KD} (h : w r m fun d m1 => ∃ ds, d = .tup ds ∧ F (.tup ds.reverse) m1) : dRevT w r m F := h
theorem p_revT {m : Mu} {ds : List Dat} {R : Dat → Prop} (h : R (.tup ds.reverse)) : ∃ es, Dat.tup ds = .tup es ∧ R (.tup es.reverse) := ⟨ds, rfl, h⟩
end
end DL

/-! x <= y <= z; <= of texts -/
namespace DL
open PySem PySem.Spec PyProof.Rows L2
section
variable {X : Cx} {a b c : Expr} {wa wb wc : WE} {pos : Pos}
def dChain (o o' : R2D) (wa wb wc : WE) : WE := fun r m F => wa r m fun x m1 => wb r m1 fun y m2 => o x y m2 fun d m3 => ∃ k, d = .bl k ∧ (if k = true then wc r m3 fun z m4 => o' y z m4 F else F (.bl false) m3)
theorem de_chain {op op' : CmpOp} {o o' : R2D} (ho : OpR X (compareOp op) (lift2 X.K o)) (ho' : OpR X (compareOp op') (lift2 X.K o')) (ha : DE X a wa) (hb : DE X b wb) (hc : DE X c wc)
    (hm : lastMarks [op, op'] [b, c] = false := by with_unfolding_all rfl) : DE X (.Compare a [op, op'] [b, c] pos) (dChain o o' wa wb wc) :=
  PE.imp (pe_chain ho ho' ha hb hc hm) fun σ H Q ⟨W, r, m, F, e, S, V, h2, k⟩ => by
    refine ⟨W, r, m, _, e, S, V, h2, fun W1 m1 v1 d1 l1 S1 x1 q1 => ⟨W1, r, m1, _, rfl, S1, V.up l1.up, q1, fun W2 m2 v2 d2 l2 S2 x2 q2 => ⟨W2, m2, d1, d2, _, rfl, S2, x1.up l2.up, x2, q2, fun W3 m3 v d l3 S3 x3 q3 => ?_⟩⟩⟩
    obtain ⟨z, rfl, q3⟩ := q3
    cases x3
    refine ⟨z, rfl, ?_⟩
    cases z with
    | false => exact k W3 m3 _ _ ((l1.trans l2).trans l3) S3 (.bl false) q3
    | true =>
      exact ⟨W3, r, m3, _, rfl, S3, V.up ((l1.trans l2).trans l3).up, q3, fun W4 m4 v4 d4 l4 S4 x4 q4 => ⟨W4, m4, d2, d4, F, rfl, S4, x2.up (l3.trans l4).up, x4, q4, fun W5 m5 v5 d5 l5 S5 x5 q5 => k W5 m5 v5 d5 (((l1.trans l2).trans l3).trans (l4.trans l5)) S5 x5 q5⟩⟩
def rLeS : R2D := fun a b m F => ∃ x y : Str, a = .str x ∧ b = .str y ∧ F (.bl (!decide (y.cps.toList < x.cps.toList))) m
theorem o_leS : OpR X (compareOp .LtE) (lift2 X.K rLeS) := by
  rintro pins s σ H x y v u Q I rx ry ⟨W, m, a, b, F, e, S, xa, yb, ⟨i, j, rfl, rfl, h⟩, k⟩
  subst e
  cases xa; cases yb
  obtain ⟨t, rfl⟩ := rx
  obtain ⟨t', rfl⟩ := ry
  exact PySem.P.le_str (fin_bl I (fin0 S k h (.bl _)) rfl)
theorem u_chain {o o' : R2D} {r : Ro} {m : Mu} {F : KD} (h : wa r m fun x m1 => wb r m1 fun y m2 => o x y m2 fun d m3 => ∃ k, d = .bl k ∧ (if k = true then wc r m3 fun z m4 => o' y z m4 F else F (.bl false) m3)) : dChain o o' wa wb wc r m F := h
theorem p_leS {x y : Str} {m : Mu} {F : KD} (h : F (.bl (!decide (y.cps.toList < x.cps.toList))) m) : rLeS (.str x) (.str y) m F := ⟨x, y, rfl, rfl, h⟩
theorem p_chT {P Q : Prop} (h : P) : ∃ k, Dat.bl true = .bl k ∧ (if k = true then P else Q) := ⟨true, rfl, by rw [if_pos rfl]; exact h⟩
end
end DL

/-! d.items() of a dict with tuple keys -/
namespace L2
open PySem PySem.Spec PyProof.Rows
section
variable {X : Cx} {pins : List (Addr × Obj)} {σ : St} {H : Hp} {s : Shared} {d : Addr} {o : Obj}
theorem Inv.frzT2 {kvs : List (List Key × V)} (I : Inv X pins σ H s) (h : H d = some (.frz o (.dT kvs))) :
    (d == sysModules) = false ∧ s.heap.get? d = some o ∧ o.ExactDict ∧ ∃ (es : Array DictEntry) (ep : Nat), o.data = .dict es ep ∧ es.size = kvs.length ∧
      ∀ (i : Nat) (k : List Key) (v : V), kvs[i]? = some (k, v) → ∃ (en : DictEntry) (q : Addr), es[i]? = some en ∧ en.key = .ref q ∧ H q = some (.tup (k.map kV)) ∧ RelV v en.val := by
  obtain ⟨hd, z, hs, xs, pr, o', es, ep, ho, hx, hdt, he, _⟩ := I.hok d _ h
  rw [hd] at ho
  cases ho
  refine ⟨hs, hd, hx, es, ep, hdt, ?_, fun i k v e => ?_⟩
  · have l1 : es.size = xs.length := size_of_entries he
    have l2 : kvs.length = xs.length := Paired.length pr
    omega
  · obtain ⟨b, hb, e1, e2, e3⟩ := paired_get pr e
    have q := entry_at he i
    rw [hb] at q
    exact ⟨_, b.2.1, q, rfl, e2, e3⟩
end
/-- the pairs of the locked dict at d, each a new tuple of the key's own tuple and the value -/
def ItiT (d : Addr) (o : Obj) (kvs : List (List Key × V)) : It :=
  ⟨fun i H => H d = some (.frz o (.dT kvs)) ∧ i < kvs.length, fun i H x H' => ∃ T k v q, kvs[i]? = some (k, v) ∧ H q = some (.tup (k.map kV)) ∧ x = .ref T ∧ H T = none ∧ H' = upd H T (.tup [.ref q, v]), fun i H => H d = some (.frz o (.dT kvs)) ∧ kvs.length ≤ i⟩
section
variable {P : Program} {w : World} {K : PySem.W.Frag} {d : Addr} {o : Obj} {es : Array DictEntry} {ep : Nat}
theorem turn_itemsT {kvs : List (List Key × V)} {elts : List Expr} {kk : Nat} {tpos : Pos} (it : Addr) (hod : o.data = .dict es ep) :
    Turn P w K (.Tuple elts kk tpos) (ItiT d o kvs) [it] it (fun i h => ∃ ok ov, IsItemIter h it d i kvs.length ep ok ov) where
  mem := by simp
  obj := fun i h st b hb => by
    have e : b = it := by simpa using hb
    subst e
    obtain ⟨ok, ov, e⟩ := st
    exact ⟨_, e, fun v z => nomatch z⟩
  keep := fun i h h' st k => let ⟨ok, ov, e⟩ := st; ⟨ok, ov, k it (by simp) _ e⟩
  item := by
    intro X hP hw hK hc i pins s σ H E I hf st hg
    subst hP hw hK
    obtain ⟨hd, hi⟩ := hg
    obtain ⟨hs, hgd, hx, es', ep', hdt, hsz, ent⟩ := I.frzT2 hd
    obtain ⟨rfl, rfl⟩ := dict_ep hod hdt
    obtain ⟨⟨k, v⟩, hkv⟩ : ∃ p, kvs[i]? = some p := ⟨kvs[i], List.getElem?_eq_getElem hi⟩
    obtain ⟨en, q, hen, hkey, hq, hrv⟩ := ent i k v hkv
    obtain ⟨ok, ov, he⟩ := st
    rw [← hsz] at he
    have hie : i < es'.size := by omega
    have hen2 : es'[i] = en := by
      have := Array.getElem?_eq_getElem hie
      rw [this] at hen
      exact Option.some.inj hen
    have hlt : it < s.heap.objs.size := Heap.lt_size he
    refine wpAny_pyNext_items_item_raw he ⟨o, hgd, hx, hdt⟩ hie fun h' ho hT hz hk => ?_
    rw [hen2] at ho hT
    refine ⟨_, rfl, wpAny_letOwnedTupleGo_items (s := { s with heap := h' }) ho fun h'' he' sb => ?_⟩
    have hT2 : h''.get? s.heap.objs.size = some { cls := .type "tuple", data := .seq #[en.key, en.val] } := (sb.2 _ (Nat.ne_of_gt hlt)).trans hT
    have new : ObjOk X.prog X.w (upd H s.heap.objs.size (.tup [.ref q, v])) h'' s.heap.objs.size (.tup [.ref q, v]) :=
      ⟨by show 2 ≤ sizeLine; decide, [en.key, en.val], .cons (show RelV (.ref q) en.key from hkey) (.cons hrv .nil), ⟨_, hT2, rfl, _, rfl⟩⟩
    have I1 : Inv X pins σ (upd H s.heap.objs.size (.tup [.ref q, v])) { s with heap := h'' } :=
      I.turnedNew (t' := s.toks) (ch := [it]) (fun b ob hb e => (sb.2 b (by simpa using hb)).trans (hk b ob (by simpa using hb) e)) hf (Nat.le_refl _) new
    refine ⟨.ref s.heap.objs.size, _, I1, rfl, ⟨_, k, v, q, hkv, hq, rfl, I.hok.fresh (Nat.le_refl _), rfl⟩, ⟨en.key, en.val, ?_⟩, fun b hb => ?_⟩
    · rw [← hsz]; exact he'
    · have e : b = it := by simpa using hb
      rw [e, upd_ne (Nat.ne_of_lt hlt)]
      exact (hf it (by simp)).1
  done := by
    intro X hP hw hK hc i pins s σ H E I hf st hg
    subst hP hw hK
    obtain ⟨hd, hi⟩ := hg
    obtain ⟨f0, f1, f2, f3, f4, f5⟩ := hf it (by simp)
    obtain ⟨hs, hgd, hx, es', ep', hdt, hsz, ent⟩ := I.frzT2 hd
    obtain ⟨rfl, rfl⟩ := dict_ep hod hdt
    obtain ⟨ok, ov, he⟩ := st
    rw [← hsz] at he
    exact wpAny_pyNext_items_end_raw (I.ok.hd hc) he ⟨o, hgd, hx, hdt⟩ (by omega) fun h' eb => ⟨rfl, I.turned (t' := s.toks) (fun b ob hb e => eb b ob hb e) f0 f1 f3 f4 f5⟩
  self := fun A i s Q E st h => let ⟨_, _, e⟩ := st; PySem.W.kcp_self e h
end
def iItemsT (td : TE) : TI := fun σ H R => td σ H fun x H1 => ∃ d o kvs, x = .ref d ∧ H1 d = some (.frz o (.dT kvs)) ∧ R (ItiT d o kvs) H1
section
variable {X : Cx} {e : Expr} {td : TE} {apos cpos : Pos}
theorem pi_itemsT {elts : List Expr} {kk : Nat} {tpos : Pos} (he : PE X e td) (hbase : attributeBase e "items" X.env (eval e X.env) = eval e X.env := by rfl) (hline : (apos.endLine == cpos.line) = true := by rfl) :
    PI X (.Tuple elts kk tpos) (.Call (.Attribute e "items" apos) [] [] cpos) (iItemsT td) := by
  refine ⟨fun pins s σ H R I h => ?_⟩
  refine wpAny_Call_method (T := "dict") (id := "dict.items") hbase rfl hline F.plainAttrs_dict F.slot_dict_items F.type_dict_items (thn (he.run pins s σ H _ I h) fun u s1 ⟨x, H1, I1, rx, d, o, kvs, ex, hd, q⟩ => ?_)
  subst ex
  obtain rfl : u = Value.ref d := rx
  obtain ⟨hs, hgd, hx, es, ep, hdt, hsz, ent⟩ := I1.frzT2 hd
  have raw : s1.heap.DictRaw d es ep := ⟨o, hgd, hx, hdt⟩
  refine ⟨raw.typeIs, fun a ea => ⟨o, by cases ea; exact hgd, hx.2.1⟩, ?_⟩
  have I2 : Inv X pins σ H1 { s1 with heap := s1.heap.push { cls := .type "dict_items", data := .fields #[.ref d] } } := I1.kept (t' := s1.toks) fun b ob q => Heap.get?_push_of_some _ q
  have fin : wpAny (model X.prog X.w) X.A (pyIter (.ref s1.heap.objs.size)) (PIE X pins σ (.Tuple elts kk tpos) R) X.xe { s1 with heap := s1.heap.push { cls := .type "dict_items", data := .fields #[.ref d] } } := by
    refine wpAny_pyIter_items_raw (d := d) ⟨_, Heap.get?_push_size _ rfl, rfl, rfl⟩ (raw.at fun ob q => Heap.get?_push_of_some _ q) (pi_one (tk := s1.toks) I2 _ (turn_itemsT _ hdt) ⟨.none, .none, ?_⟩ q)
    rw [← hsz]
    exact Heap.get?_push_size _ rfl
  show wpAny _ _ (callWith cpos (.builtin "dict.items") [.ref d] [] []) _ X.xe s1
  exact method_meetsIn F.slot_dict_items F.entry_dict_items rfl (PySem.evalArgs_none ⟨rfl, raw.typeIs, F.args_dict_items_1 _, _, meets_dict_items_raw d hs, ⟨es, ep, raw⟩, fin⟩)
end
end L2
namespace DL
open PySem PySem.Spec PyProof.Rows L2
/-- the pairs (key, value) of a dict with tuple keys -/
def pairsT (ds : List (List Key × Dat)) : List Dat := ds.map fun p => .tup [datT p.1, p.2]
section
variable {K : PySem.W.Frag} {W : Wd} {m : Mu}
theorem rel_pairsT {kvs : List (List Key × V)} {ds : List (List Key × Dat)} (hk : kvs.map (·.1) = ds.map (·.1)) (hx : DAll K W (kvs.map (·.2)) (ds.map (·.2))) {i : Nat} {k : List Key} {v : V} (e : kvs[i]? = some (k, v)) :
    ∃ d, ds[i]? = some (k, d) ∧ D K W v d := by
  have h1 : (ds.map (·.1))[i]? = some k := by rw [← hk, List.getElem?_map, e]; rfl
  obtain ⟨d, h2, h3⟩ := hx.getV (i := i) (v := v) (by rw [List.getElem?_map, e]; rfl)
  rw [List.getElem?_map] at h1 h2
  cases hd : ds[i]? with
  | none => rw [hd] at h1; cases h1
  | some p =>
    rw [hd] at h1 h2
    refine ⟨d, ?_, h3⟩
    cases h1; cases h2; rfl
theorem src_itemsT {a : Addr} {od : Obj} {kvs : List (List Key × V)} {ds : List (List Key × Dat)} (e : W.H a = some (.frz od (.dT kvs))) (s : W.S a) (hk : kvs.map (·.1) = ds.map (·.1)) (hx : DAll K W (kvs.map (·.2)) (ds.map (·.2))) :
    SrcOk K W ⟨pairsT ds, gTrue⟩ (ItiT a od kvs) := by
  have hl : kvs.length = ds.length := by simpa using congrArg List.length hk
  refine ⟨fun H => H a = some (.frz od (.dT kvs)), fun i H x H' => ∃ T k v q, kvs[i]? = some (k, v) ∧ H q = some (.tup (k.map kV)) ∧ x = .ref T ∧ H T = none ∧ H' = upd H T (.tup [.ref q, v]),
    ⟨fun i H hi q => ?_, fun H q => ⟨q, by show kvs.length ≤ _; simp [pairsT, hl]⟩, fun i H x H' hi q y => y⟩, fun W1 m1 l S g => l.kS _ _ s e, fun W1 m1 i v H' l S g hi y => ?_⟩
  · have hi : i < (pairsT ds).length := hi
    exact ⟨q, by rw [hl]; simpa [pairsT] using hi⟩
  · obtain ⟨T, k, x, q, h1, h2, rfl, hT, rfl⟩ := y
    obtain ⟨d, h3, h4⟩ := rel_pairsT hk hx h1
    obtain ⟨l2, S2⟩ := S.newF (o := .tup [.ref q, x]) hT
    have nq : q ≠ T := fun z => by rw [z, hT] at h2; cases h2
    refine ⟨_, .tup [datT k, d], rfl, l2, S2, ?_, .tup upd_same (.cons (.tup ((upd_ne nq).trans h2) (dall_keys k)) (.cons ((h4.up l).up l2.up) .nil))⟩
    show (ds.map _)[i]? = _
    rw [List.getElem?_map, h3]; rfl
end
section
variable {X : Cx} {e : Expr} {w : WE} {apos cpos tpos : Pos} {elts : List Expr} {kk : Nat}
def diItemsT (w : WE) : WI := fun r m k => w r m fun d m1 => ∃ ds, d = .dfT ds ∧ k ⟨pairsT ds, gTrue⟩ m1
theorem di_itemsT (h : DE X e w) (hbase : attributeBase e "items" X.env (eval e X.env) = eval e X.env := by rfl) (hline : (apos.endLine == cpos.line) = true := by rfl) : DI X (.Tuple elts kk tpos) (.Call (.Attribute e "items" apos) [] [] cpos) (diItemsT w) :=
  PI.imp (pi_itemsT h hbase hline) fun σ H R ⟨W, r, m, k, e0, S, V, h2, q⟩ => ⟨W, r, m, _, e0, S, V, h2, fun W1 m1 v d l1 S1 x1 ⟨ds, hd, q1⟩ => by
    subst hd
    cases x1 with
    | dfT s e hk x => exact ⟨_, _, _, rfl, e, q W1 m1 _ _ l1 S1 (src_itemsT e s hk x) q1⟩⟩
end
section
variable {r : Ro} {m : Mu} {w : WE}
theorem u_itemsT {k : Src → Mu → Prop} (h : w r m fun d m1 => ∃ ds, d = .dfT ds ∧ k ⟨pairsT ds, gTrue⟩ m1) : diItemsT w r m k := h
theorem p_itemsT {ds : List (List Key × Dat)} {Q : List (List Key × Dat) → Prop} (h : Q ds) : ∃ es, Dat.dfT ds = .dfT es ∧ Q es := ⟨ds, rfl, h⟩
end
end DL

/-! repr of a dict with tuple keys -/
namespace DL
open PySem PySem.Spec PyProof.Rows L2
mutual
/-- no list, no dict in it -/
def flatP : PyData → Bool
  | .none | .bool _ | .int _ | .str _ => true
  | .tuple xs => flatPs xs
  | .list _ | .dict _ => false
def flatPs : List PyData → Bool
  | [] => true
  | x :: xs => flatP x && flatPs xs
end
mutual
theorem reads_flat {h : Heap} : ∀ (d : PyData) {v : Value} {as : List Addr}, flatP d = true → Reads h v d as → as = []
  | .none, _, _, _, r => by cases r; rfl
  | .bool _, _, _, _, r => by cases r; rfl
  | .int _, _, _, _, r => by cases r; rfl
  | .str _, _, _, _, r => by cases r; rfl
  | .tuple xs, _, _, f, r => by
    cases r with
    | tuple _ _ _ q => exact readsAll_flat xs (by simpa [flatP] using f) q
  | .list _, _, _, f, _ => by simp [flatP] at f
  | .dict _, _, _, f, _ => by simp [flatP] at f
theorem readsAll_flat {h : Heap} : ∀ (ds : List PyData) {vs : List Value} {as : List Addr}, flatPs ds = true → ReadsAll h vs ds as → as = []
  | [], _, _, _, r => by cases r; rfl
  | x :: xs, _, _, f, r => by
    simp only [flatPs, Bool.and_eq_true] at f
    cases r with
    | cons a b => rw [reads_flat x f.1 a, readsAll_flat xs f.2 b]; rfl
end
def kPy : Key → PyData
  | .inl i => .int i
  | .inr x => .str x
def keyPy (ks : List Key) : PyData := .tuple (ks.map kPy)
/-- a dict with tuple keys as data -/
def dictPy (f : Dat → PyData) (ks : List (List Key × Dat)) : PyData := .dict (ks.map fun p => (keyPy p.1, f p.2))
theorem flat_keys : ∀ ks : List Key, flatPs (ks.map kPy) = true
  | [] => rfl
  | .inl _ :: ks => flat_keys ks
  | .inr _ :: ks => flat_keys ks
theorem dp_keys {K : PySem.W.Frag} {H : Hp} : ∀ ks : List Key, DpAll K H (ks.map kV) (ks.map kPy)
  | [] => .nil
  | .inl i :: ks => .cons (.int i) (dp_keys ks)
  | .inr x :: ks => .cons (.str x) (dp_keys ks)
section
variable {X : Cx}
theorem reads_dictT {pins : List (Addr × Obj)} {σ : L2.St} {s : Shared} {W : Wd} {m : Mu} {f : Dat → PyData} (I : L2.Inv X pins σ W.H s) (S : Sim X.K W m) :
    ∀ (ds : List (List Key × Dat)) (ks : List (List Key × V)) (xa : List (List Key × Addr × Value)), KT W.H ks xa → RelKD X.K W ks ds → (∀ p ∈ ds, DView m p.2 (f p.2) ∧ flatP (f p.2) = true) →
      ReadsAll s.heap (xa.map fun p => Value.ref p.2.1) (ds.map fun p => keyPy p.1) [] ∧ ReadsAll s.heap (xa.map fun p => p.2.2) (ds.map fun p => f p.2) []
  | ds, [], xa, ra, rd, fd => by
    cases ra
    have : ds = [] := List.length_eq_zero_iff.mp rd.length.symm
    subst this
    exact ⟨.nil, .nil⟩
  | [], (k, v) :: ks, xa, ra, rd, fd => by cases rd.ks
  | (k', d) :: ds, (k, v) :: ks, xa, ra, rd, fd => by
    cases ra with
    | cons h1 h2 =>
      rename_i q qs
      obtain ⟨k2, c, u⟩ := q
      obtain ⟨e1, e2, e3⟩ := h1
      simp only at e1 e2 e3
      have e4 := rd.ks
      have e5 := rd.xs
      simp only [List.map_cons, List.cons.injEq] at e4
      obtain ⟨e4, e6⟩ := e4
      subst e1
      subst e4
      cases e5 with
      | cons x1 x2 =>
        obtain ⟨i1, i2⟩ := reads_dictT I S ds ks qs h2 ⟨e6, x2⟩ fun p hp => fd p (List.mem_cons_of_mem _ hp)
        obtain ⟨v1, g1⟩ := fd (k, d) (List.mem_cons_self ..)
        obtain ⟨as, r1⟩ := Dp.reads I _ v u (x1.dview S v1) e3
        have a0 := reads_flat _ g1 r1
        subst a0
        obtain ⟨bs, r2⟩ := Dp.reads I (keyPy k) (.ref c) (.ref c) (.tup (SqT.of e2) (dp_keys k)) rfl
        have b0 := reads_flat _ (by simpa [keyPy, flatP] using flat_keys k) r2
        subst b0
        exact ⟨.cons (as := []) (bs := []) r2 i1, .cons (as := []) (bs := []) r1 i2⟩
def rReprT : RLD := fun ds m F => ∃ d ks f, ds = [d] ∧ dTs m d = some ks ∧ (∀ p ∈ ks, DView m p.2 (f p.2) ∧ flatP (f p.2) = true) ∧ (dictPy f ks).showable = true ∧ (dictPy f ks).depth ≤ 60 ∧ (dictPy f ks).shown.length ≤ sizeLine ∧ F (.str (dictPy f ks).shown) m
theorem c_reprT (hgd : X.A.guards = some []) (hu : X.A.units + 64 < cLine) : CallR X (.builtin "repr") (liftL X.K rReprT) := by
  rintro pins s σ H xs us Q I r ⟨W, m, ds, F, e, S, xa, ⟨d, ks, f, rfl, hd, hf, h1, h3, h4, h⟩, k⟩
  subst e
  obtain ⟨v, rfl, x1⟩ := dall1 xa
  obtain ⟨u, rfl, ru⟩ := vals1 r
  obtain ⟨a, kvs, rfl, ea, ra⟩ := x1.dts S hd
  cases (show u = Value.ref a from ru)
  obtain ⟨_, ya, xs, ka, o, es, ep, ho, hx, hdat, he, _⟩ := dt_rd I.hok ea
  obtain ⟨r1, r2⟩ := reads_dictT I S ks kvs xs ka ra hf
  have rd : Reads s.heap (.ref a) (dictPy f ks) (a :: [] ++ []) := by
    refine Reads.dict ho hx.1 hdat ?_ ?_
    · rw [he, List.map_map, List.map_map]; exact r1
    · rw [he, List.map_map, List.map_map]; exact r2
  have fin : ∀ {t : Tok} {h' : Heap} {tk : Nat}, (∀ b o, s.heap.get? b = some o → h'.get? b = some o) → EP X pins σ Q (.str (dictPy f ks).shown t) { s with heap := h', toks := tk } := fun {t h' tk} hk => ⟨.str (dictPy f ks).shown, W.H, I.kept hk, ⟨t, rfl⟩, fin0 S k h (.str _)⟩
  refine repr_of_reads' rd h1 (fun _ hm => ?_) hgd (by omega) (fun _ _ z => z) (fun h' u tk hk => fin hk) h4
  have : sysModules = a := by simpa using hm
  rw [← this] at ya
  simp at ya
end
end DL

/-! sorted(d) of a dict whose keys are tuples of ints -/
namespace TS
open PySem PySem.W PyProof.Rows
section
variable {prog : Program} {w : World} {A : Around} {E : Value → Shared → Prop} {s : Shared}
theorem sorted_dict {a : Addr} {es : Array DictEntry} {ep d : Nat} {B : Int} {Q : Value → Shared → Prop} (hh : A.handled = none) (lo : (a == sysModules) = false) (hm : s.heap.DictRaw a es ep) (h64 : es.size < 64) (hd : 1 ≤ d) (x : TupsOk s.heap d B (es.toList.map (·.key)))
    (h : ∀ (out : Array Value) (h' : Heap) (tk : Nat) (D : Addr) (e : Nat), out.toList.Perm (es.toList.map (·.key)) → out.toList.Pairwise (fun u v => code B (intsOf s.heap u) ≤ code B (intsOf s.heap v)) → (∃ h0 : Heap, (∀ b o, s.heap.get? b = some o → h0.get? b = some o) ∧ (∀ b o, h0.get? b = some o → h'.get? b = some o) ∧ h0.objs.size ≤ D) →
      h'.get? D = some (seqObj "list" out e) → Q (.ref D) { s with heap := h', toks := tk }) :
    wpAny (model prog w) A (call (.builtin "sorted") [.ref a]) Q E s := by
  refine Calls.call_function_entry kind_sorted plain_sorted entry_sorted (args_sorted1 _) ?_
  unfold Builtin.«sorted»
  refine wpAny_bind (m := checkCount "sorted" 1 1 _) (wpAny_pure ?_)
  refine wpAny_bind (PySem.W.kdu_collect (A := A.in1) (KdlSrc.rawDict lo) hh hm (by rw [sizeLine_eq]; omega) fun h' tk acc hk hacc => ?_)
  have ek : acc.toList = es.toList.map (·.key) := by
    obtain ⟨n1, n2⟩ := hacc
    refine List.ext_getElem? fun j => ?_
    rw [Array.getElem?_toList, List.getElem?_map, Array.getElem?_toList]
    cases hj : acc[j]? with
    | none =>
      have : ¬ j < acc.size := fun z => by rw [Array.getElem?_eq_getElem z] at hj; cases hj
      rw [Array.getElem?_eq_none (by omega)]; rfl
    | some v =>
      obtain ⟨hi, rfl⟩ := n2 j v hj
      rw [Array.getElem?_eq_getElem hi]; rfl
  have hl : (es.toList.map (·.key)).length = es.size := by simp
  rw [ek]
  refine wpAny_bind (wpAny_newList ?_ (by rw [hl, sizeLine_eq]; omega))
  have hoL : (h'.push { cls := .type "list", data := .seq (es.toList.map (·.key)).toArray }).get? h'.objs.size = some (seqObj "list" (es.toList.map (·.key)).toArray 0) := Heap.get?_push_size _ rfl
  have keep : ∀ b o, s.heap.get? b = some o → (h'.push { cls := .type "list", data := .seq (es.toList.map (·.key)).toArray }).get? b = some o := fun b o q => Heap.get?_push_of_some _ (hk b o q)
  refine wpAny_bind (wpAny_holding (wpAny_call_entry slot_list_sort ⟨_, hoL, rfl⟩ entry_list_sort (sort_tups (s := { s with heap := h'.push { cls := .type "list", data := .seq (es.toList.map (·.key)).toArray }, toks := tk }) hoL (by rw [hl]; exact h64) hd (x.keeps fun b o q _ => keep b o q) (fun v => code B (intsOf s.heap v)) (fun v hv ns t => ?_) fun out a1 a2 => ⟨_, rfl, ?_⟩) (args_list_sort _)))
  · obtain ⟨ns0, t0, _⟩ := x v hv
    have e : ns = ns0 := t.ints.symm.trans (t0.keeps fun b o q _ => keep b o q).ints
    rw [e]
    show code B (intsOf s.heap v) = code B ns0
    rw [t0.ints]
  · obtain ⟨e, he⟩ := sortedHeap_at (out := out) hoL
    refine wpAny_pure ⟨_, rfl, h out _ tk _ e a1 a2 ⟨h', hk, fun b o q => ?_, Nat.le_refl _⟩ he⟩
    have hlt := Heap.lt_size q
    rw [sortedHeap_old (Nat.ne_of_lt hlt) (Heap.lt_size (Heap.get?_push_of_some _ q))]
    exact Heap.get?_push_of_some _ q
end
end TS
namespace DL
open PySem PySem.Spec PyProof.Rows L2
section
variable {X : Cx}
def kInt : Key → Int
  | .inl i => i
  | .inr _ => 0
theorem kInt_inl : ∀ ns : List Int, (ns.map Sum.inl : List Key).map kInt = ns
  | [] => rfl
  | n :: ns => congrArg (n :: ·) (kInt_inl ns)
theorem kV_inl : ∀ ns : List Int, (ns.map Sum.inl : List Key).map kV = ns.map V.int
  | [] => rfl
  | n :: ns => by show V.int n :: _ = _; rw [kV_inl ns]; rfl
def rSortDT (D : Nat) (B : Int) : RLD := fun ds m F => ∃ x ks iss, ds = [x] ∧ dTs m x = some ks ∧ ks.map (·.1) = iss.map (fun ns : List Int => (ns.map Sum.inl : List Key)) ∧ iss.length < 64 ∧ (∀ ns ∈ iss, ns.length = D ∧ TS.Bd B ns) ∧
  ∀ out : List (List Int), out.Perm iss → out.Pairwise (fun x y => TS.code B x ≤ TS.code B y) → F (.lst (out.map tupI)) m
theorem kt_keys {W : Wd} : ∀ {kvs : List (List Key × V)} {xs : List (List Key × Addr × Value)}, KT W.H kvs xs → kvs.map (·.1) = xs.map (·.1) ∧ ∀ p ∈ xs, W.H p.2.1 = some (.tup (p.1.map kV))
  | [], _, h => by cases h; exact ⟨rfl, fun p hp => by cases hp⟩
  | (k, v) :: kvs, _, h => by
    cases h with
    | cons h1 h2 =>
      rename_i q qs
      obtain ⟨k2, c, u⟩ := q
      obtain ⟨e1, e2, e3⟩ := h1
      simp only at e1 e2 e3
      obtain ⟨i1, i2⟩ := kt_keys h2
      subst e1
      refine ⟨by simp [i1], fun p hp => ?_⟩
      rcases List.mem_cons.mp hp with rfl | hp
      · exact e2
      · exact i2 p hp
theorem c_sortDT {D : Nat} {B : Int} (hD : 1 ≤ D) (hc : X.calm = true) : CallR X (.builtin "sorted") (liftL X.K (rSortDT D B)) := by
  rintro pins s σ H xs us Q I r ⟨W, m, ds, F, e, S, xa, ⟨x, ks, iss, rfl, hd, hk, h64, hb, h⟩, k⟩
  subst e
  obtain ⟨v, rfl, x1⟩ := dall1 xa
  obtain ⟨u, rfl, ru⟩ := vals1 r
  obtain ⟨a, kvs, rfl, ea, ra⟩ := x1.dts S hd
  cases (show u = Value.ref a from ru)
  obtain ⟨_, ya, xs, ka, o, es, ep, ho, hx, hdat, he, _⟩ := dt_rd I.hok ea
  obtain ⟨k1, k2⟩ := kt_keys ka
  have kk : xs.map (·.1) = iss.map (fun ns : List Int => (ns.map Sum.inl : List Key)) := by rw [← k1, ra.ks, hk]
  have hl : xs.length = iss.length := by simpa using congrArg List.length kk
  have hes : es.size = xs.length := size_of_entries he
  have ek : es.toList.map (·.key) = xs.map fun p => Value.ref p.2.1 := by rw [he, List.map_map]; rfl
  have one : ∀ p ∈ xs, (p.1.map kInt ∈ iss) ∧ p.1.map kV = (p.1.map kInt).map V.int := fun p hp => by
    have : p.1 ∈ iss.map (fun ns : List Int => (ns.map Sum.inl : List Key)) := by rw [← kk]; exact List.mem_map.mpr ⟨p, hp, rfl⟩
    obtain ⟨ns, hn, hq⟩ := List.mem_map.mp this
    rw [← hq, kInt_inl, kV_inl]
    exact ⟨hn, rfl⟩
  have raw : ∀ p ∈ xs, TS.TupInts s.heap (.ref p.2.1) (p.1.map kInt) := fun p hp => tupI_raw I (SqT.of (by rw [← (one p hp).2]; exact k2 p hp))
  refine TS.sorted_dict (d := D) (B := B) (I.ok.hd hc) ya ⟨o, ho, hx, hdat⟩ (by omega) hD (fun v hv => ?_) fun out h' tk L ep' pm pw ⟨h0, g1, g2, g3⟩ hL => ?_
  · rw [ek] at hv
    obtain ⟨p, hp, rfl⟩ := List.mem_map.mp hv
    exact ⟨_, raw p hp, hb _ (one p hp).1⟩
  · rw [ek] at pm
    obtain ⟨ls, hls, hout⟩ := perm_map_inv pm.symm xs rfl
    have I0 : L2.Inv X pins σ W.H { s with heap := h0, toks := s.toks } := I.kept g1
    have hsub : ∀ p ∈ ls, p ∈ xs := fun p hp => hls.symm.subset hp
    have vl : Vals (ls.map fun p => V.ref p.2.1) out.toList := by
      rw [hout]
      clear hsub hls hout
      induction ls with
      | nil => exact .nil
      | cons p ls ih => exact .cons (show RelV (.ref p.2.1) (.ref p.2.1) from rfl) ih
    have hz : (ls.map fun p => V.ref p.2.1).length ≤ sizeLine := by
      rw [List.length_map, ← hls.length_eq, sizeLine_eq]; omega
    have I1 : L2.Inv X pins σ (upd W.H L (.lst (ls.map fun p => V.ref p.2.1))) { s with heap := h', toks := tk } := I0.laid (t' := tk) g2 g3 ⟨hz, out.toList, ep', vl, hL⟩
    have hn : W.H L = none := I0.hok.fresh g3
    refine ⟨.ref L, _, I1, rfl, ?_⟩
    have hxd : ∀ M : List (List Key × Addr × Value), (∀ p ∈ M, p ∈ xs) → DAll X.K W (M.map fun p => V.ref p.2.1) ((M.map fun p => p.1.map kInt).map tupI) := by
      intro M
      induction M with
      | nil => intro _; exact .nil
      | cons p M ih =>
        intro hM
        have hp := hM p (by simp)
        refine .cons (.tup (by rw [← (one p hp).2]; exact k2 p hp) (dall_ints _)) (ih fun z hz => hM z (by simp [hz]))
    refine finL S k (h (ls.map fun p => p.1.map kInt) ?_ ?_) (hxd ls hsub) hn
    · have e1 : iss = xs.map fun p => p.1.map kInt := by
        have := congrArg (fun l => l.map fun z : List Key => z.map kInt) kk
        simp only [List.map_map] at this
        rw [show xs.map (fun p => p.1.map kInt) = xs.map ((fun z : List Key => z.map kInt) ∘ fun p => p.1) from rfl, this]
        symm
        calc iss.map ((fun z : List Key => z.map kInt) ∘ fun ns : List Int => (ns.map Sum.inl : List Key)) = iss.map id := List.map_congr_left fun ns _ => kInt_inl ns
          _ = iss := by simp
      rw [e1]
      exact (hls.map _).symm
    · rw [hout, List.pairwise_map] at pw
      rw [List.pairwise_map]
      refine pw.imp_of_mem fun {p q} hp hq hpq => ?_
      rw [(raw p (hsub p hp)).ints, (raw q (hsub q hq)).ints] at hpq
      exact hpq
end
end DL

set_option maxHeartbeats 0
namespace L
open PySem PySem.Spec PyProof.Rows L2 DL
variable {P : Program} {wd : World} {K : PySem.W.Frag} {mg : Str → Option Value} {base : Heap}
local macro_rules | `(tactic| decreasing_trivial_pre_omega) => `(tactic| with_reducible refine u_iten ?_)
local macro_rules | `(tactic| decreasing_trivial_pre_omega) => `(tactic| with_reducible first | refine u_ites (fun _ => ?_) (fun _ => ?_) | fail "no")
local macro_rules | `(tactic| decreasing_trivial_pre_omega) => `(tactic| with_reducible first | refine u_itei (fun _ => ?_) (fun _ => ?_) | fail "no")
local macro_rules | `(tactic| decreasing_trivial_pre_omega) => `(tactic| with_reducible first | refine u_ited (fun _ => ?_) (fun _ => ?_) | fail "no")
local macro_rules | `(tactic| decreasing_trivial_pre_omega) => `(tactic| with_reducible first | (apply u_iteF; (· first | with_unfolding_all rfl | decide)) | fail "no")
local macro_rules | `(tactic| decreasing_trivial_pre_omega) => `(tactic| with_reducible first | (apply u_iteT; (· first | with_unfolding_all rfl | decide)) | fail "no")
local macro_rules | `(tactic| decreasing_trivial_pre_omega) => `(tactic| with_reducible first | (apply u_sz; (· first | exact Nat.le_of_ble_eq_true (by with_unfolding_all rfl) | (simp; done) | (simp; omega))) | fail "no")
local macro_rules | `(tactic| decreasing_trivial_pre_omega) => `(tactic| with_reducible refine p_slT ?_)
local macro_rules | `(tactic| decreasing_trivial_pre_omega) => `(tactic| with_reducible refine p_slL ?_)
local macro_rules | `(tactic| decreasing_trivial_pre_omega) => `(tactic| with_reducible refine p_slScr ?_)
local macro_rules | `(tactic| decreasing_trivial_pre_omega) => `(tactic| with_reducible first | (apply p_slS; (· rw [sizeLine_eq]; omega)) | fail "no")
local macro_rules | `(tactic| decreasing_trivial_pre_omega) => `(tactic| with_reducible first | (apply u_isTyL; (· first | exact Mu.set_same _ _ _ | assumption)) | fail "no")
local macro_rules | `(tactic| decreasing_trivial_pre_omega) => `(tactic| with_reducible refine u_isTyS ?_)
local macro_rules | `(tactic| decreasing_trivial_pre_omega) => `(tactic| with_reducible first | (apply p_upper; (· omega)) | fail "no")
local macro_rules | `(tactic| decreasing_trivial_pre_omega) => `(tactic| with_reducible first | (apply p_inK; (· with_unfolding_all rfl); (· with_unfolding_all rfl)) | fail "no")
local macro_rules | `(tactic| decreasing_trivial_pre_omega) => `(tactic| with_reducible first | (apply p_inT; (· with_unfolding_all rfl); (· with_unfolding_all rfl)) | fail "no")
local macro_rules | `(tactic| decreasing_trivial_pre_omega) => `(tactic| with_reducible first | (apply p_lenS; (· rw [sizeLine_eq]; omega)) | fail "no")
local macro_rules | `(tactic| decreasing_trivial_pre_omega) => `(tactic| with_reducible refine p_ends ?_)
local macro_rules | `(tactic| decreasing_trivial_pre_omega) => `(tactic| with_reducible refine p_count ?_)
local macro_rules | `(tactic| decreasing_trivial_pre_omega) => `(tactic| with_reducible refine p_abs ?_)
local macro_rules | `(tactic| decreasing_trivial_pre_omega) => `(tactic| with_reducible refine p_intB ?_)
local macro_rules | `(tactic| decreasing_trivial_pre_omega) => `(tactic| with_reducible refine p_intI ?_)
local macro_rules | `(tactic| decreasing_trivial_pre_omega) => `(tactic| with_reducible first | (apply p_lenR; (· first | exact Mu.set_same _ _ _ | assumption)) | fail "no")
local macro_rules | `(tactic| decreasing_trivial_pre_omega) => `(tactic| with_reducible refine p_lenL ?_)
local macro_rules | `(tactic| decreasing_trivial_pre_omega) => `(tactic| with_reducible refine p_lenT ?_)
local macro_rules | `(tactic| decreasing_trivial_pre_omega) => `(tactic| with_reducible refine p_iaddI ?_)
local macro_rules | `(tactic| decreasing_trivial_pre_omega) => `(tactic| with_reducible first | (apply p_setR; (· first | exact Mu.set_same _ _ _ | assumption); (· with_unfolding_all rfl)) | fail "no")
local macro_rules | `(tactic| decreasing_trivial_pre_omega) => `(tactic| with_reducible first | (apply p_setR'; (· with_unfolding_all rfl)) | fail "no")
local macro_rules | `(tactic| decreasing_trivial_pre_omega) => `(tactic| with_reducible first | (apply p_getR; (· first | exact Mu.set_same _ _ _ | assumption); (· omega); (· with_unfolding_all rfl)) | fail "no")
local macro_rules | `(tactic| decreasing_trivial_pre_omega) => `(tactic| with_reducible first | (apply p_ixT; (· with_unfolding_all rfl)) | fail "no")
local macro_rules | `(tactic| decreasing_trivial_pre_omega) => `(tactic| with_reducible first | (apply p_ixL; (· with_unfolding_all rfl)) | fail "no")
local macro_rules | `(tactic| decreasing_trivial_pre_omega) => `(tactic| with_reducible first | (apply p_ixR; (· first | exact Mu.set_same _ _ _ | assumption); (· with_unfolding_all rfl)) | fail "no")
local macro_rules | `(tactic| decreasing_trivial_pre_omega) => `(tactic| with_reducible refine p_eqS ?_)
local macro_rules | `(tactic| decreasing_trivial_pre_omega) => `(tactic| with_reducible refine p_eqI ?_)
local macro_rules | `(tactic| decreasing_trivial_pre_omega) => `(tactic| with_reducible refine p_ge ?_)
local macro_rules | `(tactic| decreasing_trivial_pre_omega) => `(tactic| with_reducible refine p_gt ?_)
local macro_rules | `(tactic| decreasing_trivial_pre_omega) => `(tactic| with_reducible refine p_le ?_)
local macro_rules | `(tactic| decreasing_trivial_pre_omega) => `(tactic| with_reducible refine p_lt ?_)
local macro_rules | `(tactic| decreasing_trivial_pre_omega) => `(tactic| with_reducible refine p_neg ?_)
local macro_rules | `(tactic| decreasing_trivial_pre_omega) => `(tactic| with_reducible first | (apply p_fdiv; (· first | assumption | omega); (· first | assumption | decide)) | fail "no")
local macro_rules | `(tactic| decreasing_trivial_pre_omega) => `(tactic| with_reducible first | (apply p_mod; (· first | assumption | omega)) | fail "no")
local macro_rules | `(tactic| decreasing_trivial_pre_omega) => `(tactic| with_reducible first | (apply p_mulI; (· first | exact mulb_r (by decide) (by decide) | exact mulb_l (by decide) (by decide) | exact mulb_l (by omega) (by omega) | exact mulb_r (by omega) (by omega))) | fail "no")
local macro_rules | `(tactic| decreasing_trivial_pre_omega) => `(tactic| with_reducible refine p_sub ?_)
local macro_rules | `(tactic| decreasing_trivial_pre_omega) => `(tactic| with_reducible refine p_addI ?_)
local macro_rules | `(tactic| decreasing_trivial_pre_omega) => `(tactic| with_reducible refine u_str ?_)
local macro_rules | `(tactic| decreasing_trivial_pre_omega) => `(tactic| with_reducible refine u_int ?_)
local macro_rules | `(tactic| decreasing_trivial_pre_omega) => `(tactic| with_reducible refine u_bl ?_)
local macro_rules | `(tactic| decreasing_trivial_pre_omega) => `(tactic| with_reducible first | (apply p_repl0; (· first | omega | decide | exact Nat.le_trans (len_gone _ (by decide)) (by first | omega | decide)); (· decide)) | fail "no")
local macro_rules | `(tactic| decreasing_trivial_pre_omega) => `(tactic| with_reducible first | (apply u_ty; (· with_unfolding_all rfl)) | fail "no")
local macro_rules | `(tactic| decreasing_trivial_pre_omega) => `(tactic| with_reducible refine u_lc ?_)
local macro_rules | `(tactic| decreasing_trivial_pre_omega) => `(tactic| with_reducible refine u_yes ?_)
local macro_rules | `(tactic| decreasing_trivial_pre_omega) => `(tactic| with_reducible refine u_repl ?_)
local macro_rules | `(tactic| decreasing_trivial_pre_omega) => `(tactic| with_reducible refine u_pt ?_)
local macro_rules | `(tactic| decreasing_trivial_pre_omega) => `(tactic| with_reducible refine u_np ?_)
local macro_rules | `(tactic| decreasing_trivial_pre_omega) => `(tactic| with_reducible refine u_sl ?_)
local macro_rules | `(tactic| decreasing_trivial_pre_omega) => `(tactic| with_reducible refine u_isi ?_)
local macro_rules | `(tactic| decreasing_trivial_pre_omega) => `(tactic| with_reducible refine u_mt ?_)
local macro_rules | `(tactic| decreasing_trivial_pre_omega) => `(tactic| with_reducible refine u_dict1T ?_)
local macro_rules | `(tactic| decreasing_trivial_pre_omega) => `(tactic| with_reducible refine u_dict1 ?_)
local macro_rules | `(tactic| decreasing_trivial_pre_omega) => `(tactic| with_reducible refine u_dict0 ?_)
local macro_rules | `(tactic| decreasing_trivial_pre_omega) => `(tactic| with_reducible refine u_lstM ?_)
local macro_rules | `(tactic| decreasing_trivial_pre_omega) => `(tactic| with_reducible refine u_lst ?_)
local macro_rules | `(tactic| decreasing_trivial_pre_omega) => `(tactic| with_reducible refine u_tup ?_)
local macro_rules | `(tactic| decreasing_trivial_pre_omega) => `(tactic| with_reducible refine u_if ?_)
local macro_rules | `(tactic| decreasing_trivial_pre_omega) => `(tactic| with_reducible refine u_notV ?_)
local macro_rules | `(tactic| decreasing_trivial_pre_omega) => `(tactic| with_reducible refine u_orV ?_)
local macro_rules | `(tactic| decreasing_trivial_pre_omega) => `(tactic| with_reducible refine u_andV ?_)
local macro_rules | `(tactic| decreasing_trivial_pre_omega) => `(tactic| with_reducible refine u_notT ?_)
local macro_rules | `(tactic| decreasing_trivial_pre_omega) => `(tactic| with_reducible refine u_orT ?_)
local macro_rules | `(tactic| decreasing_trivial_pre_omega) => `(tactic| with_reducible refine u_andT ?_)
local macro_rules | `(tactic| decreasing_trivial_pre_omega) => `(tactic| with_reducible refine u_un ?_)
local macro_rules | `(tactic| decreasing_trivial_pre_omega) => `(tactic| with_reducible refine u_sub ?_)
local macro_rules | `(tactic| decreasing_trivial_pre_omega) => `(tactic| with_reducible refine u_augS ?_)
local macro_rules | `(tactic| decreasing_trivial_pre_omega) => `(tactic| with_reducible first | (apply u_aug; (· with_unfolding_all rfl)) | fail "no")
local macro_rules | `(tactic| decreasing_trivial_pre_omega) => `(tactic| with_reducible refine u_par ?_)
local macro_rules | `(tactic| decreasing_trivial_pre_omega) => `(tactic| with_reducible refine u_cont ?_)
local macro_rules | `(tactic| decreasing_trivial_pre_omega) => `(tactic| with_reducible refine u_break ?_)
local macro_rules | `(tactic| decreasing_trivial_pre_omega) => `(tactic| with_reducible refine u_retN ?_)
local macro_rules | `(tactic| decreasing_trivial_pre_omega) => `(tactic| with_reducible refine u_retF ?_)
local macro_rules | `(tactic| decreasing_trivial_pre_omega) => `(tactic| with_reducible refine u_drop ?_)
local macro_rules | `(tactic| decreasing_trivial_pre_omega) => `(tactic| with_reducible refine u_next ?_)
local macro_rules | `(tactic| decreasing_trivial_pre_omega) => `(tactic| with_reducible refine u_tb ?_)
local macro_rules | `(tactic| decreasing_trivial_pre_omega) => `(tactic| with_reducible refine u_ifS ?_)
local macro_rules | `(tactic| decreasing_trivial_pre_omega) => `(tactic| with_reducible refine u_ret ?_)
local macro_rules | `(tactic| decreasing_trivial_pre_omega) => `(tactic| with_reducible refine u_call ?_)
local macro_rules | `(tactic| decreasing_trivial_pre_omega) => `(tactic| with_reducible refine u_cb ?_)
local macro_rules | `(tactic| decreasing_trivial_pre_omega) => `(tactic| with_reducible refine u_nil ?_)
local macro_rules | `(tactic| decreasing_trivial_pre_omega) => `(tactic| with_reducible refine u_cons ?_)
local macro_rules | `(tactic| decreasing_trivial_pre_omega) => `(tactic| with_reducible refine u_name ?_)
local macro_rules | `(tactic| decreasing_trivial_pre_omega) => `(tactic| with_reducible refine u_asg ?_)
local macro_rules | `(tactic| decreasing_trivial_pre_omega) => `(tactic| with_reducible refine u_c ?_)
local macro_rules | `(tactic| decreasing_trivial_pre_omega) => `(tactic| with_reducible first | (apply u_var; (· with_unfolding_all rfl)) | fail "no")
local macro_rules | `(tactic| decreasing_trivial_pre_omega) => `(tactic| with_reducible refine u_op ?_)
local macro_rules | `(tactic| decreasing_trivial_pre_omega) => `(tactic| with_reducible refine u_seq' ?_)
section
def top (i : Nat) : Stmt := PySem.Challenge.pw_poleribbons_k42_tables_told.main.body.getD i (.Pass ⟨0, 0, 0, 0⟩)
theorem st_is_truth {d0 : Dat} : dstart ["thing"] [d0] = [some d0] := rfl
abbrev s_is_truth : Stmt := (top 8)
abbrev n_is_truth : List Str := ["thing"]
theorem sc_is_truth : FnScope n_is_truth ["thing"] (defScope s_is_truth) := ⟨rfl, rfl, rfl, by decide +kernel, rfl, by decide +kernel, by decide +kernel⟩
theorem st_are_bits {d0 : Dat} : dstart ["thing"] [d0] = [some d0] := rfl
abbrev s_are_bits : Stmt := (top 9)
abbrev n_are_bits : List Str := ["thing"]
theorem sc_are_bits : FnScope n_are_bits ["thing"] (defScope s_are_bits) := ⟨rfl, rfl, rfl, by decide +kernel, rfl, by decide +kernel, by decide +kernel⟩
theorem st_is_reader {d0 : Dat} : dstart ["thing"] [d0] = [some d0] := rfl
abbrev s_is_reader : Stmt := (top 10)
abbrev n_is_reader : List Str := ["thing"]
theorem sc_is_reader : FnScope n_is_reader ["thing"] (defScope s_is_reader) := ⟨rfl, rfl, rfl, by decide +kernel, rfl, by decide +kernel, by decide +kernel⟩
theorem st_are_again {d0 : Dat} : dstart ["thing"] [d0] = [some d0] := rfl
abbrev s_are_again : Stmt := (top 12)
abbrev n_are_again : List Str := ["thing"]
theorem sc_are_again : FnScope n_are_again ["thing"] (defScope s_are_again) := ⟨rfl, rfl, rfl, by decide +kernel, rfl, by decide +kernel, by decide +kernel⟩
theorem st_place_of {d0 d1 d2 : Dat} : dstart ["lead", "period", "x"] [d0, d1, d2] = [some d0, some d1, some d2] := rfl
abbrev s_place_of : Stmt := (top 13)
abbrev n_place_of : List Str := ["lead", "period", "x"]
theorem sc_place_of : FnScope n_place_of ["lead", "period", "x"] (defScope s_place_of) := ⟨rfl, rfl, rfl, by decide +kernel, rfl, by decide +kernel, by decide +kernel⟩
theorem st_bit_at {d0 d1 d2 : Dat} : dstart ["early", "again", "x"] [d0, d1, d2] = [some d0, some d1, some d2] := rfl
abbrev s_bit_at : Stmt := (top 14)
abbrev n_bit_at : List Str := ["early", "again", "x"]
theorem sc_bit_at : FnScope n_bit_at ["early", "again", "x"] (defScope s_bit_at) := ⟨rfl, rfl, rfl, by decide +kernel, rfl, by decide +kernel, by decide +kernel⟩
theorem st_joined {d0 d1 d2 : Dat} : dstart ["how", "one", "other"] [d0, d1, d2] = [some d0, some d1, some d2] := rfl
abbrev s_joined : Stmt := (top 15)
abbrev n_joined : List Str := ["how", "one", "other"]
theorem sc_joined : FnScope n_joined ["how", "one", "other"] (defScope s_joined) := ⟨rfl, rfl, rfl, by decide +kernel, rfl, by decide +kernel, by decide +kernel⟩
theorem st_digit {d0 : Dat} : dstart ["truth"] [d0] = [some d0] := rfl
abbrev s_digit : Stmt := (top 16)
abbrev n_digit : List Str := ["truth"]
theorem sc_digit : FnScope n_digit ["truth"] (defScope s_digit) := ⟨rfl, rfl, rfl, by decide +kernel, rfl, by decide +kernel, by decide +kernel⟩
theorem st_first_bits {d0 d1 d2 : Dat} : dstart ["early", "again", "many"] [d0, d1, d2] = [some d0, some d1, some d2] := rfl
abbrev s_first_bits : Stmt := (top 18)
abbrev n_first_bits : List Str := ["early", "again", "many"]
theorem sc_first_bits : FnScope n_first_bits ["early", "again", "many"] (defScope s_first_bits) := ⟨rfl, rfl, rfl, by decide +kernel, rfl, by decide +kernel, by decide +kernel⟩
theorem st_bits_from {d0 d1 d2 d3 : Dat} : dstart ["early", "again", "start", "many", "place"] [d0, d1, d2, d3] = [some d0, some d1, some d2, some d3, none] := rfl
abbrev s_bits_from : Stmt := (top 19)
abbrev n_bits_from : List Str := ["early", "again", "start", "many", "place"]
theorem sc_bits_from : FnScope n_bits_from ["early", "again", "start", "many"] (defScope s_bits_from) := ⟨rfl, rfl, rfl, by decide +kernel, rfl, by decide +kernel, by decide +kernel⟩
theorem st_joined_word {d0 d1 d2 : Dat} : dstart ["how", "one", "other", "lead", "many", "first", "second", "bits", "a", "b"] [d0, d1, d2] = [some d0, some d1, some d2, none, none, none, none, none, none, none] := rfl
abbrev s_joined_word : Stmt := (top 22)
abbrev n_joined_word : List Str := ["how", "one", "other", "lead", "many", "first", "second", "bits", "a", "b"]
theorem sc_joined_word : FnScope n_joined_word ["how", "one", "other"] (defScope s_joined_word) := ⟨rfl, rfl, rfl, by decide +kernel, rfl, by decide +kernel, by decide +kernel⟩
theorem st_are_parts {d0 : Dat} : dstart ["thing", "head"] [d0] = [some d0, none] := rfl
abbrev s_are_parts : Stmt := (top 26)
abbrev n_are_parts : List Str := ["thing", "head"]
theorem sc_are_parts : FnScope n_are_parts ["thing"] (defScope s_are_parts) := ⟨rfl, rfl, rfl, by decide +kernel, rfl, by decide +kernel, by decide +kernel⟩
theorem st_inner {d0 : Dat} : dstart ["parts", "part"] [d0] = [some d0, none] := rfl
abbrev s_inner : Stmt := (top 27)
abbrev n_inner : List Str := ["parts", "part"]
theorem sc_inner : FnScope n_inner ["parts"] (defScope s_inner) := ⟨rfl, rfl, rfl, by decide +kernel, rfl, by decide +kernel, by decide +kernel⟩
theorem st_written {d0 : Dat} : dstart ["parts", "part", "word"] [d0] = [some d0, none, none] := rfl
abbrev s_written : Stmt := (top 28)
abbrev n_written : List Str := ["parts", "part", "word"]
theorem sc_written : FnScope n_written ["parts"] (defScope s_written) := ⟨rfl, rfl, rfl, by decide +kernel, rfl, by decide +kernel, by decide +kernel⟩
theorem st_numbers_at {d0 d1 d2 d3 d4 : Dat} : dstart ["r", "i", "j", "suns", "moons"] [d0, d1, d2, d3, d4] = [some d0, some d1, some d2, some d3, some d4] := rfl
abbrev s_numbers_at : Stmt := (top 30)
abbrev n_numbers_at : List Str := ["r", "i", "j", "suns", "moons"]
theorem sc_numbers_at : FnScope n_numbers_at ["r", "i", "j", "suns", "moons"] (defScope s_numbers_at) := ⟨rfl, rfl, rfl, by decide +kernel, rfl, by decide +kernel, by decide +kernel⟩
theorem st_told {d0 d1 : Dat} : dstart ["parts", "numbers", "head"] [d0, d1] = [some d0, some d1, none] := rfl
abbrev s_told : Stmt := (top 31)
abbrev n_told : List Str := ["parts", "numbers", "head"]
theorem sc_told : FnScope n_told ["parts", "numbers"] (defScope s_told) := ⟨rfl, rfl, rfl, by decide +kernel, rfl, by decide +kernel, by decide +kernel⟩
theorem st_Rule___init__ {d0 d1 : Dat} : dstart ["self", "parts", "lead", "period", "_", "early", "again"] [d0, d1] = [some d0, some d1, none, none, none, none, none] := rfl
abbrev s_Rule___init__ : Stmt := (inClass (top 32) 0)
abbrev n_Rule___init__ : List Str := ["self", "parts", "lead", "period", "_", "early", "again"]
theorem sc_Rule___init__ : FnScope n_Rule___init__ ["self", "parts"] (defScope s_Rule___init__) := ⟨rfl, rfl, rfl, by decide +kernel, rfl, by decide +kernel, by decide +kernel⟩
theorem st_Rule_of {d0 : Dat} : dstart ["parts"] [d0] = [some d0] := rfl
abbrev s_Rule_of : Stmt := (inClass (top 32) 3)
abbrev n_Rule_of : List Str := ["parts"]
theorem sc_Rule_of : FnScope n_Rule_of ["parts"] (defScope s_Rule_of) := ⟨rfl, rfl, rfl, by decide +kernel, rfl, by decide +kernel, by decide +kernel⟩
theorem st_Rule_lead {d0 : Dat} : dstart ["self"] [d0] = [some d0] := rfl
abbrev s_Rule_lead : Stmt := (inClass (top 32) 4)
abbrev n_Rule_lead : List Str := ["self"]
theorem sc_Rule_lead : FnScope n_Rule_lead ["self"] (defScope s_Rule_lead) := ⟨rfl, rfl, rfl, by decide +kernel, rfl, by decide +kernel, by decide +kernel⟩
theorem st_Rule_period {d0 : Dat} : dstart ["self"] [d0] = [some d0] := rfl
abbrev s_Rule_period : Stmt := (inClass (top 32) 5)
abbrev n_Rule_period : List Str := ["self"]
theorem sc_Rule_period : FnScope n_Rule_period ["self"] (defScope s_Rule_period) := ⟨rfl, rfl, rfl, by decide +kernel, rfl, by decide +kernel, by decide +kernel⟩
theorem st_Rule_parts {d0 : Dat} : dstart ["self"] [d0] = [some d0] := rfl
abbrev s_Rule_parts : Stmt := (inClass (top 32) 12)
abbrev n_Rule_parts : List Str := ["self"]
theorem sc_Rule_parts : FnScope n_Rule_parts ["self"] (defScope s_Rule_parts) := ⟨rfl, rfl, rfl, by decide +kernel, rfl, by decide +kernel, by decide +kernel⟩
theorem st_word_grid {d0 d1 d2 d3 : Dat} : dstart ["written", "starts", "rows", "columns", "reader", "early", "again", "start", "bit"] [d0, d1, d2, d3] = [some d0, some d1, some d2, some d3, none, none, none, none, none] := rfl
abbrev s_word_grid : Stmt := (top 35)
abbrev n_word_grid : List Str := ["written", "starts", "rows", "columns", "reader", "early", "again", "start", "bit"]
theorem sc_word_grid : FnScope n_word_grid ["written", "starts", "rows", "columns"] (defScope s_word_grid) := ⟨rfl, rfl, rfl, by decide +kernel, rfl, by decide +kernel, by decide +kernel⟩
theorem st_number_of_grid {d0 d1 d2 d3 : Dat} : dstart ["parts", "starts", "rows", "columns", "head", "full", "one"] [d0, d1, d2, d3] = [some d0, some d1, some d2, some d3, none, none, none] := rfl
abbrev s_number_of_grid : Stmt := (top 36)
abbrev n_number_of_grid : List Str := ["parts", "starts", "rows", "columns", "head", "full", "one"]
theorem sc_number_of_grid : FnScope n_number_of_grid ["parts", "starts", "rows", "columns"] (defScope s_number_of_grid) := ⟨rfl, rfl, rfl, by decide +kernel, rfl, by decide +kernel, by decide +kernel⟩
theorem st_grid {d0 d1 d2 d3 d4 d5 : Dat} : dstart ["rule", "r", "suns", "moons", "rows", "columns", "number"] [d0, d1, d2, d3, d4, d5] = [some d0, some d1, some d2, some d3, some d4, some d5, none] := rfl
abbrev s_grid : Stmt := (top 37)
abbrev n_grid : List Str := ["rule", "r", "suns", "moons", "rows", "columns", "number"]
theorem sc_grid : FnScope n_grid ["rule", "r", "suns", "moons", "rows", "columns"] (defScope s_grid) := ⟨rfl, rfl, rfl, by decide +kernel, rfl, by decide +kernel, by decide +kernel⟩
theorem st_class_of {d0 d1 : Dat} : dstart ["rule", "number"] [d0, d1] = [some d0, some d1] := rfl
abbrev s_class_of : Stmt := (top 39)
abbrev n_class_of : List Str := ["rule", "number"]
theorem sc_class_of : FnScope n_class_of ["rule", "number"] (defScope s_class_of) := ⟨rfl, rfl, rfl, by decide +kernel, rfl, by decide +kernel, by decide +kernel⟩
theorem st_classes {d0 d1 : Dat} : dstart ["rule", "many"] [d0, d1] = [some d0, some d1] := rfl
abbrev s_classes : Stmt := (top 40)
abbrev n_classes : List Str := ["rule", "many"]
theorem sc_classes : FnScope n_classes ["rule", "many"] (defScope s_classes) := ⟨rfl, rfl, rfl, by decide +kernel, rfl, by decide +kernel, by decide +kernel⟩
theorem st_fellow_number {d0 d1 : Dat} : dstart ["rule", "many"] [d0, d1] = [some d0, some d1] := rfl
abbrev s_fellow_number : Stmt := (top 41)
abbrev n_fellow_number : List Str := ["rule", "many"]
theorem sc_fellow_number : FnScope n_fellow_number ["rule", "many"] (defScope s_fellow_number) := ⟨rfl, rfl, rfl, by decide +kernel, rfl, by decide +kernel, by decide +kernel⟩
theorem st_fellow {d0 d1 d2 d3 : Dat} : dstart ["rule", "suns", "moons", "rounds"] [d0, d1, d2, d3] = [some d0, some d1, some d2, some d3] := rfl
abbrev s_fellow : Stmt := (top 42)
abbrev n_fellow : List Str := ["rule", "suns", "moons", "rounds"]
theorem sc_fellow : FnScope n_fellow ["rule", "suns", "moons", "rounds"] (defScope s_fellow) := ⟨rfl, rfl, rfl, by decide +kernel, rfl, by decide +kernel, by decide +kernel⟩
theorem st_class_crossings {d0 d1 d2 d3 : Dat} : dstart ["rule", "suns", "moons", "rounds", "rows", "columns", "grids", "r", "k", "l", "bits"] [d0, d1, d2, d3] = [some d0, some d1, some d2, some d3, none, none, none, none, none, none, none] := rfl
abbrev s_class_crossings : Stmt := (top 43)
abbrev n_class_crossings : List Str := ["rule", "suns", "moons", "rounds", "rows", "columns", "grids", "r", "k", "l", "bits"]
theorem sc_class_crossings : FnScope n_class_crossings ["rule", "suns", "moons", "rounds"] (defScope s_class_crossings) := ⟨rfl, rfl, rfl, by decide +kernel, rfl, by decide +kernel, by decide +kernel⟩
theorem st_table {d0 d1 d2 d3 : Dat} : dstart ["rule", "suns", "moons", "rounds", "laid", "pair", "text"] [d0, d1, d2, d3] = [some d0, some d1, some d2, some d3, none, none, none] := rfl
abbrev s_table : Stmt := (top 44)
abbrev n_table : List Str := ["rule", "suns", "moons", "rounds", "laid", "pair", "text"]
theorem sc_table : FnScope n_table ["rule", "suns", "moons", "rounds"] (defScope s_table) := ⟨rfl, rfl, rfl, by decide +kernel, rfl, by decide +kernel, by decide +kernel⟩
theorem st_l_bag {d0 : Dat} : dstart ["_law_script", "_law_cell"] [d0] = [some d0, none] := rfl
abbrev s_l_bag : Stmt := (top 46)
abbrev n_l_bag : List Str := ["_law_script", "_law_cell"]
theorem sc_l_bag : FnScope n_l_bag ["_law_script"] (defScope s_l_bag) := ⟨rfl, rfl, rfl, by decide +kernel, rfl, by decide +kernel, by decide +kernel⟩
theorem st_l_take {d0 d1 : Dat} : dstart ["_law_bag_here", "_law_many", "_law_cell", "_law_mixed", "_law_value", "_law_begin", "_law_second"] [d0, d1] = [some d0, some d1, none, none, none, none, none] := rfl
abbrev s_l_take : Stmt := (top 47)
abbrev n_l_take : List Str := ["_law_bag_here", "_law_many", "_law_cell", "_law_mixed", "_law_value", "_law_begin", "_law_second"]
theorem sc_l_take : FnScope n_l_take ["_law_bag_here", "_law_many"] (defScope s_l_take) := ⟨rfl, rfl, rfl, by decide +kernel, rfl, by decide +kernel, by decide +kernel⟩
theorem st_l_alike {d0 d1 : Dat} : dstart ["_law_found", "_law_due_here"] [d0, d1] = [some d0, some d1] := rfl
abbrev s_l_alike : Stmt := (top 48)
abbrev n_l_alike : List Str := ["_law_found", "_law_due_here"]
theorem sc_l_alike : FnScope n_l_alike ["_law_found", "_law_due_here"] (defScope s_l_alike) := ⟨rfl, rfl, rfl, by decide +kernel, rfl, by decide +kernel, by decide +kernel⟩
theorem st_l_pick {d0 d1 : Dat} : dstart ["_law_bag_here", "_law_things"] [d0, d1] = [some d0, some d1] := rfl
abbrev s_l_pick : Stmt := (top 49)
abbrev n_l_pick : List Str := ["_law_bag_here", "_law_things"]
theorem sc_l_pick : FnScope n_l_pick ["_law_bag_here", "_law_things"] (defScope s_l_pick) := ⟨rfl, rfl, rfl, by decide +kernel, rfl, by decide +kernel, by decide +kernel⟩
theorem st_l_parts {d0 d1 d2 d3 : Dat} : dstart ["_law_bag_here", "_law_deep", "_law_lead", "_law_periods", "_law_way", "_law_one", "_law_other", "_law_early", "_law_again", "_law_k"] [d0, d1, d2, d3] = [some d0, some d1, some d2, some d3, none, none, none, none, none, none] := rfl
abbrev s_l_parts : Stmt := (top 50)
abbrev n_l_parts : List Str := ["_law_bag_here", "_law_deep", "_law_lead", "_law_periods", "_law_way", "_law_one", "_law_other", "_law_early", "_law_again", "_law_k"]
theorem sc_l_parts : FnScope n_l_parts ["_law_bag_here", "_law_deep", "_law_lead", "_law_periods"] (defScope s_l_parts) := ⟨rfl, rfl, rfl, by decide +kernel, rfl, by decide +kernel, by decide +kernel⟩
theorem st_l_drawn_parts {d0 d1 d2 : Dat} : dstart ["_law_bag_here", "_law_lead", "_law_periods", "_law_parts_here", "_law_k"] [d0, d1, d2] = [some d0, some d1, some d2, none, none] := rfl
abbrev s_l_drawn_parts : Stmt := (top 51)
abbrev n_l_drawn_parts : List Str := ["_law_bag_here", "_law_lead", "_law_periods", "_law_parts_here", "_law_k"]
theorem sc_l_drawn_parts : FnScope n_l_drawn_parts ["_law_bag_here", "_law_lead", "_law_periods"] (defScope s_l_drawn_parts) := ⟨rfl, rfl, rfl, by decide +kernel, rfl, by decide +kernel, by decide +kernel⟩
theorem st_l_small_parts {d0 : Dat} : dstart ["_law_bag_here", "_law_periods"] [d0] = [some d0, none] := rfl
abbrev s_l_small_parts : Stmt := (top 52)
abbrev n_l_small_parts : List Str := ["_law_bag_here", "_law_periods"]
theorem sc_l_small_parts : FnScope n_l_small_parts ["_law_bag_here"] (defScope s_l_small_parts) := ⟨rfl, rfl, rfl, by decide +kernel, rfl, by decide +kernel, by decide +kernel⟩
theorem st_l_leaves {d0 : Dat} : dstart ["_law_parts_here", "_law_part"] [d0] = [some d0, none] := rfl
abbrev s_l_leaves : Stmt := (top 53)
abbrev n_l_leaves : List Str := ["_law_parts_here", "_law_part"]
theorem sc_l_leaves : FnScope n_l_leaves ["_law_parts_here"] (defScope s_l_leaves) := ⟨rfl, rfl, rfl, by decide +kernel, rfl, by decide +kernel, by decide +kernel⟩
theorem st_l_reach {d0 : Dat} : dstart ["_law_parts_here", "_law_words", "_law_period", "_law_word"] [d0] = [some d0, none, none, none] := rfl
abbrev s_l_reach : Stmt := (top 54)
abbrev n_l_reach : List Str := ["_law_parts_here", "_law_words", "_law_period", "_law_word"]
theorem sc_l_reach : FnScope n_l_reach ["_law_parts_here"] (defScope s_l_reach) := ⟨rfl, rfl, rfl, by decide +kernel, rfl, by decide +kernel, by decide +kernel⟩
theorem st_l_bit {d0 d1 : Dat} : dstart ["_law_word", "_law_x", "_law_early", "_law_again"] [d0, d1] = [some d0, some d1, none, none] := rfl
abbrev s_l_bit : Stmt := (top 55)
abbrev n_l_bit : List Str := ["_law_word", "_law_x", "_law_early", "_law_again"]
theorem sc_l_bit : FnScope n_l_bit ["_law_word", "_law_x"] (defScope s_l_bit) := ⟨rfl, rfl, rfl, by decide +kernel, rfl, by decide +kernel, by decide +kernel⟩
theorem st_l_truth {d0 d1 d2 d3 d4 d5 : Dat} : dstart ["_law_parts_here", "_law_r", "_law_i", "_law_j", "_law_n", "_law_m", "_law_some", "_law_numbers", "_law_part"] [d0, d1, d2, d3, d4, d5] = [some d0, some d1, some d2, some d3, some d4, some d5, none, none, none] := rfl
abbrev s_l_truth : Stmt := (top 56)
abbrev n_l_truth : List Str := ["_law_parts_here", "_law_r", "_law_i", "_law_j", "_law_n", "_law_m", "_law_some", "_law_numbers", "_law_part"]
theorem sc_l_truth : FnScope n_l_truth ["_law_parts_here", "_law_r", "_law_i", "_law_j", "_law_n", "_law_m"] (defScope s_l_truth) := ⟨rfl, rfl, rfl, by decide +kernel, rfl, by decide +kernel, by decide +kernel⟩
theorem st_l_long {d0 : Dat} : dstart ["_law_bag_here"] [d0] = [some d0] := rfl
abbrev s_l_long : Stmt := (top 57)
abbrev n_l_long : List Str := ["_law_bag_here"]
theorem sc_l_long : FnScope n_l_long ["_law_bag_here"] (defScope s_l_long) := ⟨rfl, rfl, rfl, by decide +kernel, rfl, by decide +kernel, by decide +kernel⟩
theorem st_l_class {d0 d1 : Dat} : dstart ["_law_reach_here", "_law_x"] [d0, d1] = [some d0, some d1] := rfl
abbrev s_l_class : Stmt := (top 58)
abbrev n_l_class : List Str := ["_law_reach_here", "_law_x"]
theorem sc_l_class : FnScope n_l_class ["_law_reach_here", "_law_x"] (defScope s_l_class) := ⟨rfl, rfl, rfl, by decide +kernel, rfl, by decide +kernel, by decide +kernel⟩
theorem st_l_due {d0 d1 d2 : Dat} : dstart ["_law_parts_here", "_law_reach_here", "_law_numbers", "_law_n", "_law_m", "_law_last", "_law_found", "_law_i", "_law_j", "_law_some", "_law_key", "_law_told", "_law_r"] [d0, d1, d2] = [some d0, some d1, some d2, none, none, none, none, none, none, none, none, none, none] := rfl
abbrev s_l_due : Stmt := (top 59)
abbrev n_l_due : List Str := ["_law_parts_here", "_law_reach_here", "_law_numbers", "_law_n", "_law_m", "_law_last", "_law_found", "_law_i", "_law_j", "_law_some", "_law_key", "_law_told", "_law_r"]
theorem sc_l_due : FnScope n_l_due ["_law_parts_here", "_law_reach_here", "_law_numbers"] (defScope s_l_due) := ⟨rfl, rfl, rfl, by decide +kernel, rfl, by decide +kernel, by decide +kernel⟩
theorem st_law {d0 : Dat} : dstart ["_law_script", "_law_bag_here", "_law_turn", "_law_parts_here", "_law_rule", "_law_reach_here", "_law_numbers", "_law_due_here", "_law_again", "_law_found", "_law_great", "_law_less", "_law_top", "_law_k"] [d0] = [some d0, none, none, none, none, none, none, none, none, none, none, none, none, none] := rfl
abbrev s_law : Stmt := (top 60)
abbrev n_law : List Str := ["_law_script", "_law_bag_here", "_law_turn", "_law_parts_here", "_law_rule", "_law_reach_here", "_law_numbers", "_law_due_here", "_law_again", "_law_found", "_law_great", "_law_less", "_law_top", "_law_k"]
theorem sc_law : FnScope n_law ["_law_script"] (defScope s_law) := ⟨rfl, rfl, rfl, by decide +kernel, rfl, by decide +kernel, by decide +kernel⟩
structure Txt (K : PySem.W.Frag) (mg : Str → Option Value) where
  f_is_truth : Addr
  a_is_truth : At K mg "is_truth" "is_truth" s_is_truth ["thing"] f_is_truth
  f_are_bits : Addr
  a_are_bits : At K mg "are_bits" "are_bits" s_are_bits ["thing"] f_are_bits
  f_is_reader : Addr
  a_is_reader : At K mg "is_reader" "is_reader" s_is_reader ["thing"] f_is_reader
  f_are_again : Addr
  a_are_again : At K mg "are_again" "are_again" s_are_again ["thing"] f_are_again
  f_place_of : Addr
  a_place_of : At K mg "place_of" "place_of" s_place_of ["lead", "period", "x"] f_place_of
  f_bit_at : Addr
  a_bit_at : At K mg "bit_at" "bit_at" s_bit_at ["early", "again", "x"] f_bit_at
  f_joined : Addr
  a_joined : At K mg "joined" "joined" s_joined ["how", "one", "other"] f_joined
  f_digit : Addr
  a_digit : At K mg "_digit" "_digit" s_digit ["truth"] f_digit
  f_first_bits : Addr
  a_first_bits : At K mg "_first_bits" "_first_bits" s_first_bits ["early", "again", "many"] f_first_bits
  f_bits_from : Addr
  a_bits_from : At K mg "bits_from" "bits_from" s_bits_from ["early", "again", "start", "many"] f_bits_from
  f_joined_word : Addr
  a_joined_word : At K mg "_joined_word" "_joined_word" s_joined_word ["how", "one", "other"] f_joined_word
  f_are_parts : Addr
  a_are_parts : At K mg "are_parts" "are_parts" s_are_parts ["thing"] f_are_parts
  f_inner : Addr
  a_inner : At K mg "_inner" "_inner" s_inner ["parts"] f_inner
  f_written : Addr
  a_written : At K mg "_written" "_written" s_written ["parts"] f_written
  f_numbers_at : Addr
  a_numbers_at : At K mg "numbers_at" "numbers_at" s_numbers_at ["r", "i", "j", "suns", "moons"] f_numbers_at
  f_told : Addr
  a_told : At K mg "_told" "_told" s_told ["parts", "numbers"] f_told
  f_Rule___init__ : Addr
  a_Rule___init__ : FnAt K "__init__" "Rule.__init__" s_Rule___init__ ["self", "parts"] f_Rule___init__
  f_Rule_of : Addr
  a_Rule_of : FnAt K "of" "Rule.of" s_Rule_of ["parts"] f_Rule_of
  f_Rule_lead : Addr
  a_Rule_lead : FnAt K "lead" "Rule.lead" s_Rule_lead ["self"] f_Rule_lead
  f_Rule_period : Addr
  a_Rule_period : FnAt K "period" "Rule.period" s_Rule_period ["self"] f_Rule_period
  f_Rule_parts : Addr
  a_Rule_parts : FnAt K "parts" "Rule.parts" s_Rule_parts ["self"] f_Rule_parts
  f_word_grid : Addr
  a_word_grid : At K mg "_word_grid" "_word_grid" s_word_grid ["written", "starts", "rows", "columns"] f_word_grid
  f_number_of_grid : Addr
  a_number_of_grid : At K mg "_number_of_grid" "_number_of_grid" s_number_of_grid ["parts", "starts", "rows", "columns"] f_number_of_grid
  f_grid : Addr
  a_grid : At K mg "grid" "grid" s_grid ["rule", "r", "suns", "moons", "rows", "columns"] f_grid
  f_class_of : Addr
  a_class_of : At K mg "class_of" "class_of" s_class_of ["rule", "number"] f_class_of
  f_classes : Addr
  a_classes : At K mg "classes" "classes" s_classes ["rule", "many"] f_classes
  f_fellow_number : Addr
  a_fellow_number : At K mg "_fellow_number" "_fellow_number" s_fellow_number ["rule", "many"] f_fellow_number
  f_fellow : Addr
  a_fellow : At K mg "fellow" "fellow" s_fellow ["rule", "suns", "moons", "rounds"] f_fellow
  f_class_crossings : Addr
  a_class_crossings : At K mg "class_crossings" "class_crossings" s_class_crossings ["rule", "suns", "moons", "rounds"] f_class_crossings
  f_table : Addr
  a_table : At K mg "table" "table" s_table ["rule", "suns", "moons", "rounds"] f_table
  f_l_bag : Addr
  a_l_bag : At K mg "_law_bag" "_law_bag" s_l_bag ["_law_script"] f_l_bag
  f_l_take : Addr
  a_l_take : At K mg "_law_take" "_law_take" s_l_take ["_law_bag_here", "_law_many"] f_l_take
  f_l_alike : Addr
  a_l_alike : At K mg "_law_alike" "_law_alike" s_l_alike ["_law_found", "_law_due_here"] f_l_alike
  f_l_pick : Addr
  a_l_pick : At K mg "_law_pick" "_law_pick" s_l_pick ["_law_bag_here", "_law_things"] f_l_pick
  f_l_parts : Addr
  a_l_parts : At K mg "_law_parts" "_law_parts" s_l_parts ["_law_bag_here", "_law_deep", "_law_lead", "_law_periods"] f_l_parts
  f_l_drawn_parts : Addr
  a_l_drawn_parts : At K mg "_law_drawn_parts" "_law_drawn_parts" s_l_drawn_parts ["_law_bag_here", "_law_lead", "_law_periods"] f_l_drawn_parts
  f_l_small_parts : Addr
  a_l_small_parts : At K mg "_law_small_parts" "_law_small_parts" s_l_small_parts ["_law_bag_here"] f_l_small_parts
  f_l_leaves : Addr
  a_l_leaves : At K mg "_law_leaves" "_law_leaves" s_l_leaves ["_law_parts_here"] f_l_leaves
  f_l_reach : Addr
  a_l_reach : At K mg "_law_reach" "_law_reach" s_l_reach ["_law_parts_here"] f_l_reach
  f_l_bit : Addr
  a_l_bit : At K mg "_law_bit" "_law_bit" s_l_bit ["_law_word", "_law_x"] f_l_bit
  f_l_truth : Addr
  a_l_truth : At K mg "_law_truth" "_law_truth" s_l_truth ["_law_parts_here", "_law_r", "_law_i", "_law_j", "_law_n", "_law_m"] f_l_truth
  f_l_long : Addr
  a_l_long : At K mg "_law_long" "_law_long" s_l_long ["_law_bag_here"] f_l_long
  f_l_class : Addr
  a_l_class : At K mg "_law_class" "_law_class" s_l_class ["_law_reach_here", "_law_x"] f_l_class
  f_l_due : Addr
  a_l_due : At K mg "_law_due" "_law_due" s_l_due ["_law_parts_here", "_law_reach_here", "_law_numbers"] f_l_due
  f_law : Addr
  a_law : At K mg "law" "law" s_law ["_law_script"] f_law
  C_Rule : Addr
  cl_Rule : Cls K C_Rule
  mg_Rule : mg "Rule" = some (.ref C_Rule)
  mk_Rule : Mk K C_Rule f_Rule___init__
  nk_Rule__lead : NoAttr K C_Rule "_lead"
  nk_Rule__parts : NoAttr K C_Rule "_parts"
  nk_Rule__period : NoAttr K C_Rule "_period"
  p_Rule_lead : Addr
  pr_Rule_lead : PropOf K C_Rule "lead" p_Rule_lead f_Rule_lead
  p_Rule_period : Addr
  pr_Rule_period : PropOf K C_Rule "period" p_Rule_period f_Rule_period
  sm_Rule_of : SMet K C_Rule "of" f_Rule_of
  me_Rule_parts : Meth K C_Rule "parts" f_Rule_parts
  z_abs : mg "abs" = none
  z_bool : mg "bool" = none
  z_dict : mg "dict" = none
  z_int : mg "int" = none
  z_isinstance : mg "isinstance" = none
  b_lcm : mg "lcm" = some (.builtin "math.lcm")
  z_len : mg "len" = none
  z_list : mg "list" = none
  z_max : mg "max" = none
  z_min : mg "min" = none
  z_range : mg "range" = none
  z_repr : mg "repr" = none
  z_sorted : mg "sorted" = none
  z_str : mg "str" = none
  z_sum : mg "sum" = none
  z_tuple : mg "tuple" = none
  o_READERS : Addr
  m_READERS : mg "READERS" = some (.ref o_READERS)
  d_READERS : ∀ W, D K W (.ref o_READERS) (.ktp ((["turns", "others", "rounds", "suns", "moons"] : List Str).map .str))
  o_JOINS : Addr
  m_JOINS : mg "JOINS" = some (.ref o_JOINS)
  d_JOINS : ∀ W, D K W (.ref o_JOINS) (.ktp ((["and", "or", "unlike"] : List Str).map .str))
  o_READ_BY_MOON : Addr
  m_READ_BY_MOON : mg "READ_BY_MOON" = some (.ref o_READ_BY_MOON)
  d_READ_BY_MOON : ∀ W, D K W (.ref o_READ_BY_MOON) (.ktp ((["turns", "moons"] : List Str).map .str))

end
section
local macro_rules | `(tactic| decreasing_trivial_pre_omega) => `(tactic| with_reducible first | (apply p_methO; (· with_unfolding_all rfl)) | fail "no")
local macro_rules | `(tactic| decreasing_trivial_pre_omega) => `(tactic| with_reducible refine p_insO ?_)
local macro_rules | `(tactic| decreasing_trivial_pre_omega) => `(tactic| with_reducible refine p_srcS ?_)
local macro_rules | `(tactic| decreasing_trivial_pre_omega) => `(tactic| with_reducible refine p_srcL ?_)
local macro_rules | `(tactic| decreasing_trivial_pre_omega) => `(tactic| with_reducible refine p_srcT ?_)
local macro_rules | `(tactic| decreasing_trivial_pre_omega) => `(tactic| with_reducible refine u_any ?_)
local macro_rules | `(tactic| decreasing_trivial_pre_omega) => `(tactic| with_reducible refine p_min ?_)
local macro_rules | `(tactic| decreasing_trivial_pre_omega) => `(tactic| with_reducible refine p_max ?_)
local macro_rules | `(tactic| decreasing_trivial_pre_omega) => `(tactic| with_reducible refine p_own1 ?_)
local macro_rules | `(tactic| decreasing_trivial_pre_omega) => `(tactic| with_reducible refine p_own ?_)
local macro_rules | `(tactic| decreasing_trivial_pre_omega) => `(tactic| with_reducible first | (apply p_setF; (· assumption); (· with_unfolding_all exact Nat.le_of_ble_eq_true rfl)) | fail "no")
local macro_rules | `(tactic| decreasing_trivial_pre_omega) => `(tactic| with_reducible first | (apply p_setF'; (· with_unfolding_all exact Nat.le_of_ble_eq_true rfl)) | fail "no")
local macro_rules | `(tactic| decreasing_trivial_pre_omega) => `(tactic| with_reducible refine u_setF ?_)
local macro_rules | `(tactic| decreasing_trivial_pre_omega) => `(tactic| with_reducible refine u_make ?_)
local macro_rules | `(tactic| decreasing_trivial_pre_omega) => `(tactic| with_reducible refine u_meth ?_)
local macro_rules | `(tactic| decreasing_trivial_pre_omega) => `(tactic| with_reducible refine u_prop ?_)
local macro_rules | `(tactic| decreasing_trivial_pre_omega) => `(tactic| with_reducible first | (apply p_fldR; (· first | exact DL.Mu.set_same _ _ _ | assumption); (· with_unfolding_all rfl)) | fail "no")
local macro_rules | `(tactic| decreasing_trivial_pre_omega) => `(tactic| with_reducible first | (apply p_fldO; (· with_unfolding_all rfl)) | fail "no")
local macro_rules | `(tactic| decreasing_trivial_pre_omega) => `(tactic| with_reducible refine u_fld ?_)
local macro_rules | `(tactic| decreasing_trivial_pre_omega) => `(tactic| with_reducible refine u_callI ?_)
local macro_rules | `(tactic| decreasing_trivial_pre_omega) => `(tactic| with_reducible refine p_isiO ?_)
local macro_rules | `(tactic| decreasing_trivial_pre_omega) => `(tactic| with_reducible refine u_isiO ?_)
local macro_rules | `(tactic| decreasing_trivial_pre_omega) => `(tactic| with_reducible refine p_dgn ?_)
local macro_rules | `(tactic| decreasing_trivial_pre_omega) => `(tactic| with_reducible refine p_dgc ?_)
local macro_rules | `(tactic| decreasing_trivial_pre_omega) => `(tactic| with_reducible first | (apply p_dgL; (· with_unfolding_all rfl)) | fail "no")
local macro_rules | `(tactic| decreasing_trivial_pre_omega) => `(tactic| with_reducible first | (apply p_dgT; (· with_unfolding_all rfl)) | fail "no")
local macro_rules | `(tactic| decreasing_trivial_pre_omega) => `(tactic| with_reducible refine p_par ?_)
local macro_rules | `(tactic| decreasing_trivial_pre_omega) => `(tactic| with_reducible refine p_ends ?_)
local macro_rules | `(tactic| decreasing_trivial_pre_omega) => `(tactic| with_reducible refine u_for ?_)
local macro_rules | `(tactic| decreasing_trivial_pre_omega) => `(tactic| with_reducible first | (apply p_mulS'; (· omega); (· omega); (· omega)) | fail "no")
local macro_rules | `(tactic| decreasing_trivial_pre_omega) => `(tactic| with_reducible first | (apply p_fdiv; (· omega); (· exact log_small (by omega) (by omega))) | fail "no")

/-! ### words -/
def bits01 (s : Str) : Bool := (Txt.count s "0" + Txt.count s "1" == (s.length : Int))
def wordFs (e a : Str) : List (Str × Dat) := [("_early", .str e), ("_again", .str a)]
def WordD (C : Addr) (e a : Str) : Dat := .obj C (wordFs e a)
structure WOk (e a : Str) : Prop where
  be : bits01 e = true
  ba : bits01 a = true
  na : 1 ≤ Str.length a
  le : Str.length e ≤ 600
  la : Str.length a ≤ 600
theorem ne_empty {s : Str} (h : 1 ≤ s.length) : (s == Str.ofString "") = false := by
  rw [beq_eq_false_iff_ne]
  rintro rfl
  exact absurd h (by decide)
def spBits : DL.Spec := fun ds m F _ => ds.length = 1 ∧ ∃ s : Str, ds = [.str s] ∧ s.length ≤ 1000 ∧ F (.bl (bits01 s)) m
def spAgain : DL.Spec := fun ds m F _ => ds.length = 1 ∧ ∃ s : Str, ds = [.str s] ∧ s.length ≤ 1000 ∧ bits01 s = true ∧ 1 ≤ s.length ∧ F (.bl true) m
def spWInit (C : Addr) : DL.Spec := fun ds m F _ => ds.length = 3 ∧ ∃ n e a, ds = [.ref n, .str e, .str a] ∧ m n = some (.ins C []) ∧ WOk e a ∧ F .non (m.set n (.ins C (wordFs e a)))
def spGet (C : Addr) (f : Str → Str → Dat) : DL.Spec := fun ds m F _ => ds.length = 1 ∧ ∃ e a, ds = [WordD C e a] ∧ WOk e a ∧ F (f e a) m
theorem c_bits {s : Str} {m : Mu} {F : KD} {Z : KX} (hs : s.length ≤ 1000) (h : F (.bl (bits01 s)) m) : spBits [.str s] m F Z := ⟨rfl, s, rfl, hs, h⟩
theorem c_again {s : Str} {m : Mu} {F : KD} {Z : KX} (hs : s.length ≤ 1000) (hb : bits01 s = true) (hn : 1 ≤ s.length) (h : F (.bl true) m) : spAgain [.str s] m F Z := ⟨rfl, s, rfl, hs, hb, hn, h⟩
theorem c_get {C : Addr} {f : Str → Str → Dat} {e a : Str} {m : Mu} {F : KD} {Z : KX} (hw : WOk e a) (h : F (f e a) m) : spGet C f [.obj C (wordFs e a)] m F Z := ⟨rfl, e, a, rfl, hw, h⟩
theorem ok_are_bits (T : Txt K mg) : DO P wd K mg base 1 T.f_are_bits ["thing"] spBits :=
  dfo T.a_are_bits.fn sc_are_bits (fun ds m F Z h => h.1) fun cdv A outer s H E ds m G Z hr hB h => ⟨_, (dss_one (ds_ret (de_and (de_isi (T := "str") (by decide) (by rfl) T.z_isinstance (by decide +kernel) (by rfl) T.z_str (by decide +kernel) (dv 0)) (de_one (de_cmp (o_eq hr.units) (de_op o_add (de_mt PySem.F.plainAttrs_str PySem.F.slot_str_count PySem.F.type_str_count m_countS (dv 0) (da_cons de_str da_nil)) (de_mt PySem.F.plainAttrs_str PySem.F.slot_str_count PySem.F.type_str_count m_countS (dv 0) (da_cons de_str da_nil))) (de_callB c_len (by rfl) T.z_len (by decide +kernel) (da_cons (dv 0) da_nil)) (by rfl)))))), by
    rcases h with ⟨hlen, h⟩
    obtain ⟨s, rfl, hs, h⟩ := h
    rw [st_are_bits]
    repeat' decreasing_trivial_pre_omega
    exact h⟩
theorem ok_are_again (T : Txt K mg) : DO P wd K mg base 2 T.f_are_again ["thing"] spAgain :=
  dfo T.a_are_again.fn sc_are_again (fun ds m F Z h => h.1) fun cdv A outer s H E ds m G Z hr hB h => ⟨_, (dss_one (ds_ret (de_and (de_callO (ok_are_bits T) (hr.mono (by decide)) (by rfl) T.a_are_bits.gl (da_cons (dv 0) da_nil)) (de_one (de_cmp (o_ne hr.units) (dv 0) de_str (by rfl)))))), by
    rcases h with ⟨hlen, h⟩
    obtain ⟨s, rfl, hs, hb, hn, h⟩ := h
    rw [st_are_again]
    repeat' decreasing_trivial_pre_omega
    refine c_bits hs ?_
    rw [hb]
    repeat' decreasing_trivial_pre_omega
    refine p_neK rfl ?_
    rw [ne_empty hn]
    exact h⟩


end
section
local macro_rules | `(tactic| decreasing_trivial_pre_omega) => `(tactic| with_reducible first | (apply p_methO; (· with_unfolding_all rfl)) | fail "no")
local macro_rules | `(tactic| decreasing_trivial_pre_omega) => `(tactic| with_reducible refine p_insO ?_)
local macro_rules | `(tactic| decreasing_trivial_pre_omega) => `(tactic| with_reducible refine p_srcS ?_)
local macro_rules | `(tactic| decreasing_trivial_pre_omega) => `(tactic| with_reducible refine p_srcL ?_)
local macro_rules | `(tactic| decreasing_trivial_pre_omega) => `(tactic| with_reducible refine p_srcT ?_)
local macro_rules | `(tactic| decreasing_trivial_pre_omega) => `(tactic| with_reducible refine u_any ?_)
local macro_rules | `(tactic| decreasing_trivial_pre_omega) => `(tactic| with_reducible refine p_min ?_)
local macro_rules | `(tactic| decreasing_trivial_pre_omega) => `(tactic| with_reducible refine p_max ?_)
local macro_rules | `(tactic| decreasing_trivial_pre_omega) => `(tactic| with_reducible refine p_own1 ?_)
local macro_rules | `(tactic| decreasing_trivial_pre_omega) => `(tactic| with_reducible refine p_own ?_)
local macro_rules | `(tactic| decreasing_trivial_pre_omega) => `(tactic| with_reducible first | (apply p_setF; (· assumption); (· with_unfolding_all exact Nat.le_of_ble_eq_true rfl)) | fail "no")
local macro_rules | `(tactic| decreasing_trivial_pre_omega) => `(tactic| with_reducible first | (apply p_setF'; (· with_unfolding_all exact Nat.le_of_ble_eq_true rfl)) | fail "no")
local macro_rules | `(tactic| decreasing_trivial_pre_omega) => `(tactic| with_reducible refine u_setF ?_)
local macro_rules | `(tactic| decreasing_trivial_pre_omega) => `(tactic| with_reducible refine u_make ?_)
local macro_rules | `(tactic| decreasing_trivial_pre_omega) => `(tactic| with_reducible refine u_meth ?_)
local macro_rules | `(tactic| decreasing_trivial_pre_omega) => `(tactic| with_reducible refine u_prop ?_)
local macro_rules | `(tactic| decreasing_trivial_pre_omega) => `(tactic| with_reducible first | (apply p_fldR; (· first | exact DL.Mu.set_same _ _ _ | assumption); (· with_unfolding_all rfl)) | fail "no")
local macro_rules | `(tactic| decreasing_trivial_pre_omega) => `(tactic| with_reducible first | (apply p_fldO; (· with_unfolding_all rfl)) | fail "no")
local macro_rules | `(tactic| decreasing_trivial_pre_omega) => `(tactic| with_reducible refine u_fld ?_)
local macro_rules | `(tactic| decreasing_trivial_pre_omega) => `(tactic| with_reducible refine u_callI ?_)
local macro_rules | `(tactic| decreasing_trivial_pre_omega) => `(tactic| with_reducible refine p_isiO ?_)
local macro_rules | `(tactic| decreasing_trivial_pre_omega) => `(tactic| with_reducible refine u_isiO ?_)
local macro_rules | `(tactic| decreasing_trivial_pre_omega) => `(tactic| with_reducible refine p_dgn ?_)
local macro_rules | `(tactic| decreasing_trivial_pre_omega) => `(tactic| with_reducible refine p_dgc ?_)
local macro_rules | `(tactic| decreasing_trivial_pre_omega) => `(tactic| with_reducible first | (apply p_dgL; (· with_unfolding_all rfl)) | fail "no")
local macro_rules | `(tactic| decreasing_trivial_pre_omega) => `(tactic| with_reducible first | (apply p_dgT; (· with_unfolding_all rfl)) | fail "no")
local macro_rules | `(tactic| decreasing_trivial_pre_omega) => `(tactic| with_reducible refine p_par ?_)
local macro_rules | `(tactic| decreasing_trivial_pre_omega) => `(tactic| with_reducible refine p_ends ?_)
local macro_rules | `(tactic| decreasing_trivial_pre_omega) => `(tactic| with_reducible refine u_for ?_)
local macro_rules | `(tactic| decreasing_trivial_pre_omega) => `(tactic| with_reducible first | (apply p_mulS'; (· omega); (· omega); (· omega)) | fail "no")
local macro_rules | `(tactic| decreasing_trivial_pre_omega) => `(tactic| with_reducible first | (apply p_fdiv; (· omega); (· exact log_small (by omega) (by omega))) | fail "no")

/-! ### bits of words -/
def oneB (c : Nat) : Bool := c == 48 || c == 49
theorem cnt_le : ∀ l : List Nat, PyProof.Rows.cnt 48 l + PyProof.Rows.cnt 49 l ≤ l.length
  | [] => by simp [PyProof.Rows.cnt_nil]
  | x :: r => by
    have ih := cnt_le r
    rw [PyProof.Rows.cnt_cons, PyProof.Rows.cnt_cons, List.length_cons]
    split <;> split <;> omega
theorem cnt_all : ∀ l : List Nat, PyProof.Rows.cnt 48 l + PyProof.Rows.cnt 49 l = l.length ↔ l.all oneB = true
  | [] => by simp [PyProof.Rows.cnt_nil]
  | x :: r => by
    have ih := cnt_all r
    have hl := cnt_le r
    rw [PyProof.Rows.cnt_cons, PyProof.Rows.cnt_cons, List.length_cons, List.all_cons, Bool.and_eq_true, ← ih]
    by_cases h : x = 48
    · subst h; simp [oneB]; omega
    · by_cases h2 : x = 49
      · subst h2; simp [oneB]; omega
      · rw [if_neg h, if_neg h2]
        constructor
        · intro z; omega
        · rintro ⟨z, _⟩; simp [oneB, h, h2] at z
theorem bits_all (s : Str) : bits01 s = s.cps.toList.all oneB := by
  unfold bits01
  show (Txt.count s (Str.ofString "0") + Txt.count s (Str.ofString "1") == (s.length : Int)) = _
  have f0 : (Str.ofString "0") = ⟨#[48]⟩ := by decide
  have f1 : (Str.ofString "1") = ⟨#[49]⟩ := by decide
  rw [f0, f1, PyProof.Rows.count_cnt, PyProof.Rows.count_cnt]
  have hl : (s.length : Int) = (s.cps.toList.length : Int) := by simp [Str.length]
  rw [hl, Bool.eq_iff_iff, beq_iff_eq]
  exact cnt_all _
theorem lenL (s : Str) : s.length = s.cps.toList.length := by simp [Str.length]
theorem bits_cut {s : Str} (lo hi : Option Int) (h : bits01 s = true) : bits01 (cutS s lo hi) = true := by
  rw [bits_all] at h ⊢
  unfold cutS
  rw [List.all_eq_true] at h ⊢
  intro c hc
  simp only [List.toList_toArray] at hc
  exact h c (List.mem_of_mem_drop (List.mem_of_mem_take hc))
theorem bits_app {s t : Str} (h : bits01 s = true) (k : bits01 t = true) : bits01 (s ++ t) = true := by
  rw [bits_all] at h k ⊢
  show ((s.cps ++ t.cps).toList.all oneB) = true
  rw [Array.toList_append, List.all_append, h, k]; rfl
local macro_rules | `(tactic| decreasing_trivial_pre_omega) => `(tactic| with_reducible first | (apply c_get; (· assumption)) | fail "no")
/-- bit x of a word -/
def bitS (e a : Str) (x : Int) : Bool := match atI (if x < (e.length : Int) then e.cps.toList else a.cps.toList) (if x < (e.length : Int) then x else (x - e.length) % a.length) with
  | some c => (⟨#[c]⟩ : Str) == Str.ofString "1"
  | none => false

/-- a word on lists of signs -/
def sgn (e a : List Nat) (x : Nat) : Option Nat := if x < e.length then e[x]? else a[(x - e.length) % a.length]?
def bitN (e a : List Nat) (x : Nat) : Bool := sgn e a x == some 49
theorem one_eq (c : Nat) : ((⟨#[c]⟩ : Str) == Str.ofString "1") = (some c == some 49) := by
  have f1 : (Str.ofString "1") = ⟨#[49]⟩ := by decide
  rw [f1, Bool.eq_iff_iff, beq_iff_eq, beq_iff_eq]
  simp
theorem bitS_N {e a : Str} (ha : 1 ≤ a.length) (x : Nat) : bitS e a (x : Int) = bitN e.cps.toList a.cps.toList x := by
  unfold bitS bitN sgn
  by_cases h : x < e.length
  · rw [if_pos (by omega), if_pos (by omega), if_pos (by rw [← lenL]; exact h)]
    have hl : x < e.cps.toList.length := by rw [← lenL]; exact h
    have q : e.cps.toList[x]? = some e.cps.toList[x] := List.getElem?_eq_getElem hl
    rw [atI_at (i := (x : Int)) (x := e.cps.toList[x]) (by omega) (by rw [Int.toNat_natCast]; exact q), q]
    exact one_eq _
  · rw [if_neg (by omega), if_neg (by omega), if_neg (by rw [← lenL]; exact h)]
    have hm : (x - e.length) % a.length < a.cps.toList.length := by rw [← lenL]; exact Nat.mod_lt _ (by omega)
    have q : a.cps.toList[(x - e.length) % a.length]? = some a.cps.toList[(x - e.length) % a.length] := List.getElem?_eq_getElem hm
    have hi : ((x : Int) - e.length) % a.length = (((x - e.length) % a.length : Nat) : Int) := by
      rw [Int.natCast_emod]; congr 1; omega
    rw [hi, atI_at (i := (((x - e.length) % a.length : Nat) : Int)) (x := a.cps.toList[(x - e.length) % a.length]) (by omega) (by rw [Int.toNat_natCast]; exact q), ← lenL, ← lenL, q]
    exact one_eq _
theorem cut_range {g : Nat → Nat} {N l p : Nat} (h : l + p ≤ N) : (((List.range N).map g).drop l).take p = (List.range p).map (fun i => g (l + i)) := by
  apply List.ext_getElem?
  intro i
  rw [List.getElem?_take, List.getElem?_drop]
  by_cases hi : i < p
  · rw [if_pos hi]; simp [hi, show l + i < N by omega]
  · rw [if_neg hi]
    exact (List.getElem?_eq_none (by rw [List.length_map, List.length_range]; omega)).symm
theorem fold_cat (x : Array Nat) : ∀ (k : Nat) (acc : Array Nat), ((List.replicate k x).foldl (· ++ ·) acc).toList = acc.toList ++ (List.replicate k x.toList).flatten
  | 0, acc => by simp
  | k + 1, acc => by
    rw [List.replicate_succ, List.foldl_cons, fold_cat x k, List.replicate_succ, List.flatten_cons, Array.toList_append, List.append_assoc]
theorem mul_list {x : Str} {k : Nat} (hx : 1 ≤ x.length) : (Txt.mul x (k : Int)).cps.toList = (List.replicate k x.cps.toList).flatten := by
  unfold Txt.mul
  have hz : (x.length == 0) = false := by rw [beq_eq_false_iff_ne]; omega
  by_cases h0 : (k : Int) < 1
  · rw [if_pos h0]
    obtain rfl : k = 0 := by omega
    rfl
  · rw [if_neg h0, hz]
    by_cases h1 : k = 1
    · subst h1
      rw [if_pos (by decide)]; simp
    · rw [if_neg (by simp; omega), Int.toNat_natCast]
      show ((List.replicate k x.cps).foldl (· ++ ·) #[]).toList = _
      rw [fold_cat]; simp
theorem flat_at {B : List Nat} (hb : 1 ≤ B.length) : ∀ (k i : Nat), (List.replicate k B).flatten[i]? = if i < k * B.length then B[i % B.length]? else none
  | 0, i => by simp
  | k + 1, i => by
    rw [List.replicate_succ, List.flatten_cons]
    by_cases h : i < B.length
    · rw [List.getElem?_append_left h, Nat.mod_eq_of_lt h, if_pos (by rw [Nat.succ_mul]; omega)]
    · rw [List.getElem?_append_right (by omega), flat_at hb k, Nat.succ_mul]
      have : i % B.length = (i - B.length) % B.length := by
        conv => lhs; rw [show i = (i - B.length) + B.length by omega]
        rw [Nat.add_mod_right]
      rw [this]
      by_cases h2 : i - B.length < k * B.length
      · rw [if_pos h2, if_pos (by omega)]
      · rw [if_neg h2, if_neg (by omega)]
theorem str_ext {s t : Str} (h : s.cps.toList = t.cps.toList) : s = t := by
  cases s; cases t
  simp only at h
  have := Array.toList_inj.mp h
  rw [this]
theorem cut_take {s : Str} {k : Nat} : (cutS s none (some (k : Int))).cps.toList = s.cps.toList.take k := by
  unfold cutS
  rw [HT.sIx_none, HT.sIx_nat, List.drop_zero, Nat.sub_zero]
  show s.cps.toList.take (min k s.length) = _
  rw [lenL, ← List.take_eq_take_min]
theorem all_at {A : List Nat} (h : A.all oneB = true) {i : Nat} (hi : i < A.length) : A[i]? = some 48 ∨ A[i]? = some 49 := by
  rw [List.all_eq_true] at h
  have := h A[i] (List.getElem_mem hi)
  rw [List.getElem?_eq_getElem hi]
  unfold oneB at this
  simpa using this
/-- the signs of two words, from their bits -/
theorem sgn_bits {E A E1 A1 : List Nat} (h1 : E.all oneB = true) (h2 : A.all oneB = true) (hn : 1 ≤ A.length) (h3 : E1.all oneB = true) (h4 : A1.all oneB = true) (hn1 : 1 ≤ A1.length) {x : Nat} (h : bitN E A x = bitN E1 A1 x) : sgn E A x = sgn E1 A1 x := by
  have key : ∀ {E A : List Nat}, E.all oneB = true → A.all oneB = true → 1 ≤ A.length → sgn E A x = some 48 ∨ sgn E A x = some 49 := by
    intro E A h1 h2 hn
    unfold sgn
    split
    · rename_i w; exact all_at h1 w
    · exact all_at h2 (Nat.mod_lt _ (by omega))
  unfold bitN at h
  rcases key h1 h2 hn with p | p <;> rcases key h3 h4 hn1 with q | q <;> rw [p, q] at h ⊢ <;> simp at h
def signOf (e a : List Nat) (x : Nat) : Nat := if bitN e a x = true then 49 else 48
theorem cut_mid_list {s : Str} {l p : Nat} (h : l + p ≤ s.length) : (cutS s (some (l : Int)) (some ((l : Int) + (p : Int)))).cps.toList = (s.cps.toList.drop l).take p := by
  have e1 : HT.sIx s.length 0 (some (l : Int)) = l := by rw [HT.sIx_nat]; omega
  have e2 : HT.sIx s.length s.length (some ((l : Int) + (p : Int))) = l + p := by
    rw [← Int.natCast_add, HT.sIx_nat]; omega
  unfold cutS
  rw [e1, e2, Nat.add_sub_cancel_left]
theorem sign_bit (e a : List Nat) (x : Nat) : (some (signOf e a x) == some 49) = bitN e a x := by
  unfold signOf
  cases bitN e a x <;> simp
theorem sign_sgn {E A : List Nat} (h1 : E.all oneB = true) (h2 : A.all oneB = true) (hn : 1 ≤ A.length) (x : Nat) : some (signOf E A x) = sgn E A x := by
  have key : sgn E A x = some 48 ∨ sgn E A x = some 49 := by
    unfold sgn
    split
    · rename_i w; exact all_at h1 w
    · exact all_at h2 (Nat.mod_lt _ (by omega))
  unfold signOf bitN
  rcases key with k | k <;> rw [k] <;> simp

def joinB : Nat → Bool → Bool → Bool
  | 0, a, b => a && b
  | 1, a, b => a || b
  | _, a, b => a != b
def wayS : Nat → Str
  | 0 => Str.ofString "and"
  | 1 => Str.ofString "or"
  | _ => Str.ofString "unlike"

/-! ### the first bits of a word; words put together -/
def firstS (e a : Str) (N : Nat) : Str := cutS (e ++ Txt.mul a ((N / a.length + 1 : Nat) : Int)) none (some (N : Int))
theorem first_list {e a : Str} (he : e.cps.toList.all oneB = true) (ha : a.cps.toList.all oneB = true) (hn : 1 ≤ a.length) (N : Nat) : (firstS e a N).cps.toList = (List.range N).map (signOf e.cps.toList a.cps.toList) := by
  have hA : 1 ≤ a.cps.toList.length := by rw [← lenL]; exact hn
  unfold firstS
  rw [cut_take]
  show ((e.cps ++ (Txt.mul a _).cps).toList.take N) = _
  rw [Array.toList_append, mul_list hn]
  apply List.ext_getElem?
  intro i
  rw [List.getElem?_take]
  by_cases hi : i < N
  · rw [if_pos hi, List.getElem?_map, List.getElem?_range hi]
    show _ = some (signOf _ _ i)
    rw [sign_sgn he ha hA]
    unfold sgn
    by_cases h : i < e.cps.toList.length
    · rw [if_pos h, List.getElem?_append_left h]
    · rw [if_neg h, List.getElem?_append_right (by omega), flat_at hA, if_pos]
      rw [← lenL a, Nat.mul_comm]
      have := Nat.lt_mul_div_succ N (show 0 < a.length by omega)
      omega
  · rw [if_neg hi]
    exact (List.getElem?_eq_none (by rw [List.length_map, List.length_range]; omega)).symm
theorem first_len {e a : Str} (he : e.cps.toList.all oneB = true) (ha : a.cps.toList.all oneB = true) (hn : 1 ≤ a.length) (N : Nat) : (firstS e a N).length = N := by
  rw [lenL, first_list he ha hn]; simp
theorem mul_len {x : Str} {k : Nat} (hx : 1 ≤ x.length) : (Txt.mul x (k : Int)).length = k * x.length := by
  rw [lenL, mul_list hx, List.length_flatten, List.map_replicate, List.sum_replicate_nat, ← lenL]
theorem sign_one {e a : Str} (hn : 1 ≤ a.length) (x : Nat) : ((⟨#[signOf e.cps.toList a.cps.toList x]⟩ : Str) == Str.ofString "1") = bitS e a x := by
  rw [one_eq, sign_bit, bitS_N hn]

/-! ### the parts of rules -/
inductive Pt where
  | alw (b : Bool)
  | wd (k : Nat) (e a : Str)
  | neg (p : Pt)
  | jn (w : Nat) (p q : Pt)
def rdS : Nat → Str
  | 0 => Str.ofString "turns"
  | 1 => Str.ofString "others"
  | 2 => Str.ofString "rounds"
  | 3 => Str.ofString "suns"
  | _ => Str.ofString "moons"
def wdD (w : Nat × Str × Str) : Dat := .tup [.str (rdS w.1), .str w.2.1, .str w.2.2]
def Pt.dat : Pt → Dat
  | .alw b => .tup [.str (Str.ofString "always"), .bl b]
  | .wd k e a => .tup [.str (rdS k), .str e, .str a]
  | .neg p => .tup [.str (Str.ofString "not"), p.dat]
  | .jn w p q => .tup [.str (wayS w), p.dat, q.dat]
def Pt.dp : Pt → Nat
  | .alw _ => 1
  | .wd .. => 1
  | .neg p => p.dp + 1
  | .jn _ p q => max p.dp q.dp + 1
def Pt.Ok (L : Nat) : Pt → Prop
  | .alw _ => True
  | .wd k e a => k < 5 ∧ WOk e a ∧ a.length ∣ L
  | .neg p => p.Ok L
  | .jn w p q => w < 3 ∧ p.Ok L ∧ q.Ok L
def Pt.words : Pt → List (Nat × Str × Str)
  | .alw _ => []
  | .wd k e a => [(k, e, a)]
  | .neg p => p.words
  | .jn _ p q => p.words ++ q.words
def Pt.kids : Pt → List Pt
  | .neg p => [p]
  | .jn _ p q => [p, q]
  | _ => []
def Pt.tell (f : Nat → Int) : Pt → Bool
  | .alw b => b
  | .wd k e a => bitS e a (f k)
  | .neg p => !p.tell f
  | .jn w p q => joinB w (p.tell f) (q.tell f)
theorem Pt.dp_pos : ∀ p : Pt, 1 ≤ p.dp
  | .alw _ => Nat.le_refl _
  | .wd .. => Nat.le_refl _
  | .neg p => Nat.le_add_left _ _
  | .jn _ p q => Nat.le_add_left _ _
theorem Pt.words_le : ∀ p : Pt, p.words.length ≤ 2 ^ (p.dp - 1)
  | .alw _ => Nat.zero_le _
  | .wd .. => Nat.le_refl _
  | .neg p => by
    have h := Pt.words_le p
    have hp := p.dp_pos
    show p.words.length ≤ 2 ^ (p.dp + 1 - 1)
    exact Nat.le_trans h (Nat.pow_le_pow_right (by decide) (by omega))
  | .jn _ p q => by
    have h1 := Pt.words_le p
    have h2 := Pt.words_le q
    have hp := p.dp_pos
    have hq := q.dp_pos
    show (p.words ++ q.words).length ≤ 2 ^ (max p.dp q.dp + 1 - 1)
    rw [List.length_append]
    have e : max p.dp q.dp + 1 - 1 = (max p.dp q.dp - 1) + 1 := by omega
    rw [e, Nat.pow_succ]
    have g1 : 2 ^ (p.dp - 1) ≤ 2 ^ (max p.dp q.dp - 1) := Nat.pow_le_pow_right (by decide) (by omega)
    have g2 : 2 ^ (q.dp - 1) ≤ 2 ^ (max p.dp q.dp - 1) := Nat.pow_le_pow_right (by decide) (by omega)
    omega
theorem Pt.words_ok {L : Nat} : ∀ {p : Pt}, p.Ok L → ∀ w ∈ p.words, w.1 < 5 ∧ WOk w.2.1 w.2.2 ∧ w.2.2.length ∣ L
  | .alw _, _, w, h => by cases h
  | .wd k e a, h, w, hw => by
    obtain rfl := List.mem_singleton.mp hw
    exact h
  | .neg p, h, w, hw => Pt.words_ok (p := p) h w hw
  | .jn _ p q, h, w, hw => by
    rcases List.mem_append.mp hw with z | z
    · exact Pt.words_ok (p := p) h.2.1 w z
    · exact Pt.words_ok (p := q) h.2.2 w z
/-- how long the words are -/
def Pt.Sm (M N : Nat) (p : Pt) : Prop := ∀ w ∈ p.words, w.2.1.length ≤ M ∧ w.2.2.length ≤ N
theorem Pt.Sm.ofJn {M N w : Nat} {p q : Pt} (h : p.Sm M N) (k : q.Sm M N) : (Pt.jn w p q).Sm M N := fun x hx => by
  rcases List.mem_append.mp hx with z | z
  · exact h x z
  · exact k x z
theorem Pt.Sm.ofWd {M N k : Nat} {e a : Str} (h : e.length ≤ M) (g : a.length ≤ N) : (Pt.wd k e a).Sm M N := fun x hx => by
  obtain rfl := List.mem_singleton.mp hx
  exact ⟨h, g⟩
theorem Pt.Sm.ofAlw {M N : Nat} {b : Bool} : (Pt.alw b).Sm M N := fun x hx => by cases hx
theorem k5 {k : Nat} (h : k < 5) : k = 0 ∨ k = 1 ∨ k = 2 ∨ k = 3 ∨ k = 4 := by omega
theorem w3 {k : Nat} (h : k < 3) : k = 0 ∨ k = 1 ∨ k = 2 := by omega
/-- lead and period -/
def leadW (ws : List (Nat × Str × Str)) : Nat := ws.foldl (fun l w => max l w.2.1.length) 0
def perW (ws : List (Nat × Str × Str)) : Nat := ws.foldl (fun l w => Nat.lcm l w.2.2.length) 1
def Pt.lead (p : Pt) : Nat := leadW p.words
def Pt.per (p : Pt) : Nat := perW p.words
def ruleFs (p : Pt) : List (Str × Dat) := [("_parts", p.dat), ("_lead", .int p.lead), ("_period", .int p.per)]
abbrev RuleD (C : Addr) (p : Pt) : Dat := .obj C (ruleFs p)
structure Big (x : Int) : Prop where
  lo : 0 ≤ x
  hi : x.natAbs < 2 ^ 200
theorem Big.mul {x y : Int} (hx : Big x) (hy : Big y) : MulB x y := .inr (wide_mul hx.hi hy.hi (by decide) (by decide) (by decide))
theorem Big.of {x : Int} (h0 : 0 ≤ x) (h1 : x ≤ 10 ^ 45) : Big x := ⟨h0, Nat.lt_of_le_of_lt (show x.natAbs ≤ 10 ^ 45 by omega) (by decide)⟩
/-- the number that a reader reads -/
def numN (r i j n m : Int) : Nat → Int
  | 0 => r * m + j
  | 1 => r * n + i
  | 2 => r
  | 3 => i
  | _ => j
def numsD (r i j n m : Int) : Dat := .dct [(.str (Str.ofString "turns"), .int (r * m + j)), (.str (Str.ofString "others"), .int (r * n + i)), (.str (Str.ofString "rounds"), .int r), (.str (Str.ofString "suns"), .int i), (.str (Str.ofString "moons"), .int j)]
structure NumOk (r i j n m : Int) : Prop where
  r : Big r
  i : Big i
  j : Big j
  n : Big n
  m : Big m
theorem NumOk.at_ {r i j n m : Int} (h : NumOk r i j n m) : ∀ k, 0 ≤ numN r i j n m k
  | 0 => by have := Int.mul_nonneg h.r.lo h.m.lo; have := h.j.lo; show 0 ≤ r * m + j; omega
  | 1 => by have := Int.mul_nonneg h.r.lo h.n.lo; have := h.i.lo; show 0 ≤ r * n + i; omega
  | 2 => h.r.lo
  | 3 => h.i.lo
  | _ + 4 => h.j.lo

/-! ### sides exchanged -/
def swK : Nat → Nat
  | 0 => 1
  | 1 => 0
  | 2 => 2
  | 3 => 4
  | _ => 3
def Pt.swap : Pt → Pt
  | .alw b => .alw b
  | .wd k e a => .wd (swK k) e a
  | .neg p => .neg p.swap
  | .jn w p q => .jn w p.swap q.swap
def swW (w : Nat × Str × Str) : Nat × Str × Str := (swK w.1, w.2.1, w.2.2)
def Pt.sz : Pt → Nat
  | .alw _ => 1
  | .wd .. => 1
  | .neg p => 1 + p.sz
  | .jn _ p q => 1 + (p.sz + q.sz)
/-- how heavy it is -/
def Pt.wt : Pt → Nat
  | .alw _ => 20
  | .wd _ e a => 20 + e.length + a.length
  | .neg p => p.wt + 10
  | .jn _ p q => p.wt + q.wt + 20
theorem swK_lt {k : Nat} (h : k < 5) : swK k < 5 := by rcases k5 h with rfl | rfl | rfl | rfl | rfl <;> decide
theorem swK_swK {k : Nat} (h : k < 5) : swK (swK k) = k := by rcases k5 h with rfl | rfl | rfl | rfl | rfl <;> decide
theorem Pt.swap_swap {L : Nat} : ∀ {p : Pt}, p.Ok L → p.swap.swap = p
  | .alw _, _ => rfl
  | .wd k e a, h => by show Pt.wd (swK (swK k)) e a = _; rw [swK_swK h.1]
  | .neg p, h => by show Pt.neg p.swap.swap = _; rw [Pt.swap_swap (p := p) h]
  | .jn w p q, h => by show Pt.jn w p.swap.swap q.swap.swap = _; rw [Pt.swap_swap h.2.1, Pt.swap_swap h.2.2]
theorem Pt.Ok.swap {L : Nat} : ∀ {p : Pt}, p.Ok L → p.swap.Ok L
  | .alw _, _ => trivial
  | .wd k e a, h => ⟨swK_lt h.1, h.2⟩
  | .neg p, h => Pt.Ok.swap (p := p) h
  | .jn w p q, h => ⟨h.1, Pt.Ok.swap h.2.1, Pt.Ok.swap h.2.2⟩
theorem Pt.swap_dp : ∀ p : Pt, p.swap.dp = p.dp
  | .alw _ => rfl
  | .wd .. => rfl
  | .neg p => by show p.swap.dp + 1 = p.dp + 1; rw [p.swap_dp]
  | .jn _ p q => by show max p.swap.dp q.swap.dp + 1 = max p.dp q.dp + 1; rw [p.swap_dp, q.swap_dp]
theorem Pt.swap_sz : ∀ p : Pt, p.swap.sz = p.sz
  | .alw _ => rfl
  | .wd .. => rfl
  | .neg p => by show 1 + p.swap.sz = 1 + p.sz; rw [p.swap_sz]
  | .jn _ p q => by show 1 + (p.swap.sz + q.swap.sz) = 1 + (p.sz + q.sz); rw [p.swap_sz, q.swap_sz]
theorem Pt.swap_wt : ∀ p : Pt, p.swap.wt = p.wt
  | .alw _ => rfl
  | .wd .. => rfl
  | .neg p => by show p.swap.wt + 10 = p.wt + 10; rw [p.swap_wt]
  | .jn _ p q => by show p.swap.wt + q.swap.wt + 20 = p.wt + q.wt + 20; rw [p.swap_wt, q.swap_wt]
theorem Pt.swap_words : ∀ p : Pt, p.swap.words = p.words.map swW
  | .alw _ => rfl
  | .wd .. => rfl
  | .neg p => p.swap_words
  | .jn _ p q => by show p.swap.words ++ q.swap.words = (p.words ++ q.words).map swW; rw [p.swap_words, q.swap_words, List.map_append]
theorem Pt.swap_lead (p : Pt) : p.swap.lead = p.lead := by
  unfold Pt.lead leadW
  rw [p.swap_words, List.foldl_map]; rfl
theorem Pt.swap_per (p : Pt) : p.swap.per = p.per := by
  unfold Pt.per perW
  rw [p.swap_words, List.foldl_map]; rfl
theorem num_swap {r i j n m : Int} {k : Nat} (h : k < 5) : numN r j i m n (swK k) = numN r i j n m k := by rcases k5 h with rfl | rfl | rfl | rfl | rfl <;> rfl
theorem Pt.swap_tell {L : Nat} {f g : Nat → Int} (hf : ∀ k < 5, g (swK k) = f k) : ∀ {p : Pt}, p.Ok L → p.swap.tell g = p.tell f
  | .alw _, _ => rfl
  | .wd k e a, h => by show bitS e a (g (swK k)) = bitS e a (f k); rw [hf k h.1]
  | .neg p, h => by show (!p.swap.tell g) = !p.tell f; rw [Pt.swap_tell hf (p := p) h]
  | .jn w p q, h => by show joinB w (p.swap.tell g) (q.swap.tell g) = joinB w (p.tell f) (q.tell f); rw [Pt.swap_tell hf h.2.1, Pt.swap_tell hf h.2.2]
theorem Pt.wt_le {p : Pt} (hs : p.Sm 20 100) : p.wt + 20 ≤ 160 * 2 ^ (p.dp - 1) := by
  induction p with
  | alw b => show 20 + 20 ≤ 160 * 2 ^ (1 - 1); decide
  | wd k e a =>
    obtain ⟨h1, h2⟩ := hs (k, e, a) (List.mem_singleton.mpr rfl)
    have h1 : e.length ≤ 20 := h1
    have h2 : a.length ≤ 100 := h2
    show 20 + e.length + a.length + 20 ≤ 160 * 2 ^ (1 - 1)
    simp
    omega
  | neg p ih =>
    have h := ih hs
    have hp := p.dp_pos
    show p.wt + 10 + 20 ≤ 160 * 2 ^ (p.dp + 1 - 1)
    have e : p.dp + 1 - 1 = (p.dp - 1) + 1 := by omega
    have hpos := Nat.one_le_two_pow (n := p.dp - 1)
    rw [e, Nat.pow_succ]
    omega
  | jn w p q ih1 ih2 =>
    have h1 := ih1 fun w hw => hs w (List.mem_append_left _ hw)
    have h2 := ih2 fun w hw => hs w (List.mem_append_right _ hw)
    have hp := p.dp_pos
    have hq := q.dp_pos
    show p.wt + q.wt + 20 + 20 ≤ 160 * 2 ^ (max p.dp q.dp + 1 - 1)
    have e : max p.dp q.dp + 1 - 1 = (max p.dp q.dp - 1) + 1 := by omega
    rw [e, Nat.pow_succ]
    have g1 : 2 ^ (p.dp - 1) ≤ 2 ^ (max p.dp q.dp - 1) := Nat.pow_le_pow_right (by decide) (by omega)
    have g2 : 2 ^ (q.dp - 1) ≤ 2 ^ (max p.dp q.dp - 1) := Nat.pow_le_pow_right (by decide) (by omega)
    omega


end
section
local macro_rules | `(tactic| decreasing_trivial_pre_omega) => `(tactic| with_reducible first | (apply p_methO; (· with_unfolding_all rfl)) | fail "no")
local macro_rules | `(tactic| decreasing_trivial_pre_omega) => `(tactic| with_reducible refine p_insO ?_)
local macro_rules | `(tactic| decreasing_trivial_pre_omega) => `(tactic| with_reducible refine p_srcS ?_)
local macro_rules | `(tactic| decreasing_trivial_pre_omega) => `(tactic| with_reducible refine p_srcL ?_)
local macro_rules | `(tactic| decreasing_trivial_pre_omega) => `(tactic| with_reducible refine p_srcT ?_)
local macro_rules | `(tactic| decreasing_trivial_pre_omega) => `(tactic| with_reducible refine u_any ?_)
local macro_rules | `(tactic| decreasing_trivial_pre_omega) => `(tactic| with_reducible refine p_min ?_)
local macro_rules | `(tactic| decreasing_trivial_pre_omega) => `(tactic| with_reducible refine p_max ?_)
local macro_rules | `(tactic| decreasing_trivial_pre_omega) => `(tactic| with_reducible refine p_own1 ?_)
local macro_rules | `(tactic| decreasing_trivial_pre_omega) => `(tactic| with_reducible refine p_own ?_)
local macro_rules | `(tactic| decreasing_trivial_pre_omega) => `(tactic| with_reducible first | (apply p_setF; (· assumption); (· with_unfolding_all exact Nat.le_of_ble_eq_true rfl)) | fail "no")
local macro_rules | `(tactic| decreasing_trivial_pre_omega) => `(tactic| with_reducible first | (apply p_setF'; (· with_unfolding_all exact Nat.le_of_ble_eq_true rfl)) | fail "no")
local macro_rules | `(tactic| decreasing_trivial_pre_omega) => `(tactic| with_reducible refine u_setF ?_)
local macro_rules | `(tactic| decreasing_trivial_pre_omega) => `(tactic| with_reducible refine u_make ?_)
local macro_rules | `(tactic| decreasing_trivial_pre_omega) => `(tactic| with_reducible refine u_meth ?_)
local macro_rules | `(tactic| decreasing_trivial_pre_omega) => `(tactic| with_reducible refine u_prop ?_)
local macro_rules | `(tactic| decreasing_trivial_pre_omega) => `(tactic| with_reducible first | (apply p_fldR; (· first | exact DL.Mu.set_same _ _ _ | assumption); (· with_unfolding_all rfl)) | fail "no")
local macro_rules | `(tactic| decreasing_trivial_pre_omega) => `(tactic| with_reducible first | (apply p_fldO; (· with_unfolding_all rfl)) | fail "no")
local macro_rules | `(tactic| decreasing_trivial_pre_omega) => `(tactic| with_reducible refine u_fld ?_)
local macro_rules | `(tactic| decreasing_trivial_pre_omega) => `(tactic| with_reducible refine u_callI ?_)
local macro_rules | `(tactic| decreasing_trivial_pre_omega) => `(tactic| with_reducible refine p_isiO ?_)
local macro_rules | `(tactic| decreasing_trivial_pre_omega) => `(tactic| with_reducible refine u_isiO ?_)
local macro_rules | `(tactic| decreasing_trivial_pre_omega) => `(tactic| with_reducible refine p_dgn ?_)
local macro_rules | `(tactic| decreasing_trivial_pre_omega) => `(tactic| with_reducible refine p_dgc ?_)
local macro_rules | `(tactic| decreasing_trivial_pre_omega) => `(tactic| with_reducible first | (apply p_dgL; (· with_unfolding_all rfl)) | fail "no")
local macro_rules | `(tactic| decreasing_trivial_pre_omega) => `(tactic| with_reducible first | (apply p_dgT; (· with_unfolding_all rfl)) | fail "no")
local macro_rules | `(tactic| decreasing_trivial_pre_omega) => `(tactic| with_reducible refine p_par ?_)
local macro_rules | `(tactic| decreasing_trivial_pre_omega) => `(tactic| with_reducible refine p_ends ?_)
local macro_rules | `(tactic| decreasing_trivial_pre_omega) => `(tactic| with_reducible refine u_for ?_)
local macro_rules | `(tactic| decreasing_trivial_pre_omega) => `(tactic| with_reducible first | (apply p_mulS'; (· omega); (· omega); (· omega)) | fail "no")
local macro_rules | `(tactic| decreasing_trivial_pre_omega) => `(tactic| with_reducible first | (apply p_fdiv; (· omega); (· exact log_small (by omega) (by omega))) | fail "no")

local macro_rules | `(tactic| decreasing_trivial_pre_omega) => `(tactic| with_reducible first | (apply p_addT; (· first | decide | (rw [sizeLine_eq]; omega))) | fail "no")
local macro_rules | `(tactic| decreasing_trivial_pre_omega) => `(tactic| with_reducible first | (apply c_get; (· assumption)) | fail "no")
local macro_rules | `(tactic| decreasing_trivial_pre_omega) => `(tactic| with_reducible first | (apply c_bits; (· assumption)) | fail "no")
local macro_rules | `(tactic| decreasing_trivial_pre_omega) => `(tactic| with_reducible first | (apply p_ninT; (· with_unfolding_all rfl); (· with_unfolding_all rfl)) | fail "no")
def readersD : List Dat := ([Str.ofString "turns", Str.ofString "others", Str.ofString "rounds", Str.ofString "suns", Str.ofString "moons"] : List Str).map .str
def isRd (s : Str) : Bool := readersD.any fun e => DL.eqF e (.str s)
theorem isRd_rd : ∀ k < 5, isRd (rdS k) = true := by decide +kernel
def spReader : DL.Spec := fun ds m F _ => ds.length = 1 ∧ ∃ s b, ds = [.str s] ∧ isRd s = b ∧ F (.bl b) m
theorem c_reader {s : Str} {b : Bool} {m : Mu} {F : KD} {Z : KX} (hb : isRd s = b) (h : F (.bl b) m) : spReader [.str s] m F Z := ⟨rfl, s, b, rfl, hb, h⟩
theorem ok_is_reader (T : Txt K mg) : DO P wd K mg base 1 T.f_is_reader ["thing"] spReader :=
  dfo T.a_is_reader.fn sc_is_reader (fun ds m F Z h => h.1) fun cdv A outer s H E ds m G Z hr hB h => ⟨_, (dss_one (ds_ret (de_and (de_isi (T := "str") (by decide) (by rfl) T.z_isinstance (by decide +kernel) (by rfl) T.z_str (by decide +kernel) (dv 0)) (de_one (de_cmp o_inF (dv 0) (de_glob (v := .ref T.o_READERS) (by rfl) T.m_READERS rfl T.d_READERS) (by rfl)))))), by
    rcases h with ⟨hlen, h⟩
    obtain ⟨s, b, rfl, hb, h⟩ := h
    rw [st_is_reader]
    repeat' decreasing_trivial_pre_omega
    show G (.bl (isRd s)) m
    rw [hb]; exact h⟩
def spTruth : DL.Spec := fun ds m F _ => ds.length = 1 ∧ ∃ d b, ds = [d] ∧ (((∃ c, d = .bl c) ∧ b = true) ∨ (∃ i, d = .int i) ∧ b = false) ∧ F (.bl b) m
theorem ok_is_truth (T : Txt K mg) : DO P wd K mg base 1 T.f_is_truth ["thing"] spTruth :=
  dfo T.a_is_truth.fn sc_is_truth (fun ds m F Z h => h.1) fun cdv A outer s H E ds m G Z hr hB h => ⟨_, (dss_one (ds_ret (de_isi (T := "bool") (by decide) (by rfl) T.z_isinstance (by decide +kernel) (by rfl) T.z_bool (by decide +kernel) (dv 0)))), by
    rcases h with ⟨hlen, h⟩
    obtain ⟨d, b, rfl, alt, h⟩ := h
    rw [st_is_truth]
    rcases alt with ⟨⟨c, rfl⟩, rfl⟩ | ⟨⟨c, rfl⟩, rfl⟩
    all_goals repeat' decreasing_trivial_pre_omega
    all_goals exact h⟩
/-- what are parts of a rule are taken as such -/
def spAre (n : Nat) : DL.Spec := fun ds m F _ => ds.length = 1 ∧ ∃ (p : Pt) (L : Nat), ds = [p.dat] ∧ p.Ok L ∧ p.dp ≤ n ∧ F (.bl true) m
theorem no_are_parts : ∀ ds m G Z, ¬ spAre 0 ds m G Z := fun ds m G Z ⟨_, p, L, _, _, h, _⟩ => by have := p.dp_pos; omega

theorem ok_are_parts (T : Txt K mg) (n : Nat) : DO P wd K mg base (2 + n) T.f_are_parts ["thing"] (spAre n) := by
  induction n with
  | zero => exact dfoF T.a_are_parts.fn no_are_parts
  | succ n ih => exact dfo (k := 2 + n) T.a_are_parts.fn sc_are_parts (fun ds m F Z h => h.1) fun cdv A outer s H E ds m G Z hr hB h => ⟨_, (dss_cons (ds_if (dw_t (dw_or (dt_not (dt_val (de_isi (T := "tuple") (by decide) (by rfl) T.z_isinstance (by decide +kernel) (by rfl) T.z_tuple (by decide +kernel) (dv 0)))) (dw_or1 (dt_cmp o_ninF (de_callB c_len (by rfl) T.z_len (by decide +kernel) (da_cons (dv 0) da_nil)) (de_tup (da_cons de_int (da_cons de_int da_nil))) (by rfl)))))
      (dss_one (ds_ret de_bl))
      dss_nil)
    (dss_cons (ds_set (i := 1) sc_are_parts.nd rfl (Or.inl rfl) (de_ix (dv 0) de_int))
    (dss_cons (ds_if (dt_cmp (o_eq hr.units) (de_callB c_len (by rfl) T.z_len (by decide +kernel) (da_cons (dv 0) da_nil)) de_int (by rfl))
      (dss_one (ds_ret (de_or (de_and (de_cmp (o_eq hr.units) (dv 1) de_str (by rfl)) (de_one (de_callO (ok_is_truth T) (hr.mono (by omega)) (by rfl) T.a_is_truth.gl (da_cons (de_ix (dv 0) de_int) da_nil)))) (de_one (de_and (de_cmp (o_eq hr.units) (dv 1) de_str (by rfl)) (de_one (de_callO ih (hr.mono (by omega)) (by rfl) T.a_are_parts.gl (da_cons (de_ix (dv 0) de_int) da_nil))))))))
      dss_nil)
    (dss_cons (ds_if (dt_val (de_callO (ok_is_reader T) (hr.mono (by omega)) (by rfl) T.a_is_reader.gl (da_cons (dv 1) da_nil)))
      (dss_one (ds_ret (de_and (de_callO (ok_are_bits T) (hr.mono (by omega)) (by rfl) T.a_are_bits.gl (da_cons (de_ix (dv 0) de_int) da_nil)) (de_one (de_callO (ok_are_again T) (hr.mono (by omega)) (by rfl) T.a_are_again.gl (da_cons (de_ix (dv 0) de_int) da_nil))))))
      dss_nil)
    (dss_one (ds_ret (de_and (de_cmp o_inF (dv 1) (de_glob (v := .ref T.o_JOINS) (by rfl) T.m_JOINS rfl T.d_JOINS) (by rfl)) (de_and (de_callO ih (hr.mono (by omega)) (by rfl) T.a_are_parts.gl (da_cons (de_ix (dv 0) de_int) da_nil)) (de_one (de_callO ih (hr.mono (by omega)) (by rfl) T.a_are_parts.gl (da_cons (de_ix (dv 0) de_int) da_nil))))))))))), by
    rcases h with ⟨hlen, h⟩
    obtain ⟨p, L, rfl, hp, hd, h⟩ := h
    cases p with
    | alw b =>
      unfold Pt.dat
      rw [st_are_parts]
      repeat' decreasing_trivial_pre_omega
      refine ⟨rfl, .bl b, true, rfl, .inl ⟨⟨b, rfl⟩, rfl⟩, ?_⟩
      repeat' decreasing_trivial_pre_omega
      exact h
    | wd k e a =>
      obtain ⟨hk, hw, hl⟩ := hp
      have l1 : e.length ≤ 1000 := Nat.le_trans hw.le (by decide)
      have l2 : a.length ≤ 1000 := Nat.le_trans hw.la (by decide)
      unfold Pt.dat
      rw [st_are_parts]
      repeat' decreasing_trivial_pre_omega
      refine c_reader (isRd_rd k hk) ?_
      repeat' decreasing_trivial_pre_omega
      rw [hw.be]
      repeat' decreasing_trivial_pre_omega
      refine c_again l2 hw.ba hw.na ?_
      repeat' decreasing_trivial_pre_omega
      exact h
    | neg p =>
      unfold Pt.dat
      rw [st_are_parts]
      repeat' decreasing_trivial_pre_omega
      refine ⟨rfl, p, L, rfl, hp, ?_, ?_⟩
      · have : p.dp + 1 ≤ n + 1 := hd
        omega
      repeat' decreasing_trivial_pre_omega
      exact h
    | jn w p q =>
      obtain ⟨hw, hp, hq⟩ := hp
      have hd : max p.dp q.dp + 1 ≤ n + 1 := hd
      unfold Pt.dat
      rw [st_are_parts]
      repeat' decreasing_trivial_pre_omega
      refine c_reader (b := false) (by rcases w3 hw with rfl | rfl | rfl <;> decide +kernel) ?_
      repeat' decreasing_trivial_pre_omega
      have hj : ((([Str.ofString "and", Str.ofString "or", Str.ofString "unlike"] : List Str).map Dat.str).any fun e => DL.eqF e (.str (wayS w))) = true := by rcases w3 hw with rfl | rfl | rfl <;> decide +kernel

      rw [hj]
      repeat' decreasing_trivial_pre_omega
      refine ⟨rfl, p, L, rfl, hp, by omega, ?_⟩
      repeat' decreasing_trivial_pre_omega
      refine ⟨rfl, q, L, rfl, hq, by omega, ?_⟩
      exact h⟩
theorem tyD_dat (m : Mu) : ∀ p : Pt, DL.tyD m p.dat = some "tuple"
  | .alw _ => rfl
  | .wd .. => rfl
  | .neg _ => rfl
  | .jn .. => rfl

def spInner : DL.Spec := fun ds m F _ => ds.length = 1 ∧ ∃ p : Pt, ds = [p.dat] ∧ (Nat → Nat → Nat → False → True) ∧ F (.lst (p.kids.map Pt.dat)) m
theorem ok_inner (T : Txt K mg) : DO P wd K mg base 1 T.f_inner ["parts"] spInner :=
  dfo T.a_inner.fn sc_inner (fun ds m F Z h => h.1) fun cdv A outer s H E ds m G Z hr hB h => ⟨_, (dss_one (ds_ret (de_lc rfl sc_inner.nd (di_any (de_sl (dv 0) (do_some de_int) do_none)) (blkOk_by (own := [("part", 1)]) (N := n_inner) (sc := defScope s_inner) (by first | decide +kernel | kernel_rfl)) (fun _ _ _ _ _ => (dg_name (i := 1) sc_inner.nd rfl (Or.inl rfl))) (fun _ _ _ _ _ => (dts_one (dt_val (de_isi (T := "tuple") (by decide) (by rfl) T.z_isinstance (by decide +kernel) (by rfl) T.z_tuple (by decide +kernel) (dv 1))))) (fun _ _ _ _ _ => (dv 1))))), by
    rcases h with ⟨hlen, h⟩
    obtain ⟨p, rfl, hp, h⟩ := h
    cases p with
    | alw b =>
      unfold Pt.dat
      rw [st_inner]
      repeat' decreasing_trivial_pre_omega
      refine ⟨by rw [sizeLine_eq]; exact (by decide : 1 < 16777216), ?_⟩
      refine comp_c trivial ?_
      repeat' decreasing_trivial_pre_omega
      exact ⟨trivial, h⟩
    | wd k e a =>
      unfold Pt.dat
      rw [st_inner]
      repeat' decreasing_trivial_pre_omega
      refine ⟨by rw [sizeLine_eq]; exact (by decide : 2 < 16777216), ?_⟩
      refine comp_c trivial ?_
      repeat' decreasing_trivial_pre_omega
      refine comp_c trivial ?_
      repeat' decreasing_trivial_pre_omega
      exact ⟨trivial, h⟩
    | neg p =>
      unfold Pt.dat
      rw [st_inner]
      repeat' decreasing_trivial_pre_omega
      refine ⟨by rw [sizeLine_eq]; exact (by decide : 1 < 16777216), ?_⟩
      refine comp_c trivial ?_
      repeat' decreasing_trivial_pre_omega
      refine u_ty (tyD_dat _ p) ?_
      repeat' decreasing_trivial_pre_omega
      exact ⟨trivial, h⟩
    | jn w p q =>
      unfold Pt.dat
      rw [st_inner]
      repeat' decreasing_trivial_pre_omega
      refine ⟨by rw [sizeLine_eq]; exact (by decide : 2 < 16777216), ?_⟩
      refine comp_c trivial ?_
      repeat' decreasing_trivial_pre_omega
      refine u_ty (tyD_dat _ p) ?_
      repeat' decreasing_trivial_pre_omega
      refine comp_c trivial ?_
      repeat' decreasing_trivial_pre_omega
      refine u_ty (tyD_dat _ q) ?_
      repeat' decreasing_trivial_pre_omega
      exact ⟨trivial, h⟩⟩


end
section
local macro_rules | `(tactic| decreasing_trivial_pre_omega) => `(tactic| with_reducible first | (apply p_methO; (· with_unfolding_all rfl)) | fail "no")
local macro_rules | `(tactic| decreasing_trivial_pre_omega) => `(tactic| with_reducible refine p_insO ?_)
local macro_rules | `(tactic| decreasing_trivial_pre_omega) => `(tactic| with_reducible refine p_srcS ?_)
local macro_rules | `(tactic| decreasing_trivial_pre_omega) => `(tactic| with_reducible refine p_srcL ?_)
local macro_rules | `(tactic| decreasing_trivial_pre_omega) => `(tactic| with_reducible refine p_srcT ?_)
local macro_rules | `(tactic| decreasing_trivial_pre_omega) => `(tactic| with_reducible refine u_any ?_)
local macro_rules | `(tactic| decreasing_trivial_pre_omega) => `(tactic| with_reducible refine p_min ?_)
local macro_rules | `(tactic| decreasing_trivial_pre_omega) => `(tactic| with_reducible refine p_max ?_)
local macro_rules | `(tactic| decreasing_trivial_pre_omega) => `(tactic| with_reducible refine p_own1 ?_)
local macro_rules | `(tactic| decreasing_trivial_pre_omega) => `(tactic| with_reducible refine p_own ?_)
local macro_rules | `(tactic| decreasing_trivial_pre_omega) => `(tactic| with_reducible first | (apply p_setF; (· assumption); (· with_unfolding_all exact Nat.le_of_ble_eq_true rfl)) | fail "no")
local macro_rules | `(tactic| decreasing_trivial_pre_omega) => `(tactic| with_reducible first | (apply p_setF'; (· with_unfolding_all exact Nat.le_of_ble_eq_true rfl)) | fail "no")
local macro_rules | `(tactic| decreasing_trivial_pre_omega) => `(tactic| with_reducible refine u_setF ?_)
local macro_rules | `(tactic| decreasing_trivial_pre_omega) => `(tactic| with_reducible refine u_make ?_)
local macro_rules | `(tactic| decreasing_trivial_pre_omega) => `(tactic| with_reducible refine u_meth ?_)
local macro_rules | `(tactic| decreasing_trivial_pre_omega) => `(tactic| with_reducible refine u_prop ?_)
local macro_rules | `(tactic| decreasing_trivial_pre_omega) => `(tactic| with_reducible first | (apply p_fldR; (· first | exact DL.Mu.set_same _ _ _ | assumption); (· with_unfolding_all rfl)) | fail "no")
local macro_rules | `(tactic| decreasing_trivial_pre_omega) => `(tactic| with_reducible first | (apply p_fldO; (· with_unfolding_all rfl)) | fail "no")
local macro_rules | `(tactic| decreasing_trivial_pre_omega) => `(tactic| with_reducible refine u_fld ?_)
local macro_rules | `(tactic| decreasing_trivial_pre_omega) => `(tactic| with_reducible refine u_callI ?_)
local macro_rules | `(tactic| decreasing_trivial_pre_omega) => `(tactic| with_reducible refine p_isiO ?_)
local macro_rules | `(tactic| decreasing_trivial_pre_omega) => `(tactic| with_reducible refine u_isiO ?_)
local macro_rules | `(tactic| decreasing_trivial_pre_omega) => `(tactic| with_reducible refine p_dgn ?_)
local macro_rules | `(tactic| decreasing_trivial_pre_omega) => `(tactic| with_reducible refine p_dgc ?_)
local macro_rules | `(tactic| decreasing_trivial_pre_omega) => `(tactic| with_reducible first | (apply p_dgL; (· with_unfolding_all rfl)) | fail "no")
local macro_rules | `(tactic| decreasing_trivial_pre_omega) => `(tactic| with_reducible first | (apply p_dgT; (· with_unfolding_all rfl)) | fail "no")
local macro_rules | `(tactic| decreasing_trivial_pre_omega) => `(tactic| with_reducible refine p_par ?_)
local macro_rules | `(tactic| decreasing_trivial_pre_omega) => `(tactic| with_reducible refine p_ends ?_)
local macro_rules | `(tactic| decreasing_trivial_pre_omega) => `(tactic| with_reducible refine u_for ?_)
local macro_rules | `(tactic| decreasing_trivial_pre_omega) => `(tactic| with_reducible first | (apply p_mulS'; (· omega); (· omega); (· omega)) | fail "no")
local macro_rules | `(tactic| decreasing_trivial_pre_omega) => `(tactic| with_reducible first | (apply p_fdiv; (· omega); (· exact log_small (by omega) (by omega))) | fail "no")

local macro_rules | `(tactic| decreasing_trivial_pre_omega) => `(tactic| with_reducible refine u_dget ?_)
local macro_rules | `(tactic| decreasing_trivial_pre_omega) => `(tactic| with_reducible refine u_pnil ?_)
local macro_rules | `(tactic| decreasing_trivial_pre_omega) => `(tactic| with_reducible refine u_pcons ?_)
local macro_rules | `(tactic| decreasing_trivial_pre_omega) => `(tactic| with_reducible refine u_dict ?_)
local macro_rules | `(tactic| decreasing_trivial_pre_omega) => `(tactic| with_reducible refine u_lc2 ?_)
local macro_rules | `(tactic| decreasing_trivial_pre_omega) => `(tactic| with_reducible first | (apply c_get; (· assumption)) | fail "no")
local macro_rules | `(tactic| decreasing_trivial_pre_omega) => `(tactic| with_reducible first | (apply c_bits; (· assumption)) | fail "no")
local macro_rules | `(tactic| decreasing_trivial_pre_omega) => `(tactic| with_reducible first | (apply p_ninT; (· with_unfolding_all rfl); (· with_unfolding_all rfl)) | fail "no")
/-- the words of rules one behind another, rule by rule -/
theorem comp_words {m : Mu} {r : Ro} {i j : Nat} {te : DL.WE} {FL : List Dat → Mu → Prop} {gd : Mu → Prop} {wi1 : DL.WI} (hgd : gd m)
    (P : Pt → Prop) (hit : ∀ (p : Pt), P p → ∀ (k : DL.Src → Mu → Prop), k ⟨p.words.map wdD, DL.gTrue⟩ m → wi1 (r.set i (some p.dat)) m k)
    (hte : ∀ (p : Pt) (w : Dat) (k : Dat → Mu → Prop), k w m → te ((DL.dwipe (r.set i (some p.dat)) [j]).set j (some w)) m k) :
    ∀ (ps : List Pt) (acc : List Dat), (∀ p ∈ ps, P p) → acc.length + (ps.flatMap Pt.words).length < sizeLine → FL (acc ++ (ps.flatMap Pt.words).map wdD) m → DL.dcomp2 gd (dgName i) dYes wi1 (dgName j) dYes te r [j] FL (ps.map Pt.dat) acc m
  | [], acc, _, _, h => ⟨hgd, by simpa using h⟩
  | p :: ps, acc, hP, hz, h => by
    rw [List.flatMap_cons, List.length_append] at hz
    refine ⟨hgd, ?_⟩
    refine u_name ?_
    refine u_yes ?_
    rw [if_pos rfl]
    refine hit p (hP p (by simp)) _ ?_
    refine ⟨by simp only [List.length_map]; omega, ?_⟩
    refine dcomp_map (gd := DL.gTrue) wdD wdD trivial p.words acc (fun w _ k hk => ?_) ?_
    · exact hte p (wdD w) k hk
    · refine comp_words hgd P hit hte ps _ (fun p hp => hP p (by simp [hp])) (by rw [List.length_append, List.length_map]; omega) ?_
      rw [List.flatMap_cons, List.map_append] at h
      simpa [List.append_assoc] using h
def spWr (n : Nat) : DL.Spec := fun ds m F _ => ds.length = 1 ∧ ∃ (p : Pt) (L : Nat), ds = [p.dat] ∧ p.Ok L ∧ p.dp ≤ n ∧ p.words.length ≤ 100000 ∧ F (.lst (p.words.map wdD)) m
theorem no_written : ∀ ds m G Z, ¬ spWr 0 ds m G Z := fun ds m G Z ⟨_, p, L, _, _, h, _⟩ => by have := p.dp_pos; omega
theorem ok_written (T : Txt K mg) (n : Nat) : DO P wd K mg base (2 + n) T.f_written ["parts"] (spWr n) := by
  induction n with
  | zero => exact dfoF T.a_written.fn no_written
  | succ n ih => exact dfo (k := 2 + n) T.a_written.fn sc_written (fun ds m F Z h => h.1) fun cdv A outer s H E ds m G Z hr hB h => ⟨_, (dss_cons (ds_if (dt_val (de_callO (ok_is_reader T) (hr.mono (by omega)) (by rfl) T.a_is_reader.gl (da_cons (de_ix (dv 0) de_int) da_nil)))
      (dss_one (ds_ret (de_lst (da_cons (dv 0) da_nil))))
      dss_nil)
    (dss_one (ds_ret (de_lc2 (vs1 := [2]) rfl sc_written.nd (di_any (de_callO (ok_inner T) (hr.mono (by omega)) (by rfl) T.a_inner.gl (da_cons (dv 0) da_nil))) (blkOk_by (own := [("part", 1), ("word", 2)]) (N := n_written) (sc := defScope s_written) (by first | decide +kernel | kernel_rfl)) (by decide) (fun _ _ _ _ _ => (dg_name (i := 1) sc_written.nd rfl (Or.inl rfl))) (fun _ _ _ _ _ => dts_nil) (fun _ _ _ _ _ => (di_any (de_callO ih (hr.mono (by omega)) (by rfl) T.a_written.gl (da_cons (dv 1) da_nil)))) (fun _ _ _ _ _ => (dg_name (i := 2) sc_written.nd rfl (Or.inl rfl))) (fun _ _ _ _ _ => dts_nil) (fun _ _ _ _ _ => (dv 2)))))), by
    rcases h with ⟨hlen, h⟩
    obtain ⟨p, L, rfl, hp, hd, hz, h⟩ := h
    cases p with
    | wd k e a =>
      unfold Pt.dat
      rw [st_written]
      repeat' decreasing_trivial_pre_omega
      refine c_reader (isRd_rd k hp.1) ?_
      repeat' decreasing_trivial_pre_omega
      exact h
    | alw b =>
      unfold Pt.dat
      rw [st_written]
      repeat' decreasing_trivial_pre_omega
      refine c_reader (b := false) (by decide +kernel) ?_
      repeat' decreasing_trivial_pre_omega
      refine ⟨rfl, .alw b, rfl, (by intro _ _ _ z; cases z), ?_⟩
      repeat' decreasing_trivial_pre_omega
      exact ⟨trivial, h⟩
    | neg p =>
      have hd : p.dp + 1 ≤ n + 1 := hd
      unfold Pt.dat
      rw [st_written]
      repeat' decreasing_trivial_pre_omega
      refine c_reader (b := false) (by decide +kernel) ?_
      repeat' decreasing_trivial_pre_omega
      refine ⟨rfl, .neg p, rfl, (by intro _ _ _ z; cases z), ?_⟩
      repeat' decreasing_trivial_pre_omega
      have hz : p.words.length ≤ 100000 := hz
      refine comp_words trivial (fun p => p.Ok L ∧ p.dp ≤ n ∧ p.words.length ≤ 100000) (fun p hP k hk => ?_) (fun p w k hk => ?_) [p] [] ?_ ?_ ?_
      · repeat' decreasing_trivial_pre_omega
        refine ⟨rfl, p, L, rfl, hP.1, hP.2.1, hP.2.2, ?_⟩
        repeat' decreasing_trivial_pre_omega
        exact hk
      · repeat' decreasing_trivial_pre_omega
        exact hk
      · intro p hp
        obtain rfl := List.mem_singleton.mp hp
        exact ⟨by assumption, by omega, hz⟩
      · rw [sizeLine_eq]; simp; omega
      · have h : G (.lst (p.words.map wdD)) m := h
        simpa using h
    | jn w p q =>
      obtain ⟨hw, hp, hq⟩ := hp
      have hd : max p.dp q.dp + 1 ≤ n + 1 := hd
      unfold Pt.dat
      rw [st_written]
      repeat' decreasing_trivial_pre_omega
      refine c_reader (b := false) (by rcases w3 hw with rfl | rfl | rfl <;> decide +kernel) ?_
      repeat' decreasing_trivial_pre_omega
      refine ⟨rfl, .jn w p q, rfl, (by intro _ _ _ z; cases z), ?_⟩
      repeat' decreasing_trivial_pre_omega
      have hz : (p.words ++ q.words).length ≤ 100000 := hz
      rw [List.length_append] at hz
      refine comp_words trivial (fun p => p.Ok L ∧ p.dp ≤ n ∧ p.words.length ≤ 100000) (fun p hP k hk => ?_) (fun p w k hk => ?_) [p, q] [] ?_ ?_ ?_
      · repeat' decreasing_trivial_pre_omega
        refine ⟨rfl, p, L, rfl, hP.1, hP.2.1, hP.2.2, ?_⟩
        repeat' decreasing_trivial_pre_omega
        exact hk
      · repeat' decreasing_trivial_pre_omega
        exact hk
      · intro x hx
        rcases List.mem_cons.mp hx with rfl | hx
        · exact ⟨hp, by omega, by omega⟩
        · obtain rfl := List.mem_singleton.mp hx
          exact ⟨hq, by omega, by omega⟩
      · rw [sizeLine_eq]; simp; omega
      · have h : G (.lst ((p.words ++ q.words).map wdD)) m := h
        simpa using h⟩


end
section
local macro_rules | `(tactic| decreasing_trivial_pre_omega) => `(tactic| with_reducible first | (apply p_methO; (· with_unfolding_all rfl)) | fail "no")
local macro_rules | `(tactic| decreasing_trivial_pre_omega) => `(tactic| with_reducible refine p_insO ?_)
local macro_rules | `(tactic| decreasing_trivial_pre_omega) => `(tactic| with_reducible refine p_srcS ?_)
local macro_rules | `(tactic| decreasing_trivial_pre_omega) => `(tactic| with_reducible refine p_srcL ?_)
local macro_rules | `(tactic| decreasing_trivial_pre_omega) => `(tactic| with_reducible refine p_srcT ?_)
local macro_rules | `(tactic| decreasing_trivial_pre_omega) => `(tactic| with_reducible refine u_any ?_)
local macro_rules | `(tactic| decreasing_trivial_pre_omega) => `(tactic| with_reducible refine p_min ?_)
local macro_rules | `(tactic| decreasing_trivial_pre_omega) => `(tactic| with_reducible refine p_max ?_)
local macro_rules | `(tactic| decreasing_trivial_pre_omega) => `(tactic| with_reducible refine p_own1 ?_)
local macro_rules | `(tactic| decreasing_trivial_pre_omega) => `(tactic| with_reducible refine p_own ?_)
local macro_rules | `(tactic| decreasing_trivial_pre_omega) => `(tactic| with_reducible first | (apply p_setF; (· assumption); (· with_unfolding_all exact Nat.le_of_ble_eq_true rfl)) | fail "no")
local macro_rules | `(tactic| decreasing_trivial_pre_omega) => `(tactic| with_reducible first | (apply p_setF'; (· with_unfolding_all exact Nat.le_of_ble_eq_true rfl)) | fail "no")
local macro_rules | `(tactic| decreasing_trivial_pre_omega) => `(tactic| with_reducible refine u_setF ?_)
local macro_rules | `(tactic| decreasing_trivial_pre_omega) => `(tactic| with_reducible refine u_make ?_)
local macro_rules | `(tactic| decreasing_trivial_pre_omega) => `(tactic| with_reducible refine u_meth ?_)
local macro_rules | `(tactic| decreasing_trivial_pre_omega) => `(tactic| with_reducible refine u_prop ?_)
local macro_rules | `(tactic| decreasing_trivial_pre_omega) => `(tactic| with_reducible first | (apply p_fldR; (· first | exact DL.Mu.set_same _ _ _ | assumption); (· with_unfolding_all rfl)) | fail "no")
local macro_rules | `(tactic| decreasing_trivial_pre_omega) => `(tactic| with_reducible first | (apply p_fldO; (· with_unfolding_all rfl)) | fail "no")
local macro_rules | `(tactic| decreasing_trivial_pre_omega) => `(tactic| with_reducible refine u_fld ?_)
local macro_rules | `(tactic| decreasing_trivial_pre_omega) => `(tactic| with_reducible refine u_callI ?_)
local macro_rules | `(tactic| decreasing_trivial_pre_omega) => `(tactic| with_reducible refine p_isiO ?_)
local macro_rules | `(tactic| decreasing_trivial_pre_omega) => `(tactic| with_reducible refine u_isiO ?_)
local macro_rules | `(tactic| decreasing_trivial_pre_omega) => `(tactic| with_reducible refine p_dgn ?_)
local macro_rules | `(tactic| decreasing_trivial_pre_omega) => `(tactic| with_reducible refine p_dgc ?_)
local macro_rules | `(tactic| decreasing_trivial_pre_omega) => `(tactic| with_reducible first | (apply p_dgL; (· with_unfolding_all rfl)) | fail "no")
local macro_rules | `(tactic| decreasing_trivial_pre_omega) => `(tactic| with_reducible first | (apply p_dgT; (· with_unfolding_all rfl)) | fail "no")
local macro_rules | `(tactic| decreasing_trivial_pre_omega) => `(tactic| with_reducible refine p_par ?_)
local macro_rules | `(tactic| decreasing_trivial_pre_omega) => `(tactic| with_reducible refine p_ends ?_)
local macro_rules | `(tactic| decreasing_trivial_pre_omega) => `(tactic| with_reducible refine u_for ?_)
local macro_rules | `(tactic| decreasing_trivial_pre_omega) => `(tactic| with_reducible first | (apply p_mulS'; (· omega); (· omega); (· omega)) | fail "no")
local macro_rules | `(tactic| decreasing_trivial_pre_omega) => `(tactic| with_reducible first | (apply p_fdiv; (· omega); (· exact log_small (by omega) (by omega))) | fail "no")

local macro_rules | `(tactic| decreasing_trivial_pre_omega) => `(tactic| with_reducible first | (apply p_lcm; (· omega); (· omega); (· omega); (· omega)) | fail "no")
local macro_rules | `(tactic| decreasing_trivial_pre_omega) => `(tactic| with_reducible refine u_dget ?_)
local macro_rules | `(tactic| decreasing_trivial_pre_omega) => `(tactic| with_reducible refine u_pnil ?_)
local macro_rules | `(tactic| decreasing_trivial_pre_omega) => `(tactic| with_reducible refine u_pcons ?_)
local macro_rules | `(tactic| decreasing_trivial_pre_omega) => `(tactic| with_reducible refine u_dict ?_)
local macro_rules | `(tactic| decreasing_trivial_pre_omega) => `(tactic| with_reducible refine u_lc2 ?_)
local macro_rules | `(tactic| decreasing_trivial_pre_omega) => `(tactic| with_reducible first | (apply c_get; (· assumption)) | fail "no")
local macro_rules | `(tactic| decreasing_trivial_pre_omega) => `(tactic| with_reducible first | (apply c_bits; (· assumption)) | fail "no")
local macro_rules | `(tactic| decreasing_trivial_pre_omega) => `(tactic| with_reducible first | (apply p_ninT; (· with_unfolding_all rfl); (· with_unfolding_all rfl)) | fail "no")
theorem leadW_snoc (ws : List (Nat × Str × Str)) (w : Nat × Str × Str) : leadW (ws ++ [w]) = max (leadW ws) w.2.1.length := by unfold leadW; rw [List.foldl_append]; rfl
theorem perW_snoc (ws : List (Nat × Str × Str)) (w : Nat × Str × Str) : perW (ws ++ [w]) = Nat.lcm (perW ws) w.2.2.length := by unfold perW; rw [List.foldl_append]; rfl
theorem perW_ok {L : Nat} : ∀ {ws : List (Nat × Str × Str)}, (∀ w ∈ ws, 1 ≤ w.2.2.length ∧ w.2.2.length ∣ L) → 0 < perW ws ∧ perW ws ∣ L := by
  intro ws h
  have key : ∀ (ws : List (Nat × Str × Str)) (a : Nat), 0 < a → a ∣ L → (∀ w ∈ ws, 1 ≤ w.2.2.length ∧ w.2.2.length ∣ L) → 0 < ws.foldl (fun l w => Nat.lcm l w.2.2.length) a ∧ ws.foldl (fun l w => Nat.lcm l w.2.2.length) a ∣ L := by
    intro ws
    induction ws with
    | nil => intro a h1 h2 _; exact ⟨h1, h2⟩
    | cons w ws ih =>
      intro a h1 h2 h3
      obtain ⟨g1, g2⟩ := h3 w (by simp)
      exact ih _ (Nat.lcm_pos h1 g1) (Nat.lcm_dvd h2 g2) fun x hx => h3 x (by simp [hx])
  exact key ws 1 (by decide) (Nat.one_dvd _) h
theorem leadW_le {M : Nat} : ∀ {ws : List (Nat × Str × Str)}, (∀ w ∈ ws, w.2.1.length ≤ M) → leadW ws ≤ M := by
  intro ws h
  have key : ∀ (ws : List (Nat × Str × Str)) (a : Nat), a ≤ M → (∀ w ∈ ws, w.2.1.length ≤ M) → ws.foldl (fun l w => max l w.2.1.length) a ≤ M := by
    intro ws
    induction ws with
    | nil => intro a h1 _; exact h1
    | cons w ws ih =>
      intro a h1 h3
      exact ih _ (Nat.max_le.mpr ⟨h1, h3 w (by simp)⟩) fun x hx => h3 x (by simp [hx])
  exact key ws 0 (Nat.zero_le _) h
structure POk (L : Nat) (p : Pt) : Prop where
  ok : p.Ok L
  dp : p.dp ≤ 24
  sz : p.words.length ≤ 100000
  l0 : 0 < L
  l1 : L < 2 ^ 20
def spRInit (C : Addr) : DL.Spec := fun ds m F _ => ds.length = 2 ∧ ∃ (n : Nat) (p : Pt) (L : Nat), ds = [.ref n, p.dat] ∧ m n = some (.ins C []) ∧ POk L p ∧ F .non (m.set n (.ins C (ruleFs p)))
theorem ok_Rule___init__ (T : Txt K mg) : DO P wd K mg base 30 T.f_Rule___init__ ["self", "parts"] (spRInit T.C_Rule) :=
  dfo T.a_Rule___init__ sc_Rule___init__ (fun ds m F Z h => h.1) fun cdv A outer s H E ds m G Z hr hB h => ⟨_, (dss_cons (ds_setF T.cl_Rule T.nk_Rule__parts (dv 0) (dv 1))
    (dss_cons (ds_set (i := 2) sc_Rule___init__.nd rfl (Or.inl rfl) de_int)
    (dss_cons (ds_set (i := 3) sc_Rule___init__.nd rfl (Or.inl rfl) de_int)
    (dss_cons (ds_for PassesOwn.never rfl (di_any (de_callO (ok_written T 24) (hr.mono (by decide)) (by rfl) T.a_written.gl (da_cons (dv 1) da_nil))) (dg_seq (n := 3) rfl (dgs_cons (dg_name (i := 4) sc_Rule___init__.nd rfl (Or.inl rfl)) (dgs_cons (dg_name (i := 5) sc_Rule___init__.nd rfl (Or.inl rfl)) (dgs_cons (dg_name (i := 6) sc_Rule___init__.nd rfl (Or.inl rfl)) dgs_nil))))
      (dss_cons (ds_set (i := 2) sc_Rule___init__.nd rfl (Or.inl rfl) (de_callB (c_max2 rfl) (by rfl) T.z_max (by decide +kernel) (da_cons (dv 2) (da_cons (de_callB c_len (by rfl) T.z_len (by decide +kernel) (da_cons (dv 5) da_nil)) da_nil))))
    (dss_one (ds_set (i := 3) sc_Rule___init__.nd rfl (Or.inl rfl) (de_callBf c_lcm (by rfl) T.b_lcm (da_cons (dv 3) (da_cons (de_callB c_len (by rfl) T.z_len (by decide +kernel) (da_cons (dv 6) da_nil)) da_nil)))))))
    (dss_cons (ds_setF T.cl_Rule T.nk_Rule__lead (dv 0) (dv 2))
    (dss_one (ds_setF T.cl_Rule T.nk_Rule__period (dv 0) (dv 3)))))))), by
    rcases h with ⟨hlen, h⟩
    obtain ⟨n, p, L, rfl, hm, hp, h⟩ := h
    rw [st_Rule___init__]
    repeat' decreasing_trivial_pre_omega
    refine ⟨rfl, p, L, rfl, hp.ok, hp.dp, hp.sz, ?_⟩
    repeat' decreasing_trivial_pre_omega
    refine loop_ind' (fun xs r m' => ∃ (ws1 ws2 : List (Nat × Str × Str)) (o4 o5 o6 : Option Dat), p.words = ws1 ++ ws2 ∧ xs = ws2.map wdD ∧ r = [some (.ref n), some p.dat, some (.int (leadW ws1 : Nat)), some (.int (perW ws1 : Nat)), o4, o5, o6] ∧ m' = m.set n (.ins T.C_Rule [("_parts", p.dat)])) ?_ ?_ _ _ _ ⟨[], p.words, none, none, none, rfl, rfl, rfl, rfl⟩
    · rintro r m' ⟨ws1, ws2, o4, o5, o6, hw, hx, rfl, rfl⟩
      obtain rfl : ws2 = [] := by cases ws2 with
        | nil => rfl
        | cons _ _ => cases hx
      rw [List.append_nil] at hw
      refine ⟨trivial, ?_⟩
      repeat' decreasing_trivial_pre_omega
      rw [DL.Mu.set_set, DL.Mu.set_set]
      unfold ruleFs Pt.lead Pt.per at h
      rw [hw] at h
      exact h
    · rintro x xs r m' ⟨ws1, ws2, o4, o5, o6, hw, hx, rfl, rfl⟩ ih
      cases ws2 with
      | nil => cases hx
      | cons w ws2 =>
        rw [List.map_cons, List.cons.injEq] at hx
        obtain ⟨rfl, rfl⟩ := hx
        have hall := Pt.words_ok hp.ok
        obtain ⟨g1, g2, g3⟩ := hall w (by rw [hw]; simp)
        obtain ⟨g4, g5⟩ := perW_ok (L := L) (ws := ws1) fun z hz => by
          obtain ⟨_, a2, a3⟩ := hall z (by rw [hw]; simp [hz])
          exact ⟨a2.na, a3⟩
        have g6 := Nat.le_of_dvd hp.l0 g5
        have g7 := hp.l1
        have g8 := g2.le
        have g9 := g2.la
        have g10 := g2.na
        refine loop_c' trivial ?_
        unfold wdD
        repeat' decreasing_trivial_pre_omega
        have e1 : (max (leadW ws1 : Int) (w.2.1.length : Int)) = ((leadW (ws1 ++ [w]) : Nat) : Int) := by rw [leadW_snoc]; omega
        have e2 : ((Nat.lcm (perW ws1 : Int).natAbs (w.2.2.length : Int).natAbs : Nat) : Int) = ((perW (ws1 ++ [w]) : Nat) : Int) := by rw [perW_snoc, Int.natAbs_natCast, Int.natAbs_natCast]
        exact ih _ _ ⟨ws1 ++ [w], ws2, some (.str (rdS w.1)), some (.str w.2.1), some (.str w.2.2), by rw [hw]; simp, rfl, by rw [← e1, ← e2]; rfl, rfl⟩⟩
theorem POk.neg {L : Nat} {p : Pt} (h : POk L p) (hd : p.dp ≤ 23) : POk L (.neg p) := ⟨h.ok, by show p.dp + 1 ≤ 24; omega, h.sz, h.l0, h.l1⟩
theorem POk.jn {L w : Nat} {p q : Pt} (hw : w < 3) (h : POk L p) (k : POk L q) (hd : p.dp ≤ 23) (kd : q.dp ≤ 23) (hz : p.words.length + q.words.length ≤ 100000) : POk L (.jn w p q) :=
  ⟨⟨hw, h.ok, k.ok⟩, by show max p.dp q.dp + 1 ≤ 24; omega, by show (p.words ++ q.words).length ≤ 100000; rw [List.length_append]; exact hz, h.l0, h.l1⟩
theorem c_mkR {C : Addr} {p : Pt} {L n : Nat} {m : Mu} {F : KD} {Z : KX} (hn : m n = none) (hp : POk L p) (h : F (RuleD C p) m) :
    spRInit C [.ref n, p.dat] (m.set n (.ins C [])) (fun v m2 => v = .non ∧ ∃ gs, m2 n = some (.ins C gs) ∧ F (.obj C gs) (m2.del n)) Z :=
  ⟨rfl, n, p, L, rfl, DL.Mu.set_same .., hp, rfl, ruleFs p, by rw [DL.Mu.set_set, DL.Mu.set_same], by rw [DL.Mu.set_set, DL.Mu.set_del _ _ _ hn]; exact h⟩
def spROf (C : Addr) : DL.Spec := fun ds m F _ => ds.length = 1 ∧ ∃ (p : Pt) (L : Nat), ds = [p.dat] ∧ POk L p ∧ F (RuleD C p) m
theorem ok_Rule_of (T : Txt K mg) : DO P wd K mg base 34 T.f_Rule_of ["parts"] (spROf T.C_Rule) :=
  dfo T.a_Rule_of sc_Rule_of (fun ds m F Z h => h.1) fun cdv A outer s H E ds m G Z hr hB h => ⟨_, (dss_cons (ds_if (dt_not (dt_val (de_callO (ok_are_parts T 24) (hr.mono (by decide)) (by rfl) T.a_are_parts.gl (da_cons (dv 0) da_nil))))
      dss_never
      dss_nil)
    (dss_one (ds_ret (de_make T.mk_Rule (ok_Rule___init__ T) (hr.mono (by decide)) (by rfl) T.mg_Rule (da_cons (dv 0) da_nil))))), by
    rcases h with ⟨hlen, h⟩
    obtain ⟨p, L, rfl, hp, h⟩ := h
    rw [st_Rule_of]
    repeat' decreasing_trivial_pre_omega
    refine ⟨rfl, p, L, rfl, hp.ok, hp.dp, ?_⟩
    repeat' decreasing_trivial_pre_omega
    intro n hn
    exact c_mkR hn hp h⟩

def spRGet (C : Addr) (f : Pt → Dat) : DL.Spec := fun ds m F _ => ds.length = 1 ∧ ∃ p, ds = [RuleD C p] ∧ F (f p) m
theorem ok_Rule_lead (T : Txt K mg) : DO P wd K mg base 1 T.f_Rule_lead ["self"] (spRGet T.C_Rule fun p => .int p.lead) :=
  dfo T.a_Rule_lead sc_Rule_lead (fun ds m F Z h => h.1) fun cdv A outer s H E ds m G Z hr hB h => ⟨_, (dss_one (ds_ret (de_fld T.cl_Rule T.nk_Rule__lead (dv 0)))), by
    rcases h with ⟨hlen, h⟩
    obtain ⟨p, rfl, h⟩ := h
    unfold RuleD ruleFs
    rw [st_Rule_lead]
    repeat' decreasing_trivial_pre_omega
    exact h⟩
theorem ok_Rule_period (T : Txt K mg) : DO P wd K mg base 1 T.f_Rule_period ["self"] (spRGet T.C_Rule fun p => .int p.per) :=
  dfo T.a_Rule_period sc_Rule_period (fun ds m F Z h => h.1) fun cdv A outer s H E ds m G Z hr hB h => ⟨_, (dss_one (ds_ret (de_fld T.cl_Rule T.nk_Rule__period (dv 0)))), by
    rcases h with ⟨hlen, h⟩
    obtain ⟨p, rfl, h⟩ := h
    unfold RuleD ruleFs
    rw [st_Rule_period]
    repeat' decreasing_trivial_pre_omega
    exact h⟩

local macro_rules | `(tactic| decreasing_trivial_pre_omega) => `(tactic| with_reducible first | (apply p_dkeys; (· with_unfolding_all rfl); (· decide); (· with_unfolding_all rfl)) | fail "no")
local macro_rules | `(tactic| decreasing_trivial_pre_omega) => `(tactic| with_reducible refine u_dget ?_)
local macro_rules | `(tactic| decreasing_trivial_pre_omega) => `(tactic| with_reducible refine u_pnil ?_)
local macro_rules | `(tactic| decreasing_trivial_pre_omega) => `(tactic| with_reducible refine u_pcons ?_)
local macro_rules | `(tactic| decreasing_trivial_pre_omega) => `(tactic| with_reducible refine u_dict ?_)
local macro_rules | `(tactic| decreasing_trivial_pre_omega) => `(tactic| with_reducible refine u_lc2 ?_)
local macro_rules | `(tactic| decreasing_trivial_pre_omega) => `(tactic| with_reducible first | (apply c_get; (· assumption)) | fail "no")
local macro_rules | `(tactic| decreasing_trivial_pre_omega) => `(tactic| with_reducible first | (apply c_bits; (· assumption)) | fail "no")
local macro_rules | `(tactic| decreasing_trivial_pre_omega) => `(tactic| with_reducible first | (apply p_ninT; (· with_unfolding_all rfl); (· with_unfolding_all rfl)) | fail "no")
def spNums : DL.Spec := fun ds m F _ => ds.length = 5 ∧ ∃ r i j n k : Int, ds = [.int r, .int i, .int j, .int n, .int k] ∧ NumOk r i j n k ∧ F (numsD r i j n k) m
theorem ok_numbers_at (T : Txt K mg) : DO P wd K mg base 1 T.f_numbers_at ["r", "i", "j", "suns", "moons"] spNums :=
  dfo T.a_numbers_at.fn sc_numbers_at (fun ds m F Z h => h.1) fun cdv A outer s H E ds m G Z hr hB h => ⟨_, (dss_one (ds_ret (de_dict (dps_cons de_str (de_op o_add (de_op o_mul (dv 0) (dv 4)) (dv 2)) (dps_cons de_str (de_op o_add (de_op o_mul (dv 0) (dv 3)) (dv 1)) (dps_cons de_str (dv 0) (dps_cons de_str (dv 1) (dps_cons de_str (dv 2) dps_nil)))))))), by
    rcases h with ⟨hlen, h⟩
    obtain ⟨r, i, j, n, k, rfl, hn, h⟩ := h
    rw [st_numbers_at]
    repeat' decreasing_trivial_pre_omega
    refine p_mulI (hn.r.mul hn.m) ?_
    repeat' decreasing_trivial_pre_omega
    refine p_mulI (hn.r.mul hn.n) ?_
    repeat' decreasing_trivial_pre_omega
    exact h⟩
theorem nums_look {r i j n m : Int} {k : Nat} (hk : k < 5) : ∃ ky ds, DL.dctD (fun _ => none) (numsD r i j n m) = some ds ∧ DL.keyD (.str (rdS k)) = some ky ∧ (∃ ks, DL.keysD (ds.map (·.1)) = some ks) ∧ DL.lookD ds ky = some (.int (numN r i j n m k)) := by
  rcases k5 hk with rfl | rfl | rfl | rfl | rfl
  all_goals exact ⟨_, _, rfl, rfl, ⟨_, rfl⟩, by first | rfl | with_unfolding_all rfl⟩

theorem ok_Rule_parts (T : Txt K mg) : DO P wd K mg base 1 T.f_Rule_parts ["self"] (spRGet T.C_Rule fun p => p.dat) :=
  dfo T.a_Rule_parts sc_Rule_parts (fun ds m F Z h => h.1) fun cdv A outer s H E ds m G Z hr hB h => ⟨_, (dss_one (ds_ret (de_fld T.cl_Rule T.nk_Rule__parts (dv 0)))), by
    rcases h with ⟨hlen, h⟩
    obtain ⟨p, rfl, h⟩ := h
    unfold RuleD ruleFs
    rw [st_Rule_parts]
    repeat' decreasing_trivial_pre_omega
    exact h⟩


end
section
local macro_rules | `(tactic| decreasing_trivial_pre_omega) => `(tactic| with_reducible first | (apply p_methO; (· with_unfolding_all rfl)) | fail "no")
local macro_rules | `(tactic| decreasing_trivial_pre_omega) => `(tactic| with_reducible refine p_insO ?_)
local macro_rules | `(tactic| decreasing_trivial_pre_omega) => `(tactic| with_reducible refine p_srcS ?_)
local macro_rules | `(tactic| decreasing_trivial_pre_omega) => `(tactic| with_reducible refine p_srcL ?_)
local macro_rules | `(tactic| decreasing_trivial_pre_omega) => `(tactic| with_reducible refine p_srcT ?_)
local macro_rules | `(tactic| decreasing_trivial_pre_omega) => `(tactic| with_reducible refine u_any ?_)
local macro_rules | `(tactic| decreasing_trivial_pre_omega) => `(tactic| with_reducible refine p_min ?_)
local macro_rules | `(tactic| decreasing_trivial_pre_omega) => `(tactic| with_reducible refine p_max ?_)
local macro_rules | `(tactic| decreasing_trivial_pre_omega) => `(tactic| with_reducible refine p_own1 ?_)
local macro_rules | `(tactic| decreasing_trivial_pre_omega) => `(tactic| with_reducible refine p_own ?_)
local macro_rules | `(tactic| decreasing_trivial_pre_omega) => `(tactic| with_reducible first | (apply p_setF; (· assumption); (· with_unfolding_all exact Nat.le_of_ble_eq_true rfl)) | fail "no")
local macro_rules | `(tactic| decreasing_trivial_pre_omega) => `(tactic| with_reducible first | (apply p_setF'; (· with_unfolding_all exact Nat.le_of_ble_eq_true rfl)) | fail "no")
local macro_rules | `(tactic| decreasing_trivial_pre_omega) => `(tactic| with_reducible refine u_setF ?_)
local macro_rules | `(tactic| decreasing_trivial_pre_omega) => `(tactic| with_reducible refine u_make ?_)
local macro_rules | `(tactic| decreasing_trivial_pre_omega) => `(tactic| with_reducible refine u_meth ?_)
local macro_rules | `(tactic| decreasing_trivial_pre_omega) => `(tactic| with_reducible refine u_prop ?_)
local macro_rules | `(tactic| decreasing_trivial_pre_omega) => `(tactic| with_reducible first | (apply p_fldR; (· first | exact DL.Mu.set_same _ _ _ | assumption); (· with_unfolding_all rfl)) | fail "no")
local macro_rules | `(tactic| decreasing_trivial_pre_omega) => `(tactic| with_reducible first | (apply p_fldO; (· with_unfolding_all rfl)) | fail "no")
local macro_rules | `(tactic| decreasing_trivial_pre_omega) => `(tactic| with_reducible refine u_fld ?_)
local macro_rules | `(tactic| decreasing_trivial_pre_omega) => `(tactic| with_reducible refine u_callI ?_)
local macro_rules | `(tactic| decreasing_trivial_pre_omega) => `(tactic| with_reducible refine p_isiO ?_)
local macro_rules | `(tactic| decreasing_trivial_pre_omega) => `(tactic| with_reducible refine u_isiO ?_)
local macro_rules | `(tactic| decreasing_trivial_pre_omega) => `(tactic| with_reducible refine p_dgn ?_)
local macro_rules | `(tactic| decreasing_trivial_pre_omega) => `(tactic| with_reducible refine p_dgc ?_)
local macro_rules | `(tactic| decreasing_trivial_pre_omega) => `(tactic| with_reducible first | (apply p_dgL; (· with_unfolding_all rfl)) | fail "no")
local macro_rules | `(tactic| decreasing_trivial_pre_omega) => `(tactic| with_reducible first | (apply p_dgT; (· with_unfolding_all rfl)) | fail "no")
local macro_rules | `(tactic| decreasing_trivial_pre_omega) => `(tactic| with_reducible refine p_par ?_)
local macro_rules | `(tactic| decreasing_trivial_pre_omega) => `(tactic| with_reducible refine p_ends ?_)
local macro_rules | `(tactic| decreasing_trivial_pre_omega) => `(tactic| with_reducible refine u_for ?_)
local macro_rules | `(tactic| decreasing_trivial_pre_omega) => `(tactic| with_reducible first | (apply p_mulS'; (· omega); (· omega); (· omega)) | fail "no")
local macro_rules | `(tactic| decreasing_trivial_pre_omega) => `(tactic| with_reducible first | (apply p_fdiv; (· omega); (· exact log_small (by omega) (by omega))) | fail "no")

/-! ### classes -/
def placeI (l p : Nat) (x : Int) : Int := if x < l then x else l + (x - l) % p
theorem placeI_lt {l p : Nat} {x : Int} (hp : 0 < p) (h0 : 0 ≤ x) : 0 ≤ placeI l p x ∧ placeI l p x < l + p := by
  unfold placeI
  split
  · omega
  · have h1 := Int.emod_nonneg (x - l) (show (p : Int) ≠ 0 by omega)
    have h2 := Int.emod_lt_of_pos (x - l) (show (0 : Int) < p by omega)
    omega
def spPlace : DL.Spec := fun ds m F _ => ds.length = 3 ∧ ∃ (l p : Nat) (x : Int), ds = [.int l, .int p, .int x] ∧ 0 < p ∧ F (.int (placeI l p x)) m
theorem ok_place_of (T : Txt K mg) : DO P wd K mg base 1 T.f_place_of ["lead", "period", "x"] spPlace :=
  dfo T.a_place_of.fn sc_place_of (fun ds m F Z h => h.1) fun cdv A outer s H E ds m G Z hr hB h => ⟨_, (dss_cons (ds_if (dt_cmp o_lt (dv 2) (dv 0) (by rfl))
      (dss_one (ds_ret (dv 2)))
      dss_nil)
    (dss_one (ds_ret (de_op o_add (dv 0) (de_op o_mod (de_op o_sub (dv 2) (dv 0)) (dv 1)))))), by
    rcases h with ⟨hlen, h⟩
    obtain ⟨l, p, x, rfl, hp, h⟩ := h
    rw [st_place_of]
    have hp2 : (0 : Int) < (p : Int) := by omega
    repeat' decreasing_trivial_pre_omega
    · rename_i hx
      unfold placeI at h
      rw [if_pos hx] at h
      exact h
    · rename_i hx
      unfold placeI at h
      rw [if_neg hx] at h
      exact h⟩
theorem per_pos {L : Nat} {p : Pt} (h : p.Ok L) : 0 < p.per ∧ p.per ∣ L := perW_ok fun w hw => ⟨(Pt.words_ok h w hw).2.1.na, (Pt.words_ok h w hw).2.2⟩
def spClassOf (C : Addr) : DL.Spec := fun ds m F _ => ds.length = 2 ∧ ∃ (p : Pt) (L : Nat) (x : Int), ds = [RuleD C p, .int x] ∧ POk L p ∧ F (.int (placeI p.lead p.per x)) m
theorem ok_class_of (T : Txt K mg) : DO P wd K mg base 3 T.f_class_of ["rule", "number"] (spClassOf T.C_Rule) :=
  dfo T.a_class_of.fn sc_class_of (fun ds m F Z h => h.1) fun cdv A outer s H E ds m G Z hr hB h => ⟨_, (dss_one (ds_ret (de_callO (ok_place_of T) (hr.mono (by decide)) (by rfl) T.a_place_of.gl (da_cons (de_prop T.cl_Rule T.pr_Rule_lead (ok_Rule_lead T) (hr.mono (by decide)) (dv 0)) (da_cons (de_prop T.cl_Rule T.pr_Rule_period (ok_Rule_period T) (hr.mono (by decide)) (dv 0)) (da_cons (dv 1) da_nil)))))), by
    rcases h with ⟨hlen, h⟩
    obtain ⟨p, L, x, rfl, hp, h⟩ := h
    rw [st_class_of]
    repeat' decreasing_trivial_pre_omega
    refine ⟨rfl, p, rfl, ?_⟩
    repeat' decreasing_trivial_pre_omega
    refine ⟨rfl, p, rfl, ?_⟩
    repeat' decreasing_trivial_pre_omega
    exact ⟨rfl, p.lead, p.per, x, rfl, (per_pos hp.ok).1, h⟩⟩

/-! ### numbers a period further on -/
theorem bit_same {e a : Str} (hw : WOk e a) {x y : Int} (hx : (e.length : Int) ≤ x) (hy : (e.length : Int) ≤ y) (h : (y - x) % (a.length : Int) = 0) : bitS e a y = bitS e a x := by
  have hn := hw.na
  unfold bitS
  rw [if_neg (by omega), if_neg (by omega), if_neg (by omega), if_neg (by omega)]
  have : (y - (e.length : Int)) % (a.length : Int) = (x - (e.length : Int)) % (a.length : Int) := by
    have e0 : y - (e.length : Int) = (x - (e.length : Int)) + (a.length : Int) * ((y - x) / (a.length : Int)) := by
      have := Int.mul_ediv_add_emod (y - x) (a.length : Int)
      omega
    rw [e0, Int.add_mul_emod_self_left]
  rw [this]
theorem Pt.lead_le {p : Pt} : ∀ w ∈ p.words, w.2.1.length ≤ p.lead := by
  have key : ∀ (ws : List (Nat × Str × Str)) (a : Nat), a ≤ ws.foldl (fun l w => max l w.2.1.length) a ∧ ∀ w ∈ ws, w.2.1.length ≤ ws.foldl (fun l w => max l w.2.1.length) a := by
    intro ws
    induction ws with
    | nil => intro a; exact ⟨Nat.le_refl _, fun w h => by cases h⟩
    | cons x ws ih =>
      intro a
      obtain ⟨h1, h2⟩ := ih (max a x.2.1.length)
      refine ⟨Nat.le_trans (Nat.le_max_left _ _) h1, fun w hw => ?_⟩
      rcases List.mem_cons.mp hw with rfl | hw
      · exact Nat.le_trans (Nat.le_max_right _ _) h1
      · exact h2 w hw
  exact (key p.words 0).2
theorem Pt.per_dvd {p : Pt} : ∀ w ∈ p.words, w.2.2.length ∣ p.per := by
  have key : ∀ (ws : List (Nat × Str × Str)) (a : Nat), a ∣ ws.foldl (fun l w => Nat.lcm l w.2.2.length) a ∧ ∀ w ∈ ws, w.2.2.length ∣ ws.foldl (fun l w => Nat.lcm l w.2.2.length) a := by
    intro ws
    induction ws with
    | nil => intro a; exact ⟨Nat.dvd_refl _, fun w h => by cases h⟩
    | cons x ws ih =>
      intro a
      obtain ⟨h1, h2⟩ := ih (Nat.lcm a x.2.2.length)
      refine ⟨Nat.dvd_trans (Nat.dvd_lcm_left _ _) h1, fun w hw => ?_⟩
      rcases List.mem_cons.mp hw with rfl | hw
      · exact Nat.dvd_trans (Nat.dvd_lcm_right _ _) h1
      · exact h2 w hw
  exact (key p.words 1).2


end
section
local macro_rules | `(tactic| decreasing_trivial_pre_omega) => `(tactic| with_reducible first | (apply p_methO; (· with_unfolding_all rfl)) | fail "no")
local macro_rules | `(tactic| decreasing_trivial_pre_omega) => `(tactic| with_reducible refine p_insO ?_)
local macro_rules | `(tactic| decreasing_trivial_pre_omega) => `(tactic| with_reducible refine p_srcS ?_)
local macro_rules | `(tactic| decreasing_trivial_pre_omega) => `(tactic| with_reducible refine p_srcL ?_)
local macro_rules | `(tactic| decreasing_trivial_pre_omega) => `(tactic| with_reducible refine p_srcT ?_)
local macro_rules | `(tactic| decreasing_trivial_pre_omega) => `(tactic| with_reducible refine u_any ?_)
local macro_rules | `(tactic| decreasing_trivial_pre_omega) => `(tactic| with_reducible refine p_min ?_)
local macro_rules | `(tactic| decreasing_trivial_pre_omega) => `(tactic| with_reducible refine p_max ?_)
local macro_rules | `(tactic| decreasing_trivial_pre_omega) => `(tactic| with_reducible refine p_own1 ?_)
local macro_rules | `(tactic| decreasing_trivial_pre_omega) => `(tactic| with_reducible refine p_own ?_)
local macro_rules | `(tactic| decreasing_trivial_pre_omega) => `(tactic| with_reducible first | (apply p_setF; (· assumption); (· with_unfolding_all exact Nat.le_of_ble_eq_true rfl)) | fail "no")
local macro_rules | `(tactic| decreasing_trivial_pre_omega) => `(tactic| with_reducible first | (apply p_setF'; (· with_unfolding_all exact Nat.le_of_ble_eq_true rfl)) | fail "no")
local macro_rules | `(tactic| decreasing_trivial_pre_omega) => `(tactic| with_reducible refine u_setF ?_)
local macro_rules | `(tactic| decreasing_trivial_pre_omega) => `(tactic| with_reducible refine u_make ?_)
local macro_rules | `(tactic| decreasing_trivial_pre_omega) => `(tactic| with_reducible refine u_meth ?_)
local macro_rules | `(tactic| decreasing_trivial_pre_omega) => `(tactic| with_reducible refine u_prop ?_)
local macro_rules | `(tactic| decreasing_trivial_pre_omega) => `(tactic| with_reducible first | (apply p_fldR; (· first | exact DL.Mu.set_same _ _ _ | assumption); (· with_unfolding_all rfl)) | fail "no")
local macro_rules | `(tactic| decreasing_trivial_pre_omega) => `(tactic| with_reducible first | (apply p_fldO; (· with_unfolding_all rfl)) | fail "no")
local macro_rules | `(tactic| decreasing_trivial_pre_omega) => `(tactic| with_reducible refine u_fld ?_)
local macro_rules | `(tactic| decreasing_trivial_pre_omega) => `(tactic| with_reducible refine u_callI ?_)
local macro_rules | `(tactic| decreasing_trivial_pre_omega) => `(tactic| with_reducible refine p_isiO ?_)
local macro_rules | `(tactic| decreasing_trivial_pre_omega) => `(tactic| with_reducible refine u_isiO ?_)
local macro_rules | `(tactic| decreasing_trivial_pre_omega) => `(tactic| with_reducible refine p_dgn ?_)
local macro_rules | `(tactic| decreasing_trivial_pre_omega) => `(tactic| with_reducible refine p_dgc ?_)
local macro_rules | `(tactic| decreasing_trivial_pre_omega) => `(tactic| with_reducible first | (apply p_dgL; (· with_unfolding_all rfl)) | fail "no")
local macro_rules | `(tactic| decreasing_trivial_pre_omega) => `(tactic| with_reducible first | (apply p_dgT; (· with_unfolding_all rfl)) | fail "no")
local macro_rules | `(tactic| decreasing_trivial_pre_omega) => `(tactic| with_reducible refine p_par ?_)
local macro_rules | `(tactic| decreasing_trivial_pre_omega) => `(tactic| with_reducible refine p_ends ?_)
local macro_rules | `(tactic| decreasing_trivial_pre_omega) => `(tactic| with_reducible refine u_for ?_)
local macro_rules | `(tactic| decreasing_trivial_pre_omega) => `(tactic| with_reducible first | (apply p_mulS'; (· omega); (· omega); (· omega)) | fail "no")
local macro_rules | `(tactic| decreasing_trivial_pre_omega) => `(tactic| with_reducible first | (apply p_fdiv; (· omega); (· exact log_small (by omega) (by omega))) | fail "no")

local macro_rules | `(tactic| decreasing_trivial_pre_omega) => `(tactic| with_reducible refine p_find ?_)
local macro_rules | `(tactic| decreasing_trivial_pre_omega) => `(tactic| with_reducible first | (apply p_divmod; (· omega); (· omega)) | fail "no")
local macro_rules | `(tactic| decreasing_trivial_pre_omega) => `(tactic| with_reducible refine u_lrg ?_)
local macro_rules | `(tactic| decreasing_trivial_pre_omega) => `(tactic| with_reducible refine u_lrg2 ?_)

/-- the number of a row's fellow -/
def fellowI (l p : Nat) (x : Int) : Int := if x < l + 2 * p then x else placeI l p x + p
def spFellowN (C : Addr) : DL.Spec := fun ds m F _ => ds.length = 2 ∧ ∃ (p : Pt) (L : Nat) (x : Int), ds = [RuleD C p, .int x] ∧ POk L p ∧ F (.int (fellowI p.lead p.per x)) m
theorem ok_fellow_number (T : Txt K mg) : DO P wd K mg base 4 T.f_fellow_number ["rule", "many"] (spFellowN T.C_Rule) :=
  dfo T.a_fellow_number.fn sc_fellow_number (fun ds m F Z h => h.1) fun cdv A outer s H E ds m G Z hr hB h => ⟨_, (dss_cons (ds_if (dt_cmp o_lt (dv 1) (de_op o_add (de_prop T.cl_Rule T.pr_Rule_lead (ok_Rule_lead T) (hr.mono (by decide)) (dv 0)) (de_op o_mul de_int (de_prop T.cl_Rule T.pr_Rule_period (ok_Rule_period T) (hr.mono (by decide)) (dv 0)))) (by rfl))
      (dss_one (ds_ret (dv 1)))
      dss_nil)
    (dss_one (ds_ret (de_op o_add (de_callO (ok_class_of T) (hr.mono (by decide)) (by rfl) T.a_class_of.gl (da_cons (dv 0) (da_cons (dv 1) da_nil))) (de_prop T.cl_Rule T.pr_Rule_period (ok_Rule_period T) (hr.mono (by decide)) (dv 0)))))), by
    rcases h with ⟨hlen, h⟩
    obtain ⟨p, L, x, rfl, hp, h⟩ := h
    have hpp := per_pos hp.ok
    have hpl : p.per < 2 ^ 20 := Nat.lt_of_le_of_lt (Nat.le_of_dvd hp.l0 hpp.2) hp.l1
    rw [st_fellow_number]
    repeat' decreasing_trivial_pre_omega
    refine ⟨rfl, p, rfl, ?_⟩
    repeat' decreasing_trivial_pre_omega
    refine ⟨rfl, p, rfl, ?_⟩
    repeat' decreasing_trivial_pre_omega
    · rename_i hx
      unfold fellowI at h
      rw [if_pos hx] at h
      exact h
    · rename_i hx
      unfold fellowI at h
      rw [if_neg hx] at h
      refine ⟨rfl, p, L, x, rfl, hp, ?_⟩
      repeat' decreasing_trivial_pre_omega
      refine ⟨rfl, p, rfl, ?_⟩
      repeat' decreasing_trivial_pre_omega
      exact h⟩
def spFellow (C : Addr) : DL.Spec := fun ds m F _ => ds.length = 4 ∧ ∃ (p : Pt) (L : Nat) (x y z : Int), ds = [RuleD C p, .int x, .int y, .int z] ∧ POk L p ∧ F (.tup [.int (fellowI p.lead p.per x), .int (fellowI p.lead p.per y), .int (min z (p.lead + p.per))]) m
theorem ok_fellow (T : Txt K mg) : DO P wd K mg base 5 T.f_fellow ["rule", "suns", "moons", "rounds"] (spFellow T.C_Rule) :=
  dfo T.a_fellow.fn sc_fellow (fun ds m F Z h => h.1) fun cdv A outer s H E ds m G Z hr hB h => ⟨_, (dss_one (ds_ret (de_tup (da_cons (de_callO (ok_fellow_number T) (hr.mono (by decide)) (by rfl) T.a_fellow_number.gl (da_cons (dv 0) (da_cons (dv 1) da_nil))) (da_cons (de_callO (ok_fellow_number T) (hr.mono (by decide)) (by rfl) T.a_fellow_number.gl (da_cons (dv 0) (da_cons (dv 2) da_nil))) (da_cons (de_callB (c_min2 rfl) (by rfl) T.z_min (by decide +kernel) (da_cons (dv 3) (da_cons (de_op o_add (de_prop T.cl_Rule T.pr_Rule_lead (ok_Rule_lead T) (hr.mono (by decide)) (dv 0)) (de_prop T.cl_Rule T.pr_Rule_period (ok_Rule_period T) (hr.mono (by decide)) (dv 0))) da_nil))) da_nil)))))), by
    rcases h with ⟨hlen, h⟩
    obtain ⟨p, L, x, y, z, rfl, hp, h⟩ := h
    rw [st_fellow]
    repeat' decreasing_trivial_pre_omega
    refine ⟨rfl, p, L, x, rfl, hp, ?_⟩
    repeat' decreasing_trivial_pre_omega
    refine ⟨rfl, p, L, y, rfl, hp, ?_⟩
    repeat' decreasing_trivial_pre_omega
    refine ⟨rfl, p, rfl, ?_⟩
    repeat' decreasing_trivial_pre_omega
    refine ⟨rfl, p, rfl, ?_⟩
    repeat' decreasing_trivial_pre_omega
    exact h⟩
structure PSm (L : Nat) (p : Pt) : Prop where
  ok : POk L p
  sm : p.Sm 150 150
  lp : p.lead + p.per ≤ 20
def spClassesF (C : Addr) : DL.Spec := fun ds m F _ => ds.length = 2 ∧ ∃ (p : Pt) (L : Nat) (x : Int), ds = [RuleD C p, .int x] ∧ PSm L p ∧ 0 ≤ x ∧ F (.lst (DL.rangeD 0 (min x (p.lead + p.per)).toNat)) m
theorem ok_classes (T : Txt K mg) : DO P wd K mg base 4 T.f_classes ["rule", "many"] (spClassesF T.C_Rule) :=
  dfo T.a_classes.fn sc_classes (fun ds m F Z h => h.1) fun cdv A outer s H E ds m G Z hr hB h => ⟨_, (dss_one (ds_ret (de_listRg rfl (by rfl) T.z_list (by rfl) T.z_range (de_callB (c_min2 rfl) (by rfl) T.z_min (by decide +kernel) (da_cons (dv 1) (da_cons (de_op o_add (de_prop T.cl_Rule T.pr_Rule_lead (ok_Rule_lead T) (hr.mono (by decide)) (dv 0)) (de_prop T.cl_Rule T.pr_Rule_period (ok_Rule_period T) (hr.mono (by decide)) (dv 0))) da_nil)))))), by
    rcases h with ⟨hlen, h⟩
    obtain ⟨p, L, x, rfl, hp, hx, h⟩ := h
    have hpp := per_pos hp.ok.ok
    have hlp := hp.lp
    rw [st_classes]
    repeat' decreasing_trivial_pre_omega
    refine ⟨rfl, p, rfl, ?_⟩
    repeat' decreasing_trivial_pre_omega
    refine ⟨rfl, p, rfl, ?_⟩
    repeat' decreasing_trivial_pre_omega
    exact ⟨by omega, by omega, h⟩⟩


end
section
local macro_rules | `(tactic| decreasing_trivial_pre_omega) => `(tactic| with_reducible first | (apply p_methO; (· with_unfolding_all rfl)) | fail "no")
local macro_rules | `(tactic| decreasing_trivial_pre_omega) => `(tactic| with_reducible refine p_insO ?_)
local macro_rules | `(tactic| decreasing_trivial_pre_omega) => `(tactic| with_reducible refine p_srcS ?_)
local macro_rules | `(tactic| decreasing_trivial_pre_omega) => `(tactic| with_reducible refine p_srcL ?_)
local macro_rules | `(tactic| decreasing_trivial_pre_omega) => `(tactic| with_reducible refine p_srcT ?_)
local macro_rules | `(tactic| decreasing_trivial_pre_omega) => `(tactic| with_reducible refine u_any ?_)
local macro_rules | `(tactic| decreasing_trivial_pre_omega) => `(tactic| with_reducible refine p_min ?_)
local macro_rules | `(tactic| decreasing_trivial_pre_omega) => `(tactic| with_reducible refine p_max ?_)
local macro_rules | `(tactic| decreasing_trivial_pre_omega) => `(tactic| with_reducible refine p_own1 ?_)
local macro_rules | `(tactic| decreasing_trivial_pre_omega) => `(tactic| with_reducible refine p_own ?_)
local macro_rules | `(tactic| decreasing_trivial_pre_omega) => `(tactic| with_reducible first | (apply p_setF; (· assumption); (· with_unfolding_all exact Nat.le_of_ble_eq_true rfl)) | fail "no")
local macro_rules | `(tactic| decreasing_trivial_pre_omega) => `(tactic| with_reducible first | (apply p_setF'; (· with_unfolding_all exact Nat.le_of_ble_eq_true rfl)) | fail "no")
local macro_rules | `(tactic| decreasing_trivial_pre_omega) => `(tactic| with_reducible refine u_setF ?_)
local macro_rules | `(tactic| decreasing_trivial_pre_omega) => `(tactic| with_reducible refine u_make ?_)
local macro_rules | `(tactic| decreasing_trivial_pre_omega) => `(tactic| with_reducible refine u_meth ?_)
local macro_rules | `(tactic| decreasing_trivial_pre_omega) => `(tactic| with_reducible refine u_prop ?_)
local macro_rules | `(tactic| decreasing_trivial_pre_omega) => `(tactic| with_reducible first | (apply p_fldR; (· first | exact DL.Mu.set_same _ _ _ | assumption); (· with_unfolding_all rfl)) | fail "no")
local macro_rules | `(tactic| decreasing_trivial_pre_omega) => `(tactic| with_reducible first | (apply p_fldO; (· with_unfolding_all rfl)) | fail "no")
local macro_rules | `(tactic| decreasing_trivial_pre_omega) => `(tactic| with_reducible refine u_fld ?_)
local macro_rules | `(tactic| decreasing_trivial_pre_omega) => `(tactic| with_reducible refine u_callI ?_)
local macro_rules | `(tactic| decreasing_trivial_pre_omega) => `(tactic| with_reducible refine p_isiO ?_)
local macro_rules | `(tactic| decreasing_trivial_pre_omega) => `(tactic| with_reducible refine u_isiO ?_)
local macro_rules | `(tactic| decreasing_trivial_pre_omega) => `(tactic| with_reducible refine p_dgn ?_)
local macro_rules | `(tactic| decreasing_trivial_pre_omega) => `(tactic| with_reducible refine p_dgc ?_)
local macro_rules | `(tactic| decreasing_trivial_pre_omega) => `(tactic| with_reducible first | (apply p_dgL; (· with_unfolding_all rfl)) | fail "no")
local macro_rules | `(tactic| decreasing_trivial_pre_omega) => `(tactic| with_reducible first | (apply p_dgT; (· with_unfolding_all rfl)) | fail "no")
local macro_rules | `(tactic| decreasing_trivial_pre_omega) => `(tactic| with_reducible refine p_par ?_)
local macro_rules | `(tactic| decreasing_trivial_pre_omega) => `(tactic| with_reducible refine p_ends ?_)
local macro_rules | `(tactic| decreasing_trivial_pre_omega) => `(tactic| with_reducible refine u_for ?_)
local macro_rules | `(tactic| decreasing_trivial_pre_omega) => `(tactic| with_reducible first | (apply p_mulS'; (· omega); (· omega); (· omega)) | fail "no")
local macro_rules | `(tactic| decreasing_trivial_pre_omega) => `(tactic| with_reducible first | (apply p_fdiv; (· omega); (· exact log_small (by omega) (by omega))) | fail "no")

def spFirst : DL.Spec := fun ds m F _ => ds.length = 3 ∧ ∃ (e a : Str) (N : Nat), ds = [.str e, .str a, .int N] ∧ WOk e a ∧ N ≤ 900 ∧ F (.str (firstS e a N)) m
theorem ok_first_bits (T : Txt K mg) : DO P wd K mg base 1 T.f_first_bits ["early", "again", "many"] spFirst :=
  dfo T.a_first_bits.fn sc_first_bits (fun ds m F Z h => h.1) fun cdv A outer s H E ds m G Z hr hB h => ⟨_, (dss_one (ds_ret (de_sl (de_op o_add (dv 0) (de_op o_mul (dv 1) (de_op o_add (de_op o_fdiv (dv 2) (de_callB c_len (by rfl) T.z_len (by decide +kernel) (da_cons (dv 1) da_nil))) de_int))) do_none (do_some (dv 2))))), by
    rcases h with ⟨hlen, h⟩
    obtain ⟨e, a, N, rfl, hw, hN, h⟩ := h
    have l1 := hw.le
    have l2 := hw.la
    have l3 := hw.na
    have hd : ((N : Int) / (a.length : Int) + 1) = ((N / a.length + 1 : Nat) : Int) := by
      rw [← Int.natCast_ediv]; rfl
    have hq : N / a.length ≤ 900 := Nat.le_trans (Nat.div_le_self _ _) hN
    have hm : (Txt.mul a ((N / a.length + 1 : Nat) : Int)).length ≤ 1600 := by
      rw [mul_len l3, Nat.succ_mul]
      have := Nat.div_mul_le_self N a.length
      omega
    rw [st_first_bits]
    repeat' decreasing_trivial_pre_omega
    rw [hd]
    have hq0 : (0 : Int) ≤ ((N / a.length + 1 : Nat) : Int) := Int.natCast_nonneg _
    have hq1 : ((N / a.length + 1 : Nat) : Int) ≤ 1000 := by have : N / a.length + 1 ≤ 901 := by omega
                                                             exact_mod_cast (Nat.le_trans this (by decide))
    refine p_mulS' (by omega) hq0 hq1 ?_
    refine p_addS' (by omega) (by omega) ?_
    repeat' decreasing_trivial_pre_omega
    refine p_slS (by rw [strLen_append, sizeLine_eq]; omega) ?_
    exact h⟩

def joinN : Nat → Nat → Nat → Nat
  | 0, a, b => a &&& b
  | 1, a, b => a ||| b
  | _, a, b => a ^^^ b
def spJoinedN : DL.Spec := fun ds m F _ => ds.length = 3 ∧ ∃ (w : Nat) (a b : Nat), ds = [.str (wayS w), .int (a : Int), .int (b : Int)] ∧ w < 3 ∧ F (.int ((joinN w a b : Nat) : Int)) m
theorem ok_joined (T : Txt K mg) : DO P wd K mg base 1 T.f_joined ["how", "one", "other"] spJoinedN :=
  dfo T.a_joined.fn sc_joined (fun ds m F Z h => h.1) fun cdv A outer s H E ds m G Z hr hB h => ⟨_, (dss_cons (ds_if (dt_cmp (o_eq hr.units) (dv 0) de_str (by rfl))
      (dss_one (ds_ret (de_op o_bitand (dv 1) (dv 2))))
      dss_nil)
    (dss_cons (ds_if (dt_cmp (o_eq hr.units) (dv 0) de_str (by rfl))
      (dss_one (ds_ret (de_op o_bitor (dv 1) (dv 2))))
      dss_nil)
    (dss_one (ds_ret (de_op o_bitxor (dv 1) (dv 2)))))), by
    rcases h with ⟨hlen, h⟩
    obtain ⟨w, a, b, rfl, hw, h⟩ := h
    rw [st_joined]
    have : w = 0 ∨ w = 1 ∨ w = 2 := by omega
    rcases this with rfl | rfl | rfl
    all_goals unfold wayS
    all_goals repeat' decreasing_trivial_pre_omega
    all_goals refine p_bitI ?_
    · rw [bitAnd_pp (Int.natCast_nonneg a) (Int.natCast_nonneg b), Int.toNat_natCast, Int.toNat_natCast]; exact h
    · rw [Bits.bitOr_pp (Int.natCast_nonneg a) (Int.natCast_nonneg b), Int.toNat_natCast, Int.toNat_natCast]; exact h
    · rw [Bits.bitXor_pp (Int.natCast_nonneg a) (Int.natCast_nonneg b), Int.toNat_natCast, Int.toNat_natCast]; exact h⟩


end
section
/-! ### rows of bits as numbers -/
def valB (bs : List Bool) : Nat := bs.foldl (fun acc b => acc * 2 + b.toNat) 0
def signB (b : Bool) : Nat := if b = true then 49 else 48
def textB (bs : List Bool) : Str := ⟨(bs.map signB).toArray⟩
theorem valB_snoc (bs : List Bool) (b : Bool) : valB (bs ++ [b]) = valB bs * 2 + b.toNat := by unfold valB; rw [List.foldl_append]; rfl
theorem toNat_lt2 (b : Bool) : b.toNat < 2 := by cases b <;> decide
theorem half (x : Nat) (b : Bool) : (x * 2 + b.toNat) / 2 = x := by have := toNat_lt2 b; omega
theorem bit_zero (x : Nat) (b : Bool) : (x * 2 + b.toNat).testBit 0 = b := by
  rw [Nat.testBit_zero]
  cases b
  · simp
  · simp
theorem bit_succ (x : Nat) (b : Bool) (i : Nat) : (x * 2 + b.toNat).testBit (i + 1) = x.testBit i := by
  rw [Nat.testBit_succ, half]
theorem op_step (op : Nat → Nat → Nat) (f : Bool → Bool → Bool) (h : ∀ x y i, (op x y).testBit i = f (x.testBit i) (y.testBit i)) (x y : Nat) (b c : Bool) :
    op (x * 2 + b.toNat) (y * 2 + c.toNat) = op x y * 2 + (f b c).toNat := by
  apply Nat.eq_of_testBit_eq
  intro i
  cases i with
  | zero => rw [h, bit_zero, bit_zero, bit_zero]
  | succ i => rw [h, bit_succ, bit_succ, bit_succ, h]
theorem valB_op (op : Nat → Nat → Nat) (f : Bool → Bool → Bool) (h : ∀ x y i, (op x y).testBit i = f (x.testBit i) (y.testBit i)) (h0 : op 0 0 = 0) (g k : α → Bool) (l : List α) :
    op (valB (l.map g)) (valB (l.map k)) = valB (l.map fun x => f (g x) (k x)) := by
  generalize hn : l.length = n
  induction n generalizing l with
  | zero => obtain rfl := List.length_eq_zero_iff.mp hn; exact h0
  | succ n ih =>
    rcases List.eq_nil_or_concat l with rfl | ⟨l', x, rfl⟩
    · simp at hn
    · rw [List.concat_eq_append] at *
      rw [List.map_append, List.map_append, List.map_append]
      show op (valB (_ ++ [_])) (valB (_ ++ [_])) = valB (_ ++ [_])
      rw [valB_snoc, valB_snoc, valB_snoc, op_step op f h, ih l' (by simpa using hn)]
theorem valB_xor {α : Type} (g k : α → Bool) (l : List α) : valB (l.map g) ^^^ valB (l.map k) = valB (l.map fun x => xor (g x) (k x)) :=
  valB_op (· ^^^ ·) xor (fun x y i => Nat.testBit_xor x y i) rfl g k l
theorem valB_and {α : Type} (g k : α → Bool) (l : List α) : valB (l.map g) &&& valB (l.map k) = valB (l.map fun x => g x && k x) :=
  valB_op (· &&& ·) and (fun x y i => Nat.testBit_and x y i) rfl g k l
theorem valB_or {α : Type} (g k : α → Bool) (l : List α) : valB (l.map g) ||| valB (l.map k) = valB (l.map fun x => g x || k x) :=
  valB_op (· ||| ·) or (fun x y i => Nat.testBit_or x y i) rfl g k l
theorem valB_full {α : Type} (l : List α) : valB (l.map fun _ => true) = 2 ^ l.length - 1 := by
  generalize hn : l.length = n
  induction n generalizing l with
  | zero => obtain rfl := List.length_eq_zero_iff.mp hn; rfl
  | succ n ih =>
    rcases List.eq_nil_or_concat l with rfl | ⟨l', x, rfl⟩
    · simp at hn
    · rw [List.concat_eq_append] at *
      rw [List.map_append]
      show valB (_ ++ [true]) = _
      rw [valB_snoc, ih l' (by simpa using hn), Nat.pow_succ]
      have := Nat.one_le_two_pow (n := n)
      show (2 ^ n - 1) * 2 + 1 = _
      omega
theorem valB_none {α : Type} (l : List α) : valB (l.map fun _ => false) = 0 := by
  generalize hn : l.length = n
  induction n generalizing l with
  | zero => obtain rfl := List.length_eq_zero_iff.mp hn; rfl
  | succ n ih =>
    rcases List.eq_nil_or_concat l with rfl | ⟨l', x, rfl⟩
    · simp at hn
    · rw [List.concat_eq_append] at *
      rw [List.map_append]
      show valB (_ ++ [false]) = _
      rw [valB_snoc, ih l' (by simpa using hn)]; rfl
theorem valB_lt (bs : List Bool) : valB bs < 2 ^ bs.length := by
  generalize hn : bs.length = n
  induction n generalizing bs with
  | zero => obtain rfl := List.length_eq_zero_iff.mp hn; decide
  | succ n ih =>
    rcases List.eq_nil_or_concat bs with rfl | ⟨l', x, rfl⟩
    · simp at hn
    · rw [List.concat_eq_append] at *
      have := ih l' (by simpa using hn)
      have := toNat_lt2 x
      rw [valB_snoc, Nat.pow_succ]; omega
/-- int(text, 2) of such a text -/
theorem bitsVal_text (bs : List Bool) : bitsVal (bs.map signB) = valB bs := by
  unfold bitsVal valB
  rw [List.foldl_map]
  congr 1
  funext acc b
  cases b <;> rfl
/-- written in base two, noughts ahead -/
theorem digit_sign (b : Bool) : (b.toNat.digitChar).toNat = signB b := by cases b <;> rfl
theorem digits_text : ∀ (n : Nat) (bs : List Bool), bs.length = n + 1 → List.replicate (n + 1 - ((Nat.toDigits 2 (valB bs)).map Char.toNat).length) 48 ++ (Nat.toDigits 2 (valB bs)).map Char.toNat = bs.map signB ∧ ((Nat.toDigits 2 (valB bs)).map Char.toNat).length ≤ n + 1
  | 0, bs, h => by
    match bs, h with
    | [b], _ => cases b <;> exact ⟨rfl, Nat.le_refl _⟩
  | n + 1, bs, h => by
    rcases List.eq_nil_or_concat bs with rfl | ⟨cs, b, rfl⟩
    · simp at h
    · rw [List.concat_eq_append] at *
      obtain ⟨i1, i2⟩ := digits_text n cs (by simpa using h)
      rw [valB_snoc, List.map_append]
      by_cases h0 : valB cs = 0
      · rw [h0] at i1 i2
        rw [h0, Nat.zero_mul, Nat.zero_add, Nat.toDigits_of_lt_base (toNat_lt2 b)]
        rw [Nat.toDigits_of_lt_base (by decide : 0 < 2)] at i1 i2
        refine ⟨?_, by simp⟩
        have e1 : ([Nat.digitChar 0].map Char.toNat) = [48] := rfl
        rw [e1] at i1
        have e2 : cs.map signB = List.replicate (n + 1) 48 := by
          rw [← i1]
          show List.replicate (n + 1 - 1) 48 ++ [48] = _
          rw [Nat.add_sub_cancel, ← List.replicate_succ']
        rw [e2]
        show List.replicate (n + 1 + 1 - 1) 48 ++ [(b.toNat.digitChar).toNat] = _
        rw [digit_sign, Nat.add_sub_cancel]; rfl
      · have hd : Nat.toDigits 2 (valB cs * 2 + b.toNat) = Nat.toDigits 2 (valB cs) ++ [b.toNat.digitChar] := by
          rw [Nat.toDigits_of_base_le (by decide) (by omega), half]
          congr 3
          have := toNat_lt2 b; omega
        rw [hd, List.map_append, List.length_append]
        refine ⟨?_, by simp at i2 ⊢; omega⟩
        show List.replicate (n + 1 + 1 - (_ + 1)) 48 ++ (_ ++ [(b.toNat.digitChar).toNat]) = _
        rw [digit_sign, Nat.add_sub_add_right, ← List.append_assoc, i1]; rfl
theorem padded_list (x : Str) (k : Nat) : (Builtin.Str.padded x k 0 48).cps.toList = List.replicate k 48 ++ x.cps.toList := by
  unfold Builtin.Str.padded
  simp
theorem zfill_text {bs : List Bool} (h : 1 ≤ bs.length) : Txt.zfill (bitsOf ((valB bs : Nat) : Int)) (bs.length : Int) = textB bs := by
  obtain ⟨n, hn⟩ : ∃ n, bs.length = n + 1 := ⟨bs.length - 1, by omega⟩
  obtain ⟨d1, d2⟩ := digits_text n bs hn
  have e0 : bitsOf ((valB bs : Nat) : Int) = ⟨((Nat.toDigits 2 (valB bs)).map Char.toNat).toArray⟩ := by
    unfold bitsOf
    rw [if_neg (by omega)]; rfl
  rw [e0]
  generalize (Nat.toDigits 2 (valB bs)).map Char.toNat = D at d1 d2
  have hl : (⟨D.toArray⟩ : Str).length = D.length := by rw [lenL]
  unfold Txt.zfill
  rw [hl, hn]
  by_cases hc : ((n + 1 : Nat) : Int) ≤ (D.length : Int)
  · rw [if_pos hc]
    apply str_ext
    have : n + 1 - D.length = 0 := by omega
    rw [this] at d1
    show D = bs.map signB
    rw [← d1]; rfl
  · rw [if_neg hc]
    have hD : ∀ c ∈ D, c = 48 ∨ c = 49 := by
      intro c hc
      have : c ∈ bs.map signB := by rw [← d1]; exact List.mem_append_right _ hc
      obtain ⟨b, _, rfl⟩ := List.mem_map.mp this
      cases b <;> simp [signB]
    have hp : zfilled ⟨D.toArray⟩ (((n + 1 : Nat) : Int).toNat - D.length) = Builtin.Str.padded ⟨D.toArray⟩ (((n + 1 : Nat) : Int).toNat - D.length) 0 48 := by
      have g : ∀ c, (D.toArray)[0]? = some c → c = 48 ∨ c = 49 := by
        intro c hc
        rw [List.getElem?_toArray] at hc
        exact hD c (List.mem_of_getElem? hc)
      unfold zfilled
      split
      · rename_i h1; rcases g _ h1 with h2 | h2 <;> exact absurd h2 (by decide)
      · rename_i h1; rcases g _ h1 with h2 | h2 <;> exact absurd h2 (by decide)
      · rfl
    rw [hp]
    apply str_ext
    rw [padded_list, Int.toNat_natCast]
    exact d1
theorem glueL_none (z : Str) (hz : z.cps.toList = []) : ∀ xs : List Str, StrLaws.glueL z.cps.toList xs = (xs.map fun s : Str => s.cps.toList).flatten
  | [] => rfl
  | x :: xs => by
    show z.cps.toList ++ (x.cps.toList ++ StrLaws.glueL z.cps.toList xs) = _
    rw [glueL_none z hz xs, hz]; rfl
theorem join_none : ∀ xs : List Str, (Txt.join (Str.ofString "") xs).cps.toList = (xs.map fun s : Str => s.cps.toList).flatten
  | [] => rfl
  | x :: xs => by
    show (Builtin.Str.glued (Str.ofString "") (x :: xs)).cps.toList = _
    rw [StrLaws.glued_list]
    show x.cps.toList ++ StrLaws.glueL _ xs = _
    rw [glueL_none _ (by decide)]; rfl
theorem textB_join (bss : List (List Bool)) : Txt.join (Str.ofString "") (bss.map textB) = textB bss.flatten := by
  apply str_ext
  rw [join_none, List.map_map]
  show _ = bss.flatten.map signB
  rw [List.map_flatten]
  rfl


end
section
local macro_rules | `(tactic| decreasing_trivial_pre_omega) => `(tactic| with_reducible first | (apply p_methO; (· with_unfolding_all rfl)) | fail "no")
local macro_rules | `(tactic| decreasing_trivial_pre_omega) => `(tactic| with_reducible refine p_insO ?_)
local macro_rules | `(tactic| decreasing_trivial_pre_omega) => `(tactic| with_reducible refine p_srcS ?_)
local macro_rules | `(tactic| decreasing_trivial_pre_omega) => `(tactic| with_reducible refine p_srcL ?_)
local macro_rules | `(tactic| decreasing_trivial_pre_omega) => `(tactic| with_reducible refine p_srcT ?_)
local macro_rules | `(tactic| decreasing_trivial_pre_omega) => `(tactic| with_reducible refine u_any ?_)
local macro_rules | `(tactic| decreasing_trivial_pre_omega) => `(tactic| with_reducible refine p_min ?_)
local macro_rules | `(tactic| decreasing_trivial_pre_omega) => `(tactic| with_reducible refine p_max ?_)
local macro_rules | `(tactic| decreasing_trivial_pre_omega) => `(tactic| with_reducible refine p_own1 ?_)
local macro_rules | `(tactic| decreasing_trivial_pre_omega) => `(tactic| with_reducible refine p_own ?_)
local macro_rules | `(tactic| decreasing_trivial_pre_omega) => `(tactic| with_reducible first | (apply p_setF; (· assumption); (· with_unfolding_all exact Nat.le_of_ble_eq_true rfl)) | fail "no")
local macro_rules | `(tactic| decreasing_trivial_pre_omega) => `(tactic| with_reducible first | (apply p_setF'; (· with_unfolding_all exact Nat.le_of_ble_eq_true rfl)) | fail "no")
local macro_rules | `(tactic| decreasing_trivial_pre_omega) => `(tactic| with_reducible refine u_setF ?_)
local macro_rules | `(tactic| decreasing_trivial_pre_omega) => `(tactic| with_reducible refine u_make ?_)
local macro_rules | `(tactic| decreasing_trivial_pre_omega) => `(tactic| with_reducible refine u_meth ?_)
local macro_rules | `(tactic| decreasing_trivial_pre_omega) => `(tactic| with_reducible refine u_prop ?_)
local macro_rules | `(tactic| decreasing_trivial_pre_omega) => `(tactic| with_reducible first | (apply p_fldR; (· first | exact DL.Mu.set_same _ _ _ | assumption); (· with_unfolding_all rfl)) | fail "no")
local macro_rules | `(tactic| decreasing_trivial_pre_omega) => `(tactic| with_reducible first | (apply p_fldO; (· with_unfolding_all rfl)) | fail "no")
local macro_rules | `(tactic| decreasing_trivial_pre_omega) => `(tactic| with_reducible refine u_fld ?_)
local macro_rules | `(tactic| decreasing_trivial_pre_omega) => `(tactic| with_reducible refine u_callI ?_)
local macro_rules | `(tactic| decreasing_trivial_pre_omega) => `(tactic| with_reducible refine p_isiO ?_)
local macro_rules | `(tactic| decreasing_trivial_pre_omega) => `(tactic| with_reducible refine u_isiO ?_)
local macro_rules | `(tactic| decreasing_trivial_pre_omega) => `(tactic| with_reducible refine p_dgn ?_)
local macro_rules | `(tactic| decreasing_trivial_pre_omega) => `(tactic| with_reducible refine p_dgc ?_)
local macro_rules | `(tactic| decreasing_trivial_pre_omega) => `(tactic| with_reducible first | (apply p_dgL; (· with_unfolding_all rfl)) | fail "no")
local macro_rules | `(tactic| decreasing_trivial_pre_omega) => `(tactic| with_reducible first | (apply p_dgT; (· with_unfolding_all rfl)) | fail "no")
local macro_rules | `(tactic| decreasing_trivial_pre_omega) => `(tactic| with_reducible refine p_par ?_)
local macro_rules | `(tactic| decreasing_trivial_pre_omega) => `(tactic| with_reducible refine p_ends ?_)
local macro_rules | `(tactic| decreasing_trivial_pre_omega) => `(tactic| with_reducible refine u_for ?_)
local macro_rules | `(tactic| decreasing_trivial_pre_omega) => `(tactic| with_reducible first | (apply p_mulS'; (· omega); (· omega); (· omega)) | fail "no")
local macro_rules | `(tactic| decreasing_trivial_pre_omega) => `(tactic| with_reducible first | (apply p_fdiv; (· omega); (· exact log_small (by omega) (by omega))) | fail "no")

/-! ### grids -/
theorem sign_B {e a : Str} (hw : WOk e a) (x : Nat) : signOf e.cps.toList a.cps.toList x = signB (bitS e a x) := by
  have h := sign_one (e := e) (a := a) hw.na x
  have f1 : (Str.ofString "1") = ⟨#[49]⟩ := by decide
  rw [← h, f1]
  unfold signOf
  by_cases hb : bitN e.cps.toList a.cps.toList x = true
  · rw [if_pos hb]; decide
  · rw [if_neg hb]; decide
theorem place_bit {e a : Str} (hw : WOk e a) {x : Int} (x0 : 0 ≤ x) (t : Nat) : bitS e a (placeI e.length a.length x + t) = bitS e a (x + t) := by
  have hn := hw.na
  unfold placeI
  split
  · rfl
  · rename_i h
    have m0 := Int.emod_nonneg (x - (e.length : Int)) (b := (a.length : Int)) (by omega)
    refine (bit_same hw (x := (e.length : Int) + (x - e.length) % a.length + t) (y := x + t) (by omega) (by omega) ?_).symm
    have e1 := Int.mul_ediv_add_emod (x - (e.length : Int)) (a.length : Int)
    have e2 : x + (t : Int) - ((e.length : Int) + (x - e.length) % a.length + t) = (a.length : Int) * ((x - e.length) / a.length) := by omega
    rw [e2]
    exact Int.mul_emod_right _ _
theorem cut_dropS {s : Str} {k : Nat} : (cutS s (some (k : Int)) none).cps.toList = s.cps.toList.drop k := by
  unfold cutS
  rw [HT.sIx_none, HT.sIx_nat, lenL]
  simp only [List.toList_toArray]
  by_cases h : k ≤ s.cps.toList.length
  · rw [Nat.min_eq_left h, List.take_of_length_le (by simp)]
  · rw [Nat.min_eq_right (by omega), List.drop_of_length_le (Nat.le_refl _), List.drop_of_length_le (by omega)]; simp
def wordB (e a : Str) (x : Int) (N : Nat) : List Bool := (List.range N).map fun t : Nat => bitS e a (x + t)
theorem from_list {e a : Str} (hw : WOk e a) (P N : Nat) : (cutS (firstS e a (P + N)) (some (P : Int)) none).cps.toList = (List.range N).map fun t : Nat => signB (bitS e a ((P : Int) + t)) := by
  rw [cut_dropS, first_list (bits_all e ▸ hw.be) (bits_all a ▸ hw.ba) hw.na, ← List.map_drop]
  apply List.ext_getElem
  · simp
  · intro i h1 h2
    rw [List.getElem_map, List.getElem_map, List.getElem_drop, List.getElem_range, List.getElem_range, sign_B hw]
    rfl
def spBitsFrom : DL.Spec := fun ds m F _ => ds.length = 4 ∧ ∃ (e a : Str) (x : Int) (N : Nat), ds = [.str e, .str a, .int x, .int N] ∧ WOk e a ∧ 0 ≤ x ∧ e.length + a.length + N ≤ 900 ∧ F (.str (textB (wordB e a x N))) m
theorem ok_bits_from (T : Txt K mg) : DO P wd K mg base 3 T.f_bits_from ["early", "again", "start", "many"] spBitsFrom :=
  dfo T.a_bits_from.fn sc_bits_from (fun ds m F Z h => h.1) fun cdv A outer s H E ds m G Z hr hB h => ⟨_, (dss_cons (ds_set (i := 4) sc_bits_from.nd rfl (Or.inl rfl) (de_callO (ok_place_of T) (hr.mono (by decide)) (by rfl) T.a_place_of.gl (da_cons (de_callB c_len (by rfl) T.z_len (by decide +kernel) (da_cons (dv 0) da_nil)) (da_cons (de_callB c_len (by rfl) T.z_len (by decide +kernel) (da_cons (dv 1) da_nil)) (da_cons (dv 2) da_nil)))))
    (dss_one (ds_ret (de_sl (de_callO (ok_first_bits T) (hr.mono (by decide)) (by rfl) T.a_first_bits.gl (da_cons (dv 0) (da_cons (dv 1) (da_cons (de_op o_add (dv 4) (dv 3)) da_nil)))) (do_some (dv 4)) do_none)))), by
    rcases h with ⟨hlen, h⟩
    obtain ⟨e, a, x, N, rfl, hw, x0, hN, h⟩ := h
    have l1 := hw.le
    have l2 := hw.la
    have l3 := hw.na
    rw [st_bits_from]
    repeat' decreasing_trivial_pre_omega
    refine ⟨rfl, e.length, a.length, x, rfl, by omega, ?_⟩
    obtain ⟨P, hP⟩ := Int.eq_ofNat_of_zero_le (placeI_lt (l := e.length) (p := a.length) (x := x) (by omega) x0).1
    have hPl := (placeI_lt (l := e.length) (p := a.length) (x := x) (by omega) x0).2
    rw [hP] at hPl ⊢
    repeat' decreasing_trivial_pre_omega
    refine ⟨rfl, e, a, P + N, rfl, hw, by omega, ?_⟩
    repeat' decreasing_trivial_pre_omega
    refine p_slS (by rw [first_len (bits_all e ▸ hw.be) (bits_all a ▸ hw.ba) hw.na, sizeLine_eq]; omega) ?_
    have : cutS (firstS e a (P + N)) (some ((P : Nat) : Int)) none = textB (wordB e a x N) := by
      apply str_ext
      rw [from_list hw]
      unfold textB wordB
      show _ = (((List.range N).map fun t : Nat => bitS e a (x + t)).map signB)
      rw [List.map_map]
      apply List.map_congr_left
      intro t _
      show signB (bitS e a ((P : Int) + t)) = signB (bitS e a (x + t))
      rw [← place_bit hw x0 t, hP]
    rw [← this] at h
    exact h⟩
/-- a row's bits repeated, and each bit repeated -/
theorem flat_mod {α : Type} (f : Nat → α) {cols : Nat} (hc : 0 < cols) : ∀ rows : Nat, (List.replicate rows ((List.range cols).map f)).flatten = (List.range (rows * cols)).map fun q => f (q % cols)
  | 0 => by simp
  | rows + 1 => by
    rw [List.replicate_succ', List.flatten_append, flat_mod f hc rows, Nat.succ_mul, List.range_add, List.map_append, List.map_map]
    congr 1
    simp only [List.flatten_cons, List.flatten_nil, List.append_nil]
    apply List.map_congr_left
    intro t ht
    have ht := List.mem_range.mp ht
    show f t = f ((rows * cols + t) % cols)
    rw [Nat.add_comm, Nat.add_mul_mod_self_right, Nat.mod_eq_of_lt ht]
theorem flat_div {α : Type} (f : Nat → α) {cols : Nat} (hc : 0 < cols) : ∀ rows : Nat, ((List.range rows).map fun i => List.replicate cols (f i)).flatten = (List.range (rows * cols)).map fun q => f (q / cols)
  | 0 => by simp
  | rows + 1 => by
    rw [List.range_succ, List.map_append, List.flatten_append, flat_div f hc rows, Nat.succ_mul, List.range_add, List.map_append, List.map_map]
    congr 1
    simp only [List.map_cons, List.map_nil, List.flatten_cons, List.flatten_nil, List.append_nil]
    apply List.ext_getElem
    · simp
    · intro i h1 h2
      simp only [List.length_replicate] at h1
      rw [List.getElem_replicate, List.getElem_map, List.getElem_range]
      show f rows = f ((rows * cols + i) / cols)
      rw [Nat.add_comm, Nat.add_mul_div_right _ _ hc, Nat.div_eq_of_lt h1, Nat.zero_add]
/-- what the parts tell at all meetings of a round -/
def gridBs (p : Pt) (r n k : Int) (rows cols : Nat) : List Bool := (List.range (rows * cols)).map fun q => p.tell (numN r ((q / cols : Nat) : Int) ((q % cols : Nat) : Int) n k)
theorem textB_len (bs : List Bool) : (textB bs).length = bs.length := by rw [lenL]; show (bs.map signB).length = _; rw [List.length_map]
theorem textB_mul {bs : List Bool} (h : 1 ≤ bs.length) (N : Nat) : Txt.mul (textB bs) (N : Int) = textB (List.replicate N bs).flatten := by
  apply str_ext
  rw [mul_list (by rw [textB_len]; exact h)]
  show (List.replicate N (bs.map signB)).flatten = (List.replicate N bs).flatten.map signB
  rw [List.map_flatten, List.map_replicate]
local macro_rules | `(tactic| decreasing_trivial_pre_omega) => `(tactic| with_reducible refine u_dget ?_)
def spWordGrid : DL.Spec := fun ds m F _ => ds.length = 4 ∧ ∃ (x : Nat) (e a : Str) (r n k : Int) (rows cols : Nat), ds = [.tup [.str (rdS x), .str e, .str a], numsD r 0 0 n k, .int (rows : Int), .int (cols : Int)] ∧ x < 5 ∧ WOk e a ∧ e.length + a.length ≤ 300 ∧ NumOk r 0 0 n k ∧ 1 ≤ rows ∧ 1 ≤ cols ∧ rows * cols ≤ 600 ∧ F (.str (textB (gridBs (.wd x e a) r n k rows cols))) m
theorem ok_word_grid (T : Txt K mg) : DO P wd K mg base 4 T.f_word_grid ["written", "starts", "rows", "columns"] spWordGrid :=
  dfo T.a_word_grid.fn sc_word_grid (fun ds m F Z h => h.1) fun cdv A outer s H E ds m G Z hr hB h => ⟨_, (dss_cons (ds_asg (dv 0) (dg_seq (n := 3) rfl (dgs_cons (dg_name (i := 4) sc_word_grid.nd rfl (Or.inl rfl)) (dgs_cons (dg_name (i := 5) sc_word_grid.nd rfl (Or.inl rfl)) (dgs_cons (dg_name (i := 6) sc_word_grid.nd rfl (Or.inl rfl)) dgs_nil)))))
    (dss_cons (ds_set (i := 7) sc_word_grid.nd rfl (Or.inl rfl) (de_dget hr.units (dv 1) (dv 4)))
    (dss_cons (ds_if (dt_cmp (o_eq hr.units) (dv 4) de_str (by rfl))
      (dss_one (ds_ret (de_op o_mul (de_callO (ok_bits_from T) (hr.mono (by decide)) (by rfl) T.a_bits_from.gl (da_cons (dv 5) (da_cons (dv 6) (da_cons (dv 7) (da_cons de_int da_nil))))) (de_op o_mul (dv 2) (dv 3)))))
      dss_nil)
    (dss_cons (ds_if (dt_cmp o_inF (dv 4) (de_glob (v := .ref T.o_READ_BY_MOON) (by rfl) T.m_READ_BY_MOON rfl T.d_READ_BY_MOON) (by rfl))
      (dss_one (ds_ret (de_op o_mul (de_callO (ok_bits_from T) (hr.mono (by decide)) (by rfl) T.a_bits_from.gl (da_cons (dv 5) (da_cons (dv 6) (da_cons (dv 7) (da_cons (dv 3) da_nil))))) (dv 2))))
      dss_nil)
    (dss_one (ds_ret (de_mt PySem.F.plainAttrs_str PySem.F.slot_str_join PySem.F.type_str_join m_join de_str (da_cons (de_lc rfl sc_word_grid.nd (di_any (de_callO (ok_bits_from T) (hr.mono (by decide)) (by rfl) T.a_bits_from.gl (da_cons (dv 5) (da_cons (dv 6) (da_cons (dv 7) (da_cons (dv 2) da_nil)))))) (blkOk_by (own := [("bit", 8)]) (N := n_word_grid) (sc := defScope s_word_grid) (by first | decide +kernel | kernel_rfl)) (fun _ _ _ _ _ => (dg_name (i := 8) sc_word_grid.nd rfl (Or.inl rfl))) (fun _ _ _ _ _ => dts_nil) (fun _ _ _ _ _ => (de_op o_mul (dv 8) (dv 3)))) da_nil)))))))), by
    rcases h with ⟨hlen, h⟩
    obtain ⟨x, e, a, r, n, k, rows, cols, rfl, hx, hw, hle, hn, hr1, hc1, hrc, h⟩ := h
    rw [st_word_grid]
    have hr2 : rows ≤ 600 := Nat.le_trans (Nat.le_mul_of_pos_right _ hc1) hrc
    have hc2 : cols ≤ 600 := Nat.le_trans (Nat.le_mul_of_pos_left _ hr1) hrc
    repeat' decreasing_trivial_pre_omega
    obtain ⟨ky, ds, q1, q2, ⟨ks, q3⟩, q4⟩ := nums_look (r := r) (i := 0) (j := 0) (n := n) (m := k) hx
    refine p_dget q1 q2 q3 q4 ?_
    repeat' decreasing_trivial_pre_omega
    · have hx2 : x = 2 := by rcases k5 hx with rfl | rfl | rfl | rfl | rfl <;> first | rfl | exact absurd (by assumption) (by decide +kernel)
      subst hx2
      refine ⟨rfl, e, a, _, 1, rfl, hw, hn.at_ 2, by omega, ?_⟩
      repeat' decreasing_trivial_pre_omega
      have hp0 : (0 : Int) ≤ (rows : Int) * (cols : Int) := by exact_mod_cast Nat.zero_le (rows * cols)
      have hp1 : (rows : Int) * (cols : Int) ≤ 1000 := by have : rows * cols ≤ 1000 := by omega
                                                          exact_mod_cast this
      refine p_mulS' (by rw [textB_len]; show ((List.range 1).map _).length ≤ 1000; simp) hp0 hp1 ?_
      have e1 : Txt.mul (textB (wordB e a (numN r 0 0 n k 2) 1)) ((rows : Int) * (cols : Int)) = textB (gridBs (.wd 2 e a) r n k rows cols) := by
        rw [← Int.natCast_mul, textB_mul (by show 1 ≤ ((List.range 1).map _).length; simp)]
        have w1 : wordB e a (numN r 0 0 n k 2) 1 = [bitS e a r] := by
          show [bitS e a (r + (0 : Nat))] = _
          rw [Int.natCast_zero, Int.add_zero]
        rw [w1, List.flatten_replicate_singleton]
        congr 1
        unfold gridBs
        apply List.ext_getElem
        · simp
        · intro i h1 h2
          rw [List.getElem_replicate, List.getElem_map]; rfl
      rw [e1]; exact h
    · have nj : ((([Str.ofString "turns", Str.ofString "moons"] : List Str).map Dat.str).any fun e => DL.eqF e (.str (rdS x))) = (x == 0 || x == 4) := by rcases k5 hx with rfl | rfl | rfl | rfl | rfl <;> decide +kernel
      have hx2 : x ≠ 2 := fun hc => by subst hc; exact absurd rfl (by assumption)
      rw [nj]
      by_cases h4 : (x == 0 || x == 4) = true
      · rw [if_pos h4]
        repeat' decreasing_trivial_pre_omega
        refine ⟨rfl, e, a, _, cols, rfl, hw, hn.at_ x, by omega, ?_⟩
        repeat' decreasing_trivial_pre_omega
        refine p_mulS' (by rw [textB_len]; show ((List.range cols).map _).length ≤ 1000; simp; omega) (by omega) (by omega) ?_
        have e1 : Txt.mul (textB (wordB e a (numN r 0 0 n k x) cols)) (rows : Int) = textB (gridBs (.wd x e a) r n k rows cols) := by
          rw [textB_mul (by show 1 ≤ ((List.range cols).map _).length; simp; omega)]
          congr 1
          unfold wordB gridBs
          rw [flat_mod _ (by omega)]
          apply List.map_congr_left
          intro q _
          show bitS e a _ = bitS e a _
          congr 1
          have : x = 0 ∨ x = 4 := by simpa using h4
          rcases this with rfl | rfl
          · show r * k + 0 + ((q % cols : Nat) : Int) = r * k + ((q % cols : Nat) : Int); omega
          · show (0 : Int) + ((q % cols : Nat) : Int) = ((q % cols : Nat) : Int); omega
        rw [e1]; exact h
      · rw [if_neg h4]
        repeat' decreasing_trivial_pre_omega
        refine ⟨rfl, e, a, _, rows, rfl, hw, hn.at_ x, by omega, ?_⟩
        repeat' decreasing_trivial_pre_omega
        refine ⟨by simp only [List.length_map]; rw [← lenL, textB_len]; show ((List.range rows).map _).length < _; rw [List.length_map, List.length_range, sizeLine_eq]; omega, ?_⟩
        have es : ((textB (wordB e a (numN r 0 0 n k x) rows)).cps.toList.map fun c : Nat => Dat.str ⟨#[c]⟩) = (wordB e a (numN r 0 0 n k x) rows).map fun b => Dat.str (textB [b]) := by
          show ((List.map signB _).map _) = _
          rw [List.map_map]; rfl
        rw [es]
        refine dcomp_map (fun b : Bool => .str (textB [b])) (fun b : Bool => .str (textB (List.replicate cols b))) trivial _ _ (fun b _ k hk => ?_) ?_
        · repeat' decreasing_trivial_pre_omega
          refine p_mulS' (by rw [textB_len]; show (1 : Nat) ≤ 1000; decide) (by omega) (by omega) ?_
          rw [textB_mul (bs := [b]) (Nat.le_refl 1)]
          rw [show (List.replicate cols [b]).flatten = List.replicate cols b by simp [List.flatten_replicate_singleton]]
          exact hk
        · have e0 : ([] ++ (wordB e a (numN r 0 0 n k x) rows).map fun b => Dat.str (textB (List.replicate cols b))) = (((wordB e a (numN r 0 0 n k x) rows).map fun b => List.replicate cols b).map textB).map Dat.str := by simp
          rw [e0]
          repeat' decreasing_trivial_pre_omega
          have e2 : textB ((wordB e a (numN r 0 0 n k x) rows).map fun b => List.replicate cols b).flatten = textB (gridBs (.wd x e a) r n k rows cols) := by
            congr 1
            unfold wordB gridBs
            rw [List.map_map]
            show ((List.range rows).map fun t : Nat => List.replicate cols (bitS e a (numN r 0 0 n k x + t))).flatten = _
            rw [flat_div (fun t : Nat => bitS e a (numN r 0 0 n k x + t)) (by omega)]
            apply List.map_congr_left
            intro q _
            show bitS e a _ = bitS e a _
            congr 1
            have : x = 1 ∨ x = 3 := by
              have : ¬ (x = 0 ∨ x = 4) := by simpa using h4
              omega
            rcases this with rfl | rfl
            · show r * n + 0 + ((q / cols : Nat) : Int) = r * n + ((q / cols : Nat) : Int); omega
            · show (0 : Int) + ((q / cols : Nat) : Int) = ((q / cols : Nat) : Int); omega
          have e3 : Txt.join (Str.ofString "") ((((wordB e a (numN r 0 0 n k x) rows).map fun b => List.replicate cols b).map textB)) = textB (gridBs (.wd x e a) r n k rows cols) := by rw [textB_join, e2]
          refine p_join ?_ (by rw [e3]; exact h)
          have e4 : ((((wordB e a (numN r 0 0 n k x) rows).map fun b => List.replicate cols b).map textB).map (·.length)) = List.replicate rows cols := by
            rw [List.map_map, List.map_map, List.eq_replicate_iff]
            refine ⟨by simp [wordB], fun z hz => ?_⟩
            obtain ⟨b, _, rfl⟩ := List.mem_map.mp hz
            show (textB (List.replicate cols b)).length = cols
            rw [textB_len, List.length_replicate]
          have z0 : (Str.ofString "").length = 0 := by decide
          rw [e4, z0, List.sum_replicate_nat]
          omega⟩


end
section
local macro_rules | `(tactic| decreasing_trivial_pre_omega) => `(tactic| with_reducible first | (apply p_methO; (· with_unfolding_all rfl)) | fail "no")
local macro_rules | `(tactic| decreasing_trivial_pre_omega) => `(tactic| with_reducible refine p_insO ?_)
local macro_rules | `(tactic| decreasing_trivial_pre_omega) => `(tactic| with_reducible refine p_srcS ?_)
local macro_rules | `(tactic| decreasing_trivial_pre_omega) => `(tactic| with_reducible refine p_srcL ?_)
local macro_rules | `(tactic| decreasing_trivial_pre_omega) => `(tactic| with_reducible refine p_srcT ?_)
local macro_rules | `(tactic| decreasing_trivial_pre_omega) => `(tactic| with_reducible refine u_any ?_)
local macro_rules | `(tactic| decreasing_trivial_pre_omega) => `(tactic| with_reducible refine p_min ?_)
local macro_rules | `(tactic| decreasing_trivial_pre_omega) => `(tactic| with_reducible refine p_max ?_)
local macro_rules | `(tactic| decreasing_trivial_pre_omega) => `(tactic| with_reducible refine p_own1 ?_)
local macro_rules | `(tactic| decreasing_trivial_pre_omega) => `(tactic| with_reducible refine p_own ?_)
local macro_rules | `(tactic| decreasing_trivial_pre_omega) => `(tactic| with_reducible first | (apply p_setF; (· assumption); (· with_unfolding_all exact Nat.le_of_ble_eq_true rfl)) | fail "no")
local macro_rules | `(tactic| decreasing_trivial_pre_omega) => `(tactic| with_reducible first | (apply p_setF'; (· with_unfolding_all exact Nat.le_of_ble_eq_true rfl)) | fail "no")
local macro_rules | `(tactic| decreasing_trivial_pre_omega) => `(tactic| with_reducible refine u_setF ?_)
local macro_rules | `(tactic| decreasing_trivial_pre_omega) => `(tactic| with_reducible refine u_make ?_)
local macro_rules | `(tactic| decreasing_trivial_pre_omega) => `(tactic| with_reducible refine u_meth ?_)
local macro_rules | `(tactic| decreasing_trivial_pre_omega) => `(tactic| with_reducible refine u_prop ?_)
local macro_rules | `(tactic| decreasing_trivial_pre_omega) => `(tactic| with_reducible first | (apply p_fldR; (· first | exact DL.Mu.set_same _ _ _ | assumption); (· with_unfolding_all rfl)) | fail "no")
local macro_rules | `(tactic| decreasing_trivial_pre_omega) => `(tactic| with_reducible first | (apply p_fldO; (· with_unfolding_all rfl)) | fail "no")
local macro_rules | `(tactic| decreasing_trivial_pre_omega) => `(tactic| with_reducible refine u_fld ?_)
local macro_rules | `(tactic| decreasing_trivial_pre_omega) => `(tactic| with_reducible refine u_callI ?_)
local macro_rules | `(tactic| decreasing_trivial_pre_omega) => `(tactic| with_reducible refine p_isiO ?_)
local macro_rules | `(tactic| decreasing_trivial_pre_omega) => `(tactic| with_reducible refine u_isiO ?_)
local macro_rules | `(tactic| decreasing_trivial_pre_omega) => `(tactic| with_reducible refine p_dgn ?_)
local macro_rules | `(tactic| decreasing_trivial_pre_omega) => `(tactic| with_reducible refine p_dgc ?_)
local macro_rules | `(tactic| decreasing_trivial_pre_omega) => `(tactic| with_reducible first | (apply p_dgL; (· with_unfolding_all rfl)) | fail "no")
local macro_rules | `(tactic| decreasing_trivial_pre_omega) => `(tactic| with_reducible first | (apply p_dgT; (· with_unfolding_all rfl)) | fail "no")
local macro_rules | `(tactic| decreasing_trivial_pre_omega) => `(tactic| with_reducible refine p_par ?_)
local macro_rules | `(tactic| decreasing_trivial_pre_omega) => `(tactic| with_reducible refine p_ends ?_)
local macro_rules | `(tactic| decreasing_trivial_pre_omega) => `(tactic| with_reducible refine u_for ?_)
local macro_rules | `(tactic| decreasing_trivial_pre_omega) => `(tactic| with_reducible first | (apply p_mulS'; (· omega); (· omega); (· omega)) | fail "no")
local macro_rules | `(tactic| decreasing_trivial_pre_omega) => `(tactic| with_reducible first | (apply p_fdiv; (· omega); (· exact log_small (by omega) (by omega))) | fail "no")

theorem Pt.Sm.ofNeg {M N : Nat} {p : Pt} (h : (Pt.neg p).Sm M N) : p.Sm M N := h
theorem Pt.Sm.left {M N w : Nat} {p q : Pt} (h : (Pt.jn w p q).Sm M N) : p.Sm M N := fun x hx => h x (List.mem_append_left _ hx)
theorem Pt.Sm.right {M N w : Nat} {p q : Pt} (h : (Pt.jn w p q).Sm M N) : q.Sm M N := fun x hx => h x (List.mem_append_right _ hx)
theorem gridBs_len {p : Pt} {r n k : Int} {rows cols : Nat} : (gridBs p r n k rows cols).length = rows * cols := by unfold gridBs; simp
theorem grid_alw {b : Bool} {r n k : Int} {rows cols : Nat} : valB (gridBs (.alw b) r n k rows cols) = if b = true then 2 ^ (rows * cols) - 1 else 0 := by
  unfold gridBs
  cases b
  · exact valB_none _
  · rw [if_pos rfl]
    have := valB_full (List.range (rows * cols))
    rw [List.length_range] at this
    exact this
theorem grid_neg {p : Pt} {r n k : Int} {rows cols : Nat} : (2 ^ (rows * cols) - 1) ^^^ valB (gridBs p r n k rows cols) = valB (gridBs (.neg p) r n k rows cols) := by
  have := valB_full (List.range (rows * cols))
  rw [List.length_range] at this
  rw [← this]
  unfold gridBs
  rw [valB_xor]
  congr 1
  apply List.map_congr_left
  intro q _
  show xor true _ = !_
  cases p.tell _ <;> rfl
theorem grid_jn {w : Nat} {p q : Pt} {r n k : Int} {rows cols : Nat} (hw : w < 3) : joinN w (valB (gridBs p r n k rows cols)) (valB (gridBs q r n k rows cols)) = valB (gridBs (.jn w p q) r n k rows cols) := by
  unfold gridBs
  rcases w3 hw with rfl | rfl | rfl
  · show _ &&& _ = _; rw [valB_and]; rfl
  · show _ ||| _ = _; rw [valB_or]; rfl
  · show _ ^^^ _ = _; rw [valB_xor]; rfl
theorem textB_01 (bs : List Bool) : ∀ c ∈ (textB bs).cps.toList, c = 48 ∨ c = 49 := by
  intro c hc
  have hc : c ∈ bs.map signB := hc
  obtain ⟨b, _, rfl⟩ := List.mem_map.mp hc
  cases b <;> simp [signB]
theorem p_shl1 {k : Nat} {m : Mu} {F : DL.KD} (hk : k ≤ 134217727) (h : F (.int (2 ^ k)) m) : rShl1 (.int 1) (.int (k : Int)) m F := ⟨rfl, k, rfl, hk, h⟩
def spNumGrid (n : Nat) : DL.Spec := fun ds m F _ => ds.length = 4 ∧ ∃ (p : Pt) (L : Nat) (r N k : Int) (rows cols : Nat), ds = [p.dat, numsD r 0 0 N k, .int (rows : Int), .int (cols : Int)] ∧ p.Ok L ∧ p.Sm 150 150 ∧ p.dp ≤ n ∧ NumOk r 0 0 N k ∧ 1 ≤ rows ∧ 1 ≤ cols ∧ rows * cols ≤ 600 ∧ F (.int ((valB (gridBs p r N k rows cols) : Nat) : Int)) m
theorem no_number_of_grid : ∀ ds m G Z, ¬ spNumGrid 0 ds m G Z := fun ds m G Z ⟨_, p, L, _, _, _, _, _, _, _, _, h, _⟩ => by have := p.dp_pos; omega
theorem ok_number_of_grid (T : Txt K mg) (n : Nat) : DO P wd K mg base (5 + n) T.f_number_of_grid ["parts", "starts", "rows", "columns"] (spNumGrid n) := by
  induction n with
  | zero => exact dfoF T.a_number_of_grid.fn no_number_of_grid
  | succ n ih => exact dfo (k := 5 + n) T.a_number_of_grid.fn sc_number_of_grid (fun ds m F Z h => h.1) fun cdv A outer s H E ds m G Z hr hB h => ⟨_, (dss_cons (ds_set (i := 4) sc_number_of_grid.nd rfl (Or.inl rfl) (de_ix (dv 0) de_int))
    (dss_cons (ds_set (i := 5) sc_number_of_grid.nd rfl (Or.inl rfl) (de_op o_sub (de_op o_shl1 de_int (de_op o_mul (dv 2) (dv 3))) de_int))
    (dss_cons (ds_if (dt_cmp (o_eq hr.units) (dv 4) de_str (by rfl))
      (dss_one (ds_ret (de_if (dt_val (de_ix (dv 0) de_int)) (dv 5) de_int)))
      dss_nil)
    (dss_cons (ds_if (dt_cmp (o_eq hr.units) (dv 4) de_str (by rfl))
      (dss_one (ds_ret (de_op o_bitxor (dv 5) (de_callO ih (hr.mono (by omega)) (by rfl) T.a_number_of_grid.gl (da_cons (de_ix (dv 0) de_int) (da_cons (dv 1) (da_cons (dv 2) (da_cons (dv 3) da_nil))))))))
      dss_nil)
    (dss_cons (ds_if (dt_cmp o_inF (dv 4) (de_glob (v := .ref T.o_JOINS) (by rfl) T.m_JOINS rfl T.d_JOINS) (by rfl))
      (dss_cons (ds_set (i := 6) sc_number_of_grid.nd rfl (Or.inl rfl) (de_callO ih (hr.mono (by omega)) (by rfl) T.a_number_of_grid.gl (da_cons (de_ix (dv 0) de_int) (da_cons (dv 1) (da_cons (dv 2) (da_cons (dv 3) da_nil))))))
    (dss_one (ds_ret (de_callO (ok_joined T) (hr.mono (by omega)) (by rfl) T.a_joined.gl (da_cons (dv 4) (da_cons (dv 6) (da_cons (de_callO ih (hr.mono (by omega)) (by rfl) T.a_number_of_grid.gl (da_cons (de_ix (dv 0) de_int) (da_cons (dv 1) (da_cons (dv 2) (da_cons (dv 3) da_nil))))) da_nil)))))))
      dss_nil)
    (dss_one (ds_ret (de_callTy c_int2 (by rfl) T.z_int (by decide +kernel) (da_cons (de_callO (ok_word_grid T) (hr.mono (by omega)) (by rfl) T.a_word_grid.gl (da_cons (dv 0) (da_cons (dv 1) (da_cons (dv 2) (da_cons (dv 3) da_nil))))) (da_cons de_int da_nil)))))))))), by
    rcases h with ⟨hlen, h⟩
    obtain ⟨p, L, r, N, k, rows, cols, rfl, hp, hs, hd, hn, hr1, hc1, hrc, h⟩ := h
    have hp0 : (0 : Int) ≤ (rows : Int) * (cols : Int) := by exact_mod_cast Nat.zero_le (rows * cols)
    have hfull : ((2 : Int) ^ (rows * cols) - 1) = ((2 ^ (rows * cols) - 1 : Nat) : Int) := by
      rw [Int.natCast_sub (Nat.one_le_two_pow (n := rows * cols)), Int.natCast_pow]; rfl
    have hr2 : rows ≤ 600 := Nat.le_trans (Nat.le_mul_of_pos_right _ hc1) hrc
    cases p with
    | alw b =>
      unfold Pt.dat
      rw [st_number_of_grid]
      repeat' decreasing_trivial_pre_omega
      rw [← Int.natCast_mul]
      refine p_shl1 (by omega) ?_
      repeat' decreasing_trivial_pre_omega
      rw [hfull]
      repeat' decreasing_trivial_pre_omega
      rw [grid_alw] at h
      cases b
      · rw [if_neg (by decide)] at h ⊢
        repeat' decreasing_trivial_pre_omega
        exact h
      · rw [if_pos rfl] at h ⊢
        repeat' decreasing_trivial_pre_omega
        exact h
    | wd x e a =>
      obtain ⟨hx, hw, hl⟩ := hp
      have na : rdS x ≠ Str.ofString "always" := by rcases k5 hx with rfl | rfl | rfl | rfl | rfl <;> decide +kernel
      have nn : rdS x ≠ Str.ofString "not" := by rcases k5 hx with rfl | rfl | rfl | rfl | rfl <;> decide +kernel
      have nj : ((([Str.ofString "and", Str.ofString "or", Str.ofString "unlike"] : List Str).map Dat.str).any fun e => DL.eqF e (.str (rdS x))) = false := by rcases k5 hx with rfl | rfl | rfl | rfl | rfl <;> decide +kernel
      unfold Pt.dat
      rw [st_number_of_grid]
      repeat' decreasing_trivial_pre_omega
      rw [← Int.natCast_mul]
      refine p_shl1 (by omega) ?_
      repeat' decreasing_trivial_pre_omega
      rw [hfull]
      repeat' decreasing_trivial_pre_omega
      all_goals first | exact absurd (by assumption) na | exact absurd (by assumption) nn | rw [nj]
      repeat' decreasing_trivial_pre_omega
      have hz : e.length ≤ 150 ∧ a.length ≤ 150 := hs (x, e, a) (List.mem_singleton.mpr rfl)
      refine ⟨rfl, x, e, a, r, N, k, rows, cols, rfl, hx, hw, by have := hz.1; have := hz.2; omega, hn, hr1, hc1, hrc, ?_⟩
      repeat' decreasing_trivial_pre_omega
      refine ⟨_, rfl, by rw [textB_len, gridBs_len]; omega, ?_, textB_01 _, ?_⟩
      · intro hc
        have h1 : (gridBs (Pt.wd x e a) r N k rows cols).map signB = [] := hc
        have h2 := congrArg List.length h1
        rw [List.length_map, gridBs_len] at h2
        have : 1 ≤ rows * cols := Nat.mul_le_mul hr1 hc1
        simp at h2; omega
      · show G (.int ((bitsVal ((gridBs (Pt.wd x e a) r N k rows cols).map signB) : Nat) : Int)) m
        rw [bitsVal_text]; exact h
    | neg p =>
      have hd : p.dp + 1 ≤ n + 1 := hd
      unfold Pt.dat
      rw [st_number_of_grid]
      repeat' decreasing_trivial_pre_omega
      rw [← Int.natCast_mul]
      refine p_shl1 (by omega) ?_
      repeat' decreasing_trivial_pre_omega
      rw [hfull]
      repeat' decreasing_trivial_pre_omega
      refine ⟨rfl, p, L, r, N, k, rows, cols, rfl, hp, hs, by omega, hn, hr1, hc1, hrc, ?_⟩
      repeat' decreasing_trivial_pre_omega
      refine p_bitI ?_
      rw [Bits.bitXor_pp (Int.natCast_nonneg _) (Int.natCast_nonneg _), Int.toNat_natCast, Int.toNat_natCast, grid_neg]
      exact h
    | jn w p q =>
      obtain ⟨hw, hp, hq⟩ := hp
      have hd : max p.dp q.dp + 1 ≤ n + 1 := hd
      have na : wayS w ≠ Str.ofString "always" := by rcases w3 hw with rfl | rfl | rfl <;> decide +kernel
      have nn : wayS w ≠ Str.ofString "not" := by rcases w3 hw with rfl | rfl | rfl <;> decide +kernel
      have nj : ((([Str.ofString "and", Str.ofString "or", Str.ofString "unlike"] : List Str).map Dat.str).any fun e => DL.eqF e (.str (wayS w))) = true := by rcases w3 hw with rfl | rfl | rfl <;> decide +kernel
      unfold Pt.dat
      rw [st_number_of_grid]
      repeat' decreasing_trivial_pre_omega
      rw [← Int.natCast_mul]
      refine p_shl1 (by omega) ?_
      repeat' decreasing_trivial_pre_omega
      rw [hfull]
      repeat' decreasing_trivial_pre_omega
      all_goals first | exact absurd (by assumption) na | exact absurd (by assumption) nn | rw [nj]
      repeat' decreasing_trivial_pre_omega
      refine ⟨rfl, p, L, r, N, k, rows, cols, rfl, hp, hs.left, by omega, hn, hr1, hc1, hrc, ?_⟩
      repeat' decreasing_trivial_pre_omega
      refine ⟨rfl, q, L, r, N, k, rows, cols, rfl, hq, hs.right, by omega, hn, hr1, hc1, hrc, ?_⟩
      repeat' decreasing_trivial_pre_omega
      refine ⟨rfl, w, _, _, rfl, hw, ?_⟩
      rw [grid_jn hw]; exact h⟩
theorem bitsOf_len {bs : List Bool} (h : 1 ≤ bs.length) : (bitsOf ((valB bs : Nat) : Int)).length ≤ bs.length := by
  obtain ⟨n, hn⟩ : ∃ n, bs.length = n + 1 := ⟨bs.length - 1, by omega⟩
  have d2 := (digits_text n bs hn).2
  have e0 : bitsOf ((valB bs : Nat) : Int) = ⟨((Nat.toDigits 2 (valB bs)).map Char.toNat).toArray⟩ := by
    unfold bitsOf
    rw [if_neg (by omega)]; rfl
  rw [e0, hn]
  show ((Nat.toDigits 2 (valB bs)).map Char.toNat).toArray.size ≤ _
  exact d2
theorem padok_small {k : Nat} (h : k ≤ 1000) : PadOk (k : Int) = true := by
  unfold PadOk fitsSsize Builtin.Str.tooLong
  rw [sizeLine_eq]
  simp
  omega
theorem u_fmtB {wa : DL.WE} {r : DL.Ro} {m : DL.Mu} {F : DL.KD} (h : wa r m fun d m1 => ∃ i : Int, d = .int i ∧ (bitsOf i).length ≤ sizeLine ∧ F (.str (bitsOf i)) m1) : dFmtB wa r m F := h
def spGrid (C : Addr) : DL.Spec := fun ds m F _ => ds.length = 6 ∧ ∃ (p : Pt) (L : Nat) (r N k : Int) (rows cols : Nat), ds = [RuleD C p, .int r, .int N, .int k, .int (rows : Int), .int (cols : Int)] ∧ p.Ok L ∧ p.Sm 150 150 ∧ p.dp ≤ 24 ∧ NumOk r 0 0 N k ∧ 1 ≤ rows ∧ 1 ≤ cols ∧ rows * cols ≤ 600 ∧ F (.str (textB (gridBs p r N k rows cols))) m
theorem ok_grid (T : Txt K mg) : DO P wd K mg base 30 T.f_grid ["rule", "r", "suns", "moons", "rows", "columns"] (spGrid T.C_Rule) :=
  dfo T.a_grid.fn sc_grid (fun ds m F Z h => h.1) fun cdv A outer s H E ds m G Z hr hB h => ⟨_, (dss_cons (ds_set (i := 6) sc_grid.nd rfl (Or.inl rfl) (de_callO (ok_number_of_grid T 24) (hr.mono (by decide)) (by rfl) T.a_number_of_grid.gl (da_cons (de_meth0 T.cl_Rule T.me_Rule_parts (ok_Rule_parts T) (hr.mono (by decide)) (dv 0)) (da_cons (de_callO (ok_numbers_at T) (hr.mono (by decide)) (by rfl) T.a_numbers_at.gl (da_cons (dv 1) (da_cons de_int (da_cons de_int (da_cons (dv 2) (da_cons (dv 3) da_nil)))))) (da_cons (dv 4) (da_cons (dv 5) da_nil))))))
    (dss_one (ds_ret (de_mt PySem.F.plainAttrs_str PySem.F.slot_str_zfill PySem.F.type_str_zfill m_zfill (de_fmtB (dv 6)) (da_cons (de_op o_mul (dv 4) (dv 5)) da_nil))))), by
    rcases h with ⟨hlen, h⟩
    obtain ⟨p, L, r, N, k, rows, cols, rfl, hp, hs, hd, hn, hr1, hc1, hrc, h⟩ := h
    have hr2 : rows ≤ 600 := Nat.le_trans (Nat.le_mul_of_pos_right _ hc1) hrc
    have hc2 : cols ≤ 600 := Nat.le_trans (Nat.le_mul_of_pos_left _ hr1) hrc
    have hrc1 : 1 ≤ rows * cols := Nat.mul_le_mul hr1 hc1
    rw [st_grid]
    repeat' decreasing_trivial_pre_omega
    refine ⟨rfl, p, rfl, ?_⟩
    repeat' decreasing_trivial_pre_omega
    refine ⟨rfl, r, 0, 0, N, k, rfl, hn, ?_⟩
    repeat' decreasing_trivial_pre_omega
    refine ⟨rfl, p, L, r, N, k, rows, cols, rfl, hp, hs, hd, hn, hr1, hc1, hrc, ?_⟩
    repeat' decreasing_trivial_pre_omega
    refine u_fmtB ?_
    repeat' decreasing_trivial_pre_omega
    refine ⟨by have := bitsOf_len (bs := gridBs p r N k rows cols) (by rw [gridBs_len]; exact hrc1); rw [gridBs_len] at this; rw [sizeLine_eq]; omega, u_isTyS ?_⟩
    repeat' decreasing_trivial_pre_omega
    refine ⟨_, _, rfl, rfl, ?_, ?_⟩
    · rw [← Int.natCast_mul]; exact padok_small (by omega)
    · have := zfill_text (bs := gridBs p r N k rows cols) (by rw [gridBs_len]; exact hrc1)
      rw [gridBs_len] at this
      rw [← Int.natCast_mul, this]; exact h⟩


end
section
local macro_rules | `(tactic| decreasing_trivial_pre_omega) => `(tactic| with_reducible first | (apply p_methO; (· with_unfolding_all rfl)) | fail "no")
local macro_rules | `(tactic| decreasing_trivial_pre_omega) => `(tactic| with_reducible refine p_insO ?_)
local macro_rules | `(tactic| decreasing_trivial_pre_omega) => `(tactic| with_reducible refine p_srcS ?_)
local macro_rules | `(tactic| decreasing_trivial_pre_omega) => `(tactic| with_reducible refine p_srcL ?_)
local macro_rules | `(tactic| decreasing_trivial_pre_omega) => `(tactic| with_reducible refine p_srcT ?_)
local macro_rules | `(tactic| decreasing_trivial_pre_omega) => `(tactic| with_reducible refine u_any ?_)
local macro_rules | `(tactic| decreasing_trivial_pre_omega) => `(tactic| with_reducible refine p_min ?_)
local macro_rules | `(tactic| decreasing_trivial_pre_omega) => `(tactic| with_reducible refine p_max ?_)
local macro_rules | `(tactic| decreasing_trivial_pre_omega) => `(tactic| with_reducible refine p_own1 ?_)
local macro_rules | `(tactic| decreasing_trivial_pre_omega) => `(tactic| with_reducible refine p_own ?_)
local macro_rules | `(tactic| decreasing_trivial_pre_omega) => `(tactic| with_reducible first | (apply p_setF; (· assumption); (· with_unfolding_all exact Nat.le_of_ble_eq_true rfl)) | fail "no")
local macro_rules | `(tactic| decreasing_trivial_pre_omega) => `(tactic| with_reducible first | (apply p_setF'; (· with_unfolding_all exact Nat.le_of_ble_eq_true rfl)) | fail "no")
local macro_rules | `(tactic| decreasing_trivial_pre_omega) => `(tactic| with_reducible refine u_setF ?_)
local macro_rules | `(tactic| decreasing_trivial_pre_omega) => `(tactic| with_reducible refine u_make ?_)
local macro_rules | `(tactic| decreasing_trivial_pre_omega) => `(tactic| with_reducible refine u_meth ?_)
local macro_rules | `(tactic| decreasing_trivial_pre_omega) => `(tactic| with_reducible refine u_prop ?_)
local macro_rules | `(tactic| decreasing_trivial_pre_omega) => `(tactic| with_reducible first | (apply p_fldR; (· first | exact DL.Mu.set_same _ _ _ | assumption); (· with_unfolding_all rfl)) | fail "no")
local macro_rules | `(tactic| decreasing_trivial_pre_omega) => `(tactic| with_reducible first | (apply p_fldO; (· with_unfolding_all rfl)) | fail "no")
local macro_rules | `(tactic| decreasing_trivial_pre_omega) => `(tactic| with_reducible refine u_fld ?_)
local macro_rules | `(tactic| decreasing_trivial_pre_omega) => `(tactic| with_reducible refine u_callI ?_)
local macro_rules | `(tactic| decreasing_trivial_pre_omega) => `(tactic| with_reducible refine p_isiO ?_)
local macro_rules | `(tactic| decreasing_trivial_pre_omega) => `(tactic| with_reducible refine u_isiO ?_)
local macro_rules | `(tactic| decreasing_trivial_pre_omega) => `(tactic| with_reducible refine p_dgn ?_)
local macro_rules | `(tactic| decreasing_trivial_pre_omega) => `(tactic| with_reducible refine p_dgc ?_)
local macro_rules | `(tactic| decreasing_trivial_pre_omega) => `(tactic| with_reducible first | (apply p_dgL; (· with_unfolding_all rfl)) | fail "no")
local macro_rules | `(tactic| decreasing_trivial_pre_omega) => `(tactic| with_reducible first | (apply p_dgT; (· with_unfolding_all rfl)) | fail "no")
local macro_rules | `(tactic| decreasing_trivial_pre_omega) => `(tactic| with_reducible refine p_par ?_)
local macro_rules | `(tactic| decreasing_trivial_pre_omega) => `(tactic| with_reducible refine p_ends ?_)
local macro_rules | `(tactic| decreasing_trivial_pre_omega) => `(tactic| with_reducible refine u_for ?_)
local macro_rules | `(tactic| decreasing_trivial_pre_omega) => `(tactic| with_reducible first | (apply p_mulS'; (· omega); (· omega); (· omega)) | fail "no")
local macro_rules | `(tactic| decreasing_trivial_pre_omega) => `(tactic| with_reducible first | (apply p_fdiv; (· omega); (· exact log_small (by omega) (by omega))) | fail "no")

local macro_rules | `(tactic| decreasing_trivial_pre_omega) => `(tactic| with_reducible first | (apply p_putK1; (· first | exact DL.Mu.set_same .. | assumption); (· with_unfolding_all rfl); (· rw [sizeLine_eq]; exact Nat.lt_of_succ_le (Nat.le_of_ble_eq_true (by with_unfolding_all rfl)))) | fail "no")
local macro_rules | `(tactic| decreasing_trivial_pre_omega) => `(tactic| with_reducible first | (apply p_getK1; (· first | exact dKs_ref (DL.Mu.set_same ..) | exact dKs_ref (by assumption)); (· with_unfolding_all rfl); (· with_unfolding_all rfl)) | fail "no")
local macro_rules | `(tactic| decreasing_trivial_pre_omega) => `(tactic| with_reducible refine p_keysK ?_)
local macro_rules | `(tactic| decreasing_trivial_pre_omega) => `(tactic| with_reducible refine p_keysT ?_)
local macro_rules | `(tactic| decreasing_trivial_pre_omega) => `(tactic| with_reducible refine p_revL ?_)
local macro_rules | `(tactic| decreasing_trivial_pre_omega) => `(tactic| with_reducible refine p_enumL ?_)
local macro_rules | `(tactic| decreasing_trivial_pre_omega) => `(tactic| with_reducible refine p_neI ?_)
local macro_rules | `(tactic| decreasing_trivial_pre_omega) => `(tactic| with_reducible refine u_pnil ?_)
local macro_rules | `(tactic| decreasing_trivial_pre_omega) => `(tactic| with_reducible refine u_pcons ?_)
local macro_rules | `(tactic| decreasing_trivial_pre_omega) => `(tactic| with_reducible refine u_dictMK ?_)
local macro_rules | `(tactic| decreasing_trivial_pre_omega) => `(tactic| with_reducible refine p_par3 ?_)
local macro_rules | `(tactic| decreasing_trivial_pre_omega) => `(tactic| with_reducible refine u_par3 ?_)
local macro_rules | `(tactic| decreasing_trivial_pre_omega) => `(tactic| with_reducible refine u_sortSetTM ?_)
local macro_rules | `(tactic| decreasing_trivial_pre_omega) => `(tactic| with_reducible refine u_sortSetT ?_)
local macro_rules | `(tactic| decreasing_trivial_pre_omega) => `(tactic| with_reducible refine u_enum ?_)
local macro_rules | `(tactic| decreasing_trivial_pre_omega) => `(tactic| with_reducible refine u_revL ?_)
local macro_rules | `(tactic| decreasing_trivial_pre_omega) => `(tactic| with_reducible refine u_dkeys ?_)
local macro_rules | `(tactic| decreasing_trivial_pre_omega) => `(tactic| with_reducible refine u_frz ?_)
local macro_rules | `(tactic| decreasing_trivial_pre_omega) => `(tactic| with_reducible refine u_putD ?_)
local macro_rules | `(tactic| decreasing_trivial_pre_omega) => `(tactic| with_reducible refine u_getD ?_)
local macro_rules | `(tactic| decreasing_trivial_pre_omega) => `(tactic| with_reducible refine u_ninD ?_)
local macro_rules | `(tactic| decreasing_trivial_pre_omega) => `(tactic| with_reducible refine u_inD ?_)
local macro_rules | `(tactic| decreasing_trivial_pre_omega) => `(tactic| with_reducible refine u_newT ?_)
local macro_rules | `(tactic| decreasing_trivial_pre_omega) => `(tactic| with_reducible refine u_newK ?_)
local macro_rules | `(tactic| decreasing_trivial_pre_omega) => `(tactic| with_reducible refine u_lcM ?_)
local macro_rules | `(tactic| decreasing_trivial_pre_omega) => `(tactic| with_reducible refine u_lrgM ?_)
local macro_rules | `(tactic| decreasing_trivial_pre_omega) => `(tactic| with_reducible refine u_lrg ?_)

local macro_rules | `(tactic| decreasing_trivial_pre_omega) => `(tactic| with_reducible refine u_putT ?_)
local macro_rules | `(tactic| decreasing_trivial_pre_omega) => `(tactic| with_reducible refine u_nextN ?_)
local macro_rules | `(tactic| decreasing_trivial_pre_omega) => `(tactic| with_reducible refine u_dcN ?_)
local macro_rules | `(tactic| decreasing_trivial_pre_omega) => `(tactic| with_reducible refine u_lcNM ?_)
local macro_rules | `(tactic| decreasing_trivial_pre_omega) => `(tactic| with_reducible refine u_lcN ?_)

local macro_rules | `(tactic| decreasing_trivial_pre_omega) => `(tactic| with_reducible refine u_callA ?_)

local macro_rules | `(tactic| decreasing_trivial_pre_omega) => `(tactic| with_reducible refine p_itemsT ?_)
local macro_rules | `(tactic| decreasing_trivial_pre_omega) => `(tactic| with_reducible refine u_itemsT ?_)

/-! ### the crossings of the classes; the table -/
def ccT (p : Pt) (n k : Int) (R i j : Nat) : Str := textB ((List.range R).map fun r : Nat => p.tell (numN (r : Int) (i : Int) (j : Int) n k))
def ccE (p : Pt) (n k : Int) (R i j : Nat) : List Key × Dat := ([.inl (i : Int), .inl (j : Int)], .str (ccT p n k R i j))
def ccL (p : Pt) (n k : Int) (R I J : Nat) : List (List Key × Dat) := ((List.range I).map fun i => (List.range J).map (ccE p n k R i)).flatten
def many (p : Pt) (x : Int) : Nat := (min x (p.lead + p.per)).toNat
def tbE (p : Pt) (n k : Int) (R i j : Nat) : List Key × Dat := ([.inl (i : Int), .inl (j : Int)], .tup [.bl ((List.range R).any fun r : Nat => p.tell (numN (r : Int) (i : Int) (j : Int) n k)), .bl ((List.range R).any fun r : Nat => !p.tell (numN (r : Int) (i : Int) (j : Int) n k))])
def tbL (p : Pt) (n k : Int) (R I J : Nat) : List (List Key × Dat) := ((List.range I).map fun i => (List.range J).map (tbE p n k R i)).flatten
theorem cc_one {p : Pt} {r : Nat} {n k : Int} {N M i j : Nat} (hi : i < N) (hj : j < M) : atI (textB (gridBs p (r : Int) n k N M)).cps.toList ((i : Int) * (M : Int) + (j : Int)) = some (signB (p.tell (numN (r : Int) (i : Int) (j : Int) n k))) := by
  have hq : i * M + j < N * M := by
    have := Nat.mul_le_mul_right M (show i + 1 ≤ N by omega)
    rw [Nat.succ_mul] at this
    omega
  have e : ((i : Int) * (M : Int) + (j : Int)) = ((i * M + j : Nat) : Int) := by simp
  rw [e, atI_nat]
  show ((gridBs p (r : Int) n k N M).map signB)[i * M + j]? = _
  unfold gridBs
  rw [List.map_map, List.getElem?_map, List.getElem?_range hq]
  have d1 : (i * M + j) / M = i := by
    rw [Nat.mul_comm, Nat.mul_add_div (by omega), Nat.div_eq_of_lt hj]; rfl
  have d2 : (i * M + j) % M = j := by
    rw [Nat.mul_comm, Nat.mul_add_mod, Nat.mod_eq_of_lt hj]
  show some (signB (p.tell (numN _ (((i * M + j) / M : Nat) : Int) (((i * M + j) % M : Nat) : Int) n k))) = _
  rw [d1, d2]
theorem cc_text (p : Pt) (n k : Int) (i j : Nat) (rs : List Nat) : Txt.join (Str.ofString "") (rs.map fun r : Nat => (⟨#[signB (p.tell (numN (r : Int) (i : Int) (j : Int) n k))]⟩ : Str)) = textB (rs.map fun r : Nat => p.tell (numN (r : Int) (i : Int) (j : Int) n k)) := by
  have e : (rs.map fun r : Nat => (⟨#[signB (p.tell (numN (r : Int) (i : Int) (j : Int) n k))]⟩ : Str)) = (rs.map fun r : Nat => [p.tell (numN (r : Int) (i : Int) (j : Int) n k)]).map textB := by
    rw [List.map_map]
    apply List.map_congr_left
    intro r _
    rfl
  rw [e, textB_join]
  clear e
  congr 1
  induction rs with
  | nil => rfl
  | cons r rs ih => rw [List.map_cons, List.flatten_cons, ih]; rfl
def ccR (p : Pt) (n k : Int) (R M i : Nat) : List (List Key × Dat) := (List.range M).map (ccE p n k R i)
theorem pt_new {κ : Type} [DecidableEq κ] {ds : List (κ × Dat)} {k : κ} {d : Dat} (h : ∀ p ∈ ds, p.1 ≠ k) : pt ds k d = ds ++ [(k, d)] := by
  unfold pt
  rw [if_neg]
  intro hc
  obtain ⟨p, hp, e⟩ := List.any_eq_true.mp hc
  exact h p hp (of_decide_eq_true e)
theorem cross_key {i j i' j' : Nat} (h : ([.inl (i : Int), .inl (j : Int)] : List Key) = [.inl (i' : Int), .inl (j' : Int)]) : i = i' ∧ j = j' := by
  injection h with h1 h2
  injection h2 with h2 _
  injection h1 with h1
  injection h2 with h2
  exact ⟨by omega, by omega⟩
theorem ccL_pw (p : Pt) (n k : Int) (R I J : Nat) : (ccL p n k R I J).Pairwise fun a b => a.1 ≠ b.1 := by
  unfold ccL
  rw [List.pairwise_flatten]
  refine ⟨fun l hl => ?_, ?_⟩
  · obtain ⟨i, _, rfl⟩ := List.mem_map.mp hl
    rw [List.pairwise_map]
    exact List.nodup_range.imp fun {a b} hab hk => hab (cross_key hk).2
  · rw [List.pairwise_map]
    refine List.nodup_range.imp fun {a b} hab x hx y hy hk => ?_
    obtain ⟨_, _, rfl⟩ := List.mem_map.mp hx
    obtain ⟨_, _, rfl⟩ := List.mem_map.mp hy
    exact hab (cross_key hk).1
def tbOf : List Key × Dat → List Key × Dat
  | (k, .str s) => (k, .tup [.bl (decide (49 ∈ s.cps.toList)), .bl (decide (48 ∈ s.cps.toList))])
  | e => e
theorem tb_of {p : Pt} {n k : Int} {R i j : Nat} : tbOf (ccE p n k R i j) = tbE p n k R i j := by
  show (_, Dat.tup [.bl _, .bl _]) = (_, Dat.tup [.bl _, .bl _])
  have h1 : ∀ bs : List Bool, decide (49 ∈ bs.map signB) = bs.any id ∧ decide (48 ∈ bs.map signB) = bs.any not := by
    intro bs
    constructor
    · rw [Bool.eq_iff_iff, decide_eq_true_iff, List.any_eq_true, List.mem_map]
      constructor
      · rintro ⟨b, hb, e⟩
        cases b with
        | true => exact ⟨true, hb, rfl⟩
        | false => exact nomatch (show (48 : Nat) = 49 from e)
      · rintro ⟨b, hb, e⟩
        cases b with
        | true => exact ⟨true, hb, rfl⟩
        | false => cases e
    · rw [Bool.eq_iff_iff, decide_eq_true_iff, List.any_eq_true, List.mem_map]
      constructor
      · rintro ⟨b, hb, e⟩
        cases b with
        | false => exact ⟨false, hb, rfl⟩
        | true => exact nomatch (show (49 : Nat) = 48 from e)
      · rintro ⟨b, hb, e⟩
        cases b with
        | false => exact ⟨false, hb, rfl⟩
        | true => cases e
  obtain ⟨e1, e2⟩ := h1 ((List.range R).map fun r : Nat => p.tell (numN (r : Int) (i : Int) (j : Int) n k))
  rw [show (ccT p n k R i j).cps.toList = ((List.range R).map fun r : Nat => p.tell (numN (r : Int) (i : Int) (j : Int) n k)).map signB from rfl, e1, e2, List.any_map, List.any_map]
  rfl
theorem tb_ccL (p : Pt) (n k : Int) (R I J : Nat) : (ccL p n k R I J).map tbOf = tbL p n k R I J := by
  unfold ccL tbL
  rw [List.map_flatten, List.map_map]
  congr 1
  apply List.map_congr_left
  intro i _
  show ((List.range J).map (ccE p n k R i)).map tbOf = _
  rw [List.map_map]
  apply List.map_congr_left
  intro j _
  exact tb_of
theorem ccR_len (p : Pt) (n k : Int) (R M : Nat) : ∀ l : List Nat, ((l.map (ccR p n k R M)).flatten).length = l.length * M
  | [] => by simp
  | x :: l => by
    rw [List.map_cons, List.flatten_cons, List.length_append, ccR_len p n k R M l, List.length_cons, Nat.succ_mul]
    have : (ccR p n k R M x).length = M := by unfold ccR; simp
    omega
def spCC (C : Addr) : DL.Spec := fun ds m F _ => ds.length = 4 ∧ ∃ (p : Pt) (L : Nat) (n k c : Int), ds = [RuleD C p, .int n, .int k, .int c] ∧ PSm L p ∧ 1 ≤ n ∧ 1 ≤ k ∧ 1 ≤ c ∧ Big n ∧ Big k ∧ ∀ q, m q = none → F (.ref q) (m.set q (.dcT (ccL p n k (many p c) (many p n) (many p k))))
theorem ok_class_crossings (T : Txt K mg) : DO P wd K mg base 37 T.f_class_crossings ["rule", "suns", "moons", "rounds"] (spCC T.C_Rule) :=
  dfo T.a_class_crossings.fn sc_class_crossings (fun ds m F Z h => h.1) fun cdv A outer s H E ds m G Z hr hB h => ⟨_, (dss_cons (ds_set (i := 4) sc_class_crossings.nd rfl (Or.inr rfl) (de_callB c_len (by rfl) T.z_len (by decide +kernel) (da_cons (de_callO (ok_classes T) (hr.mono (by decide)) (by rfl) T.a_classes.gl (da_cons (dv 0) (da_cons (dv 1) da_nil))) da_nil)))
    (dss_cons (ds_set (i := 5) sc_class_crossings.nd rfl (Or.inr rfl) (de_callB c_len (by rfl) T.z_len (by decide +kernel) (da_cons (de_callO (ok_classes T) (hr.mono (by decide)) (by rfl) T.a_classes.gl (da_cons (dv 0) (da_cons (dv 2) da_nil))) da_nil)))
    (dss_cons (ds_set (i := 6) sc_class_crossings.nd rfl (Or.inr rfl) (de_lc rfl sc_class_crossings.nd (di_any (de_callO (ok_classes T) (hr.mono (by decide)) (by rfl) T.a_classes.gl (da_cons (dv 0) (da_cons (dv 3) da_nil)))) (blkOk_by (own := [("r", 7)]) (N := n_class_crossings) (sc := defScope s_class_crossings) (by first | decide +kernel | kernel_rfl)) (fun _ _ _ _ _ => (dg_name (i := 7) sc_class_crossings.nd rfl (Or.inl rfl))) (fun _ _ _ _ _ => dts_nil) (fun _ _ _ _ _ => (de_callO (ok_grid T) (hr.mono (by decide)) (by rfl) T.a_grid.gl (da_cons (dv 0) (da_cons (dv 7) (da_cons (dv 1) (da_cons (dv 2) (da_cons (dv 4) (da_cons (dv 5) da_nil))))))))))
    (dss_one (ds_ret (de_dcT2 hr.units (vs1 := [9]) rfl sc_class_crossings.nd (di_rng1 (by rfl) T.z_range (da_cons (dv 4) da_nil)) (blkOk_by (own := [("k", 8), ("l", 9)]) (N := n_class_crossings) (sc := defScope s_class_crossings) (by first | decide +kernel | kernel_rfl)) (by decide) (fun _ _ _ _ _ => (dg_name (i := 8) sc_class_crossings.nd rfl (Or.inr rfl))) (fun _ _ _ _ _ => dts_nil) (fun _ _ _ _ _ => (di_rng1 (by rfl) T.z_range (da_cons (dv 5) da_nil))) (fun _ _ _ _ _ => (dg_name (i := 9) sc_class_crossings.nd rfl (Or.inr rfl))) (fun _ _ _ _ _ => dts_nil) (fun _ _ _ _ _ => (de_tup (da_cons (dv 8) (da_cons (dv 9) da_nil)))) (fun _ _ _ _ _ => (de_mt PySem.F.plainAttrs_str PySem.F.slot_str_join PySem.F.type_str_join m_join de_str (da_cons (de_lc rfl sc_class_crossings.nd (di_any (dv 6)) (blkOk_by (own := [("bits", 10)]) (N := n_class_crossings) (sc := _) (by first | decide +kernel | kernel_rfl)) (fun _ _ _ _ _ => (dg_name (i := 10) sc_class_crossings.nd rfl (Or.inl rfl))) (fun _ _ _ _ _ => dts_nil) (fun _ _ _ _ _ => (de_ix (dv 10) (de_op o_add (de_op o_mul (dv 8) (dv 5)) (dv 9))))) da_nil))))))))), by
    rcases h with ⟨hlen, h⟩
    obtain ⟨p, L, n, k, c, rfl, hp, n1, k1, c1, bn, bk, h⟩ := h
    have hpp := per_pos hp.ok.ok
    have hlp := hp.lp
    have eN : (((DL.rangeD 0 (min n (p.lead + p.per)).toNat).length : Nat) : Int) = ((many p n : Nat) : Int) := by unfold DL.rangeD many; simp
    have eK : (((DL.rangeD 0 (min k (p.lead + p.per)).toNat).length : Nat) : Int) = ((many p k : Nat) : Int) := by unfold DL.rangeD many; simp
    have bN : 1 ≤ many p n ∧ many p n ≤ 20 := by unfold many; omega
    have bK : 1 ≤ many p k ∧ many p k ≤ 20 := by unfold many; omega
    have bC : 1 ≤ many p c ∧ many p c ≤ 20 := by unfold many; omega
    have bNK : many p n * many p k ≤ 20 * 20 := Nat.mul_le_mul bN.2 bK.2
    rw [st_class_crossings]
    repeat' decreasing_trivial_pre_omega
    refine ⟨rfl, p, L, n, rfl, hp, by omega, ?_⟩
    repeat' decreasing_trivial_pre_omega
    refine ⟨rfl, p, L, k, rfl, hp, by omega, ?_⟩
    repeat' decreasing_trivial_pre_omega
    refine ⟨rfl, p, L, c, rfl, hp, by omega, ?_⟩
    repeat' decreasing_trivial_pre_omega
    rw [eN, eK]
    rw [show (min c ((p.lead : Int) + (p.per : Int))).toNat = many p c from rfl]
    generalize many p n = N at bN bNK h ⊢
    generalize many p k = M at bK bNK h ⊢
    generalize many p c = R at bC h ⊢
    rw [rangeD0 R]
    refine ⟨by rw [sizeLine_eq]; show ((List.range R).map fun r : Nat => Dat.int (r : Int)).length < 16777216; rw [List.length_map, List.length_range]; omega, ?_⟩
    refine dcomp_map (gd := DL.gTrue) (fun r : Nat => Dat.int (r : Int)) (fun r : Nat => Dat.str (textB (gridBs p (r : Int) n k N M))) trivial _ [] (fun r hr' kk hkk => ?_) ?_
    · have hr' := List.mem_range.mp hr'
      repeat' decreasing_trivial_pre_omega
      refine ⟨rfl, p, L, _, n, k, N, M, rfl, hp.ok.ok, hp.sm, by have := hp.ok.dp; omega, ⟨.of (by omega) (by omega), .of (by omega) (by omega), .of (by omega) (by omega), bn, bk⟩, bN.1, bK.1, by omega, ?_⟩
      exact hkk
    rw [List.nil_append]
    repeat' decreasing_trivial_pre_omega
    refine p_rng1 ?_
    repeat' decreasing_trivial_pre_omega
    refine ⟨(N : Int), rfl, by omega, by omega, ?_⟩
    show dcompN gTrue _ _ _ _ _ (DL.rangeD 0 ((N : Int) - 0).toNat) _ _
    rw [show ((N : Int) - 0).toNat = N by omega, rangeD0 N]
    refine compN_split (fun i : Nat => Dat.int (i : Int)) (fun dn => (dn.map (ccR p n k R M)).flatten) trivial rfl (fun i done rest hsplit K hK => ?_) h
    have hdone : done.length ≤ 20 := by have := congrArg List.length hsplit; simp at this; omega
    have hi : i < N := List.mem_range.mp (by rw [hsplit]; simp)
    have hdn : i ∉ done := by
      have hnd : (done ++ i :: rest).Nodup := by rw [← hsplit]; exact List.nodup_range
      intro hc
      exact (List.nodup_append.mp hnd).2.2 i hc i (by simp) rfl
    repeat' decreasing_trivial_pre_omega
    refine p_rng1 ?_
    repeat' decreasing_trivial_pre_omega
    refine ⟨(M : Int), rfl, by omega, by omega, ?_⟩
    show dcompN gTrue _ _ _ _ _ (DL.rangeD 0 ((M : Int) - 0).toNat) _ _
    rw [show ((M : Int) - 0).toNat = M by omega, rangeD0 M]
    refine compN_split (fun j : Nat => Dat.int (j : Int)) (fun dn => (done.map (ccR p n k R M)).flatten ++ dn.map (ccE p n k R i)) trivial (by simp) (fun j dn rest2 hsplit2 K2 hK2 => ?_) (by
      have e : ((done ++ [i]).map (ccR p n k R M)).flatten = (done.map (ccR p n k R M)).flatten ++ (List.range M).map (ccE p n k R i) := by
        rw [List.map_append, List.flatten_append]
        show _ ++ (([i].map (ccR p n k R M)).flatten) = _
        simp [ccR]
      rw [e] at hK
      exact hK)
    have hj : j < M := List.mem_range.mp (by rw [hsplit2]; simp)
    have hd2 : dn.length ≤ 20 := by have := congrArg List.length hsplit2; simp at this; omega
    have hjn : j ∉ dn := by
      have hnd : (dn ++ j :: rest2).Nodup := by rw [← hsplit2]; exact List.nodup_range
      intro hc
      exact (List.nodup_append.mp hnd).2.2 j hc j (by simp) rfl
    repeat' decreasing_trivial_pre_omega
    refine ⟨by rw [sizeLine_eq]; show ((List.range R).map fun r : Nat => Dat.str (textB (gridBs p (r : Int) n k N M))).length < 16777216; rw [List.length_map, List.length_range]; omega, ?_⟩
    refine dcomp_map (gd := DL.gTrue) (fun r : Nat => Dat.str (textB (gridBs p (r : Int) n k N M))) (fun r : Nat => Dat.str ⟨#[signB (p.tell (numN (r : Int) (i : Int) (j : Int) n k))]⟩) trivial _ [] (fun r hr' kk hkk => ?_) ?_
    · repeat' decreasing_trivial_pre_omega
      refine p_ixS (by rw [textB_len, gridBs_len, sizeLine_eq]; omega) (cc_one hi hj) ?_
      exact hkk
    rw [List.nil_append]
    rw [show ((List.range R).map fun r : Nat => Dat.str ⟨#[signB (p.tell (numN (r : Int) (i : Int) (j : Int) n k))]⟩) = ((List.range R).map fun r : Nat => (⟨#[signB (p.tell (numN (r : Int) (i : Int) (j : Int) n k))]⟩ : Str)).map Dat.str by rw [List.map_map]; rfl]
    repeat' decreasing_trivial_pre_omega
    refine p_join ?_ ?_
    · have e4 : (((List.range R).map fun r : Nat => (⟨#[signB (p.tell (numN (r : Int) (i : Int) (j : Int) n k))]⟩ : Str)).map (·.length)) = List.replicate R 1 := by
        rw [List.map_map, List.eq_replicate_iff]
        refine ⟨by simp, fun z hz => ?_⟩
        obtain ⟨b, _, rfl⟩ := List.mem_map.mp hz
        rfl
      rw [e4, show (Str.ofString "").length = 0 from rfl]
      simp
      omega
    rw [cc_text]
    refine ⟨[.inl (i : Int), .inl (j : Int)], rfl, ?_, ?_⟩
    · have b1 : done.length * M ≤ 20 * 20 := Nat.mul_le_mul hdone (by omega)
      rw [List.length_append, ccR_len, List.length_map, sizeLine_eq]
      omega
    · rw [pt_new, List.append_assoc]
      · rw [List.map_append] at hK2
        exact hK2
      · intro e he hk
        rcases List.mem_append.mp he with he | he
        · obtain ⟨l, hl, he⟩ := List.mem_flatten.mp he
          obtain ⟨i', hi', rfl⟩ := List.mem_map.mp hl
          obtain ⟨j', _, rfl⟩ := List.mem_map.mp he
          obtain ⟨rfl, _⟩ := cross_key hk
          exact hdn hi'
        · obtain ⟨j', hj', rfl⟩ := List.mem_map.mp he
          obtain ⟨_, rfl⟩ := cross_key hk
          exact hjn hj'⟩
def spTable (C : Addr) : DL.Spec := fun ds m F _ => ds.length = 4 ∧ ∃ (p : Pt) (L : Nat) (n k c : Int), ds = [RuleD C p, .int n, .int k, .int c] ∧ PSm L p ∧ 1 ≤ n ∧ 1 ≤ k ∧ 1 ≤ c ∧ Big n ∧ Big k ∧ ∀ q, m q = none → F (.ref q) (m.set q (.dcT (tbL p n k (many p c) (many p n) (many p k))))
theorem ok_table (T : Txt K mg) : DO P wd K mg base 38 T.f_table ["rule", "suns", "moons", "rounds"] (spTable T.C_Rule) :=
  dfo T.a_table.fn sc_table (fun ds m F Z h => h.1) fun cdv A outer s H E ds m G Z hr hB h => ⟨_, (dss_cons (ds_set (i := 4) sc_table.nd rfl (Or.inl rfl) (de_frz (de_callO (ok_class_crossings T) (hr.mono (by decide)) (by rfl) T.a_class_crossings.gl (da_cons (dv 0) (da_cons (dv 1) (da_cons (dv 2) (da_cons (dv 3) da_nil)))))))
    (dss_one (ds_ret (de_dcT1 hr.units rfl sc_table.nd (di_itemsT (dv 4)) (blkOk_by (own := [("pair", 5), ("text", 6)]) (N := n_table) (sc := defScope s_table) (by first | decide +kernel | kernel_rfl))  (fun _ _ _ _ _ => (dg_seq (n := 2) rfl (dgs_cons (dg_name (i := 5) sc_table.nd rfl (Or.inl rfl)) (dgs_cons (dg_name (i := 6) sc_table.nd rfl (Or.inl rfl)) dgs_nil)))) (fun _ _ _ _ _ => dts_nil) (fun _ _ _ _ _ => (dv 5)) (fun _ _ _ _ _ => (de_tup (da_cons (de_cmp o_inS de_str (dv 6) (by rfl)) (da_cons (de_cmp o_inS de_str (dv 6) (by rfl)) da_nil)))))))), by
    rcases h with ⟨hlen, h⟩
    obtain ⟨p, L, n, k, c, rfl, hp, n1, k1, c1, bn, bk, h⟩ := h
    have hpp := per_pos hp.ok.ok
    have hlp := hp.lp
    have bN : many p n ≤ 20 := by unfold many; omega
    have bK : many p k ≤ 20 := by unfold many; omega
    have bNK : many p n * many p k ≤ 20 * 20 := Nat.mul_le_mul bN bK
    rw [st_table]
    repeat' decreasing_trivial_pre_omega
    refine ⟨rfl, p, L, n, k, c, rfl, hp, n1, k1, c1, bn, bk, fun q hq => ?_⟩
    repeat' decreasing_trivial_pre_omega
    refine p_frzT (DL.Mu.set_same ..) ?_
    rw [DL.Mu.set_del _ _ _ hq]
    repeat' decreasing_trivial_pre_omega
    have hpw := ccL_pw p n k (many p c) (many p n) (many p k)
    have hll : (ccL p n k (many p c) (many p n) (many p k)).length ≤ 20 * 20 := by
      show (((List.range (many p n)).map (ccR p n k (many p c) (many p k))).flatten).length ≤ _
      rw [ccR_len, List.length_range]; exact bNK
    rw [← tb_ccL] at h
    have hmem : ∀ e ∈ ccL p n k (many p c) (many p n) (many p k), ∃ i j, e = ccE p n k (many p c) i j := fun e he => by
      obtain ⟨l, hl, he⟩ := List.mem_flatten.mp he
      obtain ⟨i, _, rfl⟩ := List.mem_map.mp hl
      obtain ⟨j, _, rfl⟩ := List.mem_map.mp he
      exact ⟨i, j, rfl⟩
    show dcompN gTrue _ _ _ _ _ (pairsT _) _ _
    generalize ccL p n k (many p c) (many p n) (many p k) = D at hpw hll h hmem ⊢
    unfold pairsT
    refine compN_split (fun e : List Key × Dat => Dat.tup [datT e.1, e.2]) (fun dn => dn.map tbOf) trivial rfl (fun e done rest hsplit K hK => ?_) h
    obtain ⟨i, j, rfl⟩ := hmem e (by rw [hsplit]; simp)
    have hd : done.length ≤ 20 * 20 := by have := congrArg List.length hsplit; simp at this; omega
    unfold ccE
    repeat' decreasing_trivial_pre_omega
    refine p_inS (c := 49) rfl ?_
    repeat' decreasing_trivial_pre_omega
    refine p_inS (c := 48) rfl ?_
    repeat' decreasing_trivial_pre_omega
    refine ⟨[.inl (i : Int), .inl (j : Int)], rfl, by rw [List.length_map, sizeLine_eq]; omega, ?_⟩
    rw [pt_new]
    · rw [List.map_append] at hK
      exact hK
    · intro x hx hk
      obtain ⟨y, hy, rfl⟩ := List.mem_map.mp hx
      obtain ⟨i', j', rfl⟩ := hmem y (by rw [hsplit]; simp [hy])
      rw [hsplit] at hpw
      exact (List.pairwise_append.mp hpw).2.2 _ hy (ccE p n k (many p c) i j) (by simp) hk⟩


end
section
local macro_rules | `(tactic| decreasing_trivial_pre_omega) => `(tactic| with_reducible first | (apply p_methO; (· with_unfolding_all rfl)) | fail "no")
local macro_rules | `(tactic| decreasing_trivial_pre_omega) => `(tactic| with_reducible refine p_insO ?_)
local macro_rules | `(tactic| decreasing_trivial_pre_omega) => `(tactic| with_reducible refine p_srcS ?_)
local macro_rules | `(tactic| decreasing_trivial_pre_omega) => `(tactic| with_reducible refine p_srcL ?_)
local macro_rules | `(tactic| decreasing_trivial_pre_omega) => `(tactic| with_reducible refine p_srcT ?_)
local macro_rules | `(tactic| decreasing_trivial_pre_omega) => `(tactic| with_reducible refine u_any ?_)
local macro_rules | `(tactic| decreasing_trivial_pre_omega) => `(tactic| with_reducible refine p_min ?_)
local macro_rules | `(tactic| decreasing_trivial_pre_omega) => `(tactic| with_reducible refine p_max ?_)
local macro_rules | `(tactic| decreasing_trivial_pre_omega) => `(tactic| with_reducible refine p_own1 ?_)
local macro_rules | `(tactic| decreasing_trivial_pre_omega) => `(tactic| with_reducible refine p_own ?_)
local macro_rules | `(tactic| decreasing_trivial_pre_omega) => `(tactic| with_reducible first | (apply p_setF; (· assumption); (· with_unfolding_all exact Nat.le_of_ble_eq_true rfl)) | fail "no")
local macro_rules | `(tactic| decreasing_trivial_pre_omega) => `(tactic| with_reducible first | (apply p_setF'; (· with_unfolding_all exact Nat.le_of_ble_eq_true rfl)) | fail "no")
local macro_rules | `(tactic| decreasing_trivial_pre_omega) => `(tactic| with_reducible refine u_setF ?_)
local macro_rules | `(tactic| decreasing_trivial_pre_omega) => `(tactic| with_reducible refine u_make ?_)
local macro_rules | `(tactic| decreasing_trivial_pre_omega) => `(tactic| with_reducible refine u_meth ?_)
local macro_rules | `(tactic| decreasing_trivial_pre_omega) => `(tactic| with_reducible refine u_prop ?_)
local macro_rules | `(tactic| decreasing_trivial_pre_omega) => `(tactic| with_reducible first | (apply p_fldR; (· first | exact DL.Mu.set_same _ _ _ | assumption); (· with_unfolding_all rfl)) | fail "no")
local macro_rules | `(tactic| decreasing_trivial_pre_omega) => `(tactic| with_reducible first | (apply p_fldO; (· with_unfolding_all rfl)) | fail "no")
local macro_rules | `(tactic| decreasing_trivial_pre_omega) => `(tactic| with_reducible refine u_fld ?_)
local macro_rules | `(tactic| decreasing_trivial_pre_omega) => `(tactic| with_reducible refine u_callI ?_)
local macro_rules | `(tactic| decreasing_trivial_pre_omega) => `(tactic| with_reducible refine p_isiO ?_)
local macro_rules | `(tactic| decreasing_trivial_pre_omega) => `(tactic| with_reducible refine u_isiO ?_)
local macro_rules | `(tactic| decreasing_trivial_pre_omega) => `(tactic| with_reducible refine p_dgn ?_)
local macro_rules | `(tactic| decreasing_trivial_pre_omega) => `(tactic| with_reducible refine p_dgc ?_)
local macro_rules | `(tactic| decreasing_trivial_pre_omega) => `(tactic| with_reducible first | (apply p_dgL; (· with_unfolding_all rfl)) | fail "no")
local macro_rules | `(tactic| decreasing_trivial_pre_omega) => `(tactic| with_reducible first | (apply p_dgT; (· with_unfolding_all rfl)) | fail "no")
local macro_rules | `(tactic| decreasing_trivial_pre_omega) => `(tactic| with_reducible refine p_par ?_)
local macro_rules | `(tactic| decreasing_trivial_pre_omega) => `(tactic| with_reducible refine p_ends ?_)
local macro_rules | `(tactic| decreasing_trivial_pre_omega) => `(tactic| with_reducible refine u_for ?_)
local macro_rules | `(tactic| decreasing_trivial_pre_omega) => `(tactic| with_reducible first | (apply p_mulS'; (· omega); (· omega); (· omega)) | fail "no")
local macro_rules | `(tactic| decreasing_trivial_pre_omega) => `(tactic| with_reducible first | (apply p_fdiv; (· omega); (· exact log_small (by omega) (by omega))) | fail "no")

theorem p_sumL {yss : List (List Dat)} {m : Mu} {F : KD} (hz : yss.flatten.length ≤ sizeLine) (h : F (.lst yss.flatten) m) : rSumL [.lst (yss.map .lst), .lst []] m F := ⟨yss, rfl, hz, h⟩
def spLeaves (n : Nat) : DL.Spec := fun ds m F _ => ds.length = 1 ∧ ∃ (p : Pt) (L : Nat), ds = [p.dat] ∧ p.Ok L ∧ p.dp ≤ n ∧ p.words.length ≤ 1000 ∧ F (.lst (p.words.map wdD)) m
theorem no_l_leaves : ∀ ds m G Z, ¬ spLeaves 0 ds m G Z := fun ds m G Z ⟨_, p, L, _, _, h, _⟩ => by have := p.dp_pos; omega
theorem ok_l_leaves (T : Txt K mg) (n : Nat) : DF P wd K mg base CX0 (2 + n) T.f_l_leaves ["_law_parts_here"] (spLeaves n) := by
  induction n with
  | zero => exact dffF T.a_l_leaves no_l_leaves
  | succ n ih => exact dfxB (k := 2 + n) T.a_l_leaves sc_l_leaves (fun ds m F Z h => h.1) fun cdv A outer s H E ds m G Z hr hgd hB h => ⟨_, (dss_cons (ds_if (dt_cmp (o_eq hr.units) (de_ix (dv 0) de_int) de_str (by rfl))
      (dss_one (ds_ret (de_lst da_nil)))
      dss_nil)
    (dss_cons (ds_if (dt_cmp o_inF (de_ix (dv 0) de_int) (de_tup (da_cons de_str (da_cons de_str (da_cons de_str (da_cons de_str da_nil))))) (by rfl))
      (dss_one (ds_ret (de_callB (c_sumL rfl) (by rfl) T.z_sum (by decide +kernel) (da_cons (de_lc rfl sc_l_leaves.nd (di_any (de_sl (dv 0) (do_some de_int) do_none)) (blkOk_by (own := [("_law_part", 1)]) (N := n_l_leaves) (sc := defScope s_l_leaves) (by first | decide +kernel | kernel_rfl)) (fun _ _ _ _ _ => (dg_name (i := 1) sc_l_leaves.nd rfl (Or.inl rfl))) (fun _ _ _ _ _ => dts_nil) (fun _ _ _ _ _ => (de_call ih (hr.mono (by omega)) hgd (by rfl) T.a_l_leaves.gl (da_cons (dv 1) da_nil)))) (da_cons (de_lst da_nil) da_nil)))))
      dss_nil)
    (dss_one (ds_ret (de_lst (da_cons (dv 0) da_nil)))))), by
    rcases h with ⟨hlen, h⟩
    obtain ⟨p, L, rfl, hp, hd, hz, h⟩ := h
    cases p with
    | alw b =>
      unfold Pt.dat
      rw [st_l_leaves]
      repeat' decreasing_trivial_pre_omega
      exact h
    | wd k e a =>
      have na : rdS k ≠ Str.ofString "always" := by rcases k5 hp.1 with rfl | rfl | rfl | rfl | rfl <;> decide +kernel
      have nj : ([Dat.str (Str.ofString "not"), Dat.str (Str.ofString "and"), Dat.str (Str.ofString "or"), Dat.str (Str.ofString "unlike")].any fun e => DL.eqF e (.str (rdS k))) = false := by rcases k5 hp.1 with rfl | rfl | rfl | rfl | rfl <;> decide +kernel
      unfold Pt.dat
      rw [st_l_leaves]
      repeat' decreasing_trivial_pre_omega
      all_goals first | exact absurd (by assumption) na | rw [nj]
      repeat' decreasing_trivial_pre_omega
      exact h
    | neg p =>
      have hd : p.dp + 1 ≤ n + 1 := hd
      unfold Pt.dat
      rw [st_l_leaves]
      repeat' decreasing_trivial_pre_omega
      refine ⟨by rw [sizeLine_eq]; exact (by decide : 1 < 16777216), ?_⟩
      refine comp_c trivial ?_
      repeat' decreasing_trivial_pre_omega
      refine ⟨rfl, p, L, rfl, hp, by omega, hz, ?_⟩
      refine ⟨trivial, ?_⟩
      repeat' decreasing_trivial_pre_omega
      have hz : p.words.length ≤ 1000 := hz
      refine p_sumL (yss := [p.words.map wdD]) (by rw [sizeLine_eq]; simp; omega) ?_
      have e : [p.words.map wdD].flatten = p.words.map wdD := by simp
      rw [e]
      exact h
    | jn w p q =>
      obtain ⟨hw, hp, hq⟩ := hp
      have hd : max p.dp q.dp + 1 ≤ n + 1 := hd
      have na : wayS w ≠ Str.ofString "always" := by rcases w3 hw with rfl | rfl | rfl <;> decide +kernel
      have nj : ([Dat.str (Str.ofString "not"), Dat.str (Str.ofString "and"), Dat.str (Str.ofString "or"), Dat.str (Str.ofString "unlike")].any fun e => DL.eqF e (.str (wayS w))) = true := by rcases w3 hw with rfl | rfl | rfl <;> decide +kernel
      have hz : (p.words ++ q.words).length ≤ 1000 := hz
      rw [List.length_append] at hz
      unfold Pt.dat
      rw [st_l_leaves]
      repeat' decreasing_trivial_pre_omega
      all_goals first | exact absurd (by assumption) na | rw [nj]
      repeat' decreasing_trivial_pre_omega
      refine ⟨by rw [sizeLine_eq]; exact (by decide : 2 < 16777216), ?_⟩
      refine comp_c trivial ?_
      repeat' decreasing_trivial_pre_omega
      refine ⟨rfl, p, L, rfl, hp, by omega, by omega, ?_⟩
      refine comp_c trivial ?_
      repeat' decreasing_trivial_pre_omega
      refine ⟨rfl, q, L, rfl, hq, by omega, by omega, ?_⟩
      refine ⟨trivial, ?_⟩
      repeat' decreasing_trivial_pre_omega
      refine p_sumL (yss := [p.words.map wdD, q.words.map wdD]) (by rw [sizeLine_eq]; simp; omega) ?_
      have e : [p.words.map wdD, q.words.map wdD].flatten = (p.words ++ q.words).map wdD := by simp
      rw [e]
      exact h⟩

theorem all_dvd {ws : List (Nat × Str × Str)} {k : Nat} : perW ws ∣ k ↔ ∀ w ∈ ws, w.2.2.length ∣ k := by
  have key : ∀ (ws : List (Nat × Str × Str)) (a : Nat), ws.foldl (fun l w => Nat.lcm l w.2.2.length) a ∣ k ↔ a ∣ k ∧ ∀ w ∈ ws, w.2.2.length ∣ k := by
    intro ws
    induction ws with
    | nil => intro a; simp
    | cons w ws ih =>
      intro a
      show List.foldl _ (Nat.lcm a w.2.2.length) ws ∣ k ↔ _
      rw [ih, Nat.lcm_dvd_iff]
      simp [and_assoc]
  have := key ws 1
  unfold perW
  rw [this]
  simp
theorem lead_is {ws : List (Nat × Str × Str)} {v : Int} (h1 : v ∈ (0 : Int) :: ws.map fun w => ((w.2.1.length : Nat) : Int)) (h2 : ∀ y ∈ (0 : Int) :: ws.map fun w => ((w.2.1.length : Nat) : Int), y ≤ v) : v = ((leadW ws : Nat) : Int) := by
  have key : ∀ (ws : List (Nat × Str × Str)) (a : Nat), a ≤ ws.foldl (fun l w => max l w.2.1.length) a ∧ (∀ w ∈ ws, w.2.1.length ≤ ws.foldl (fun l w => max l w.2.1.length) a) ∧ (ws.foldl (fun l w => max l w.2.1.length) a = a ∨ ∃ w ∈ ws, ws.foldl (fun l w => max l w.2.1.length) a = w.2.1.length) := by
    intro ws
    induction ws with
    | nil => intro a; exact ⟨Nat.le_refl _, (fun w h => nomatch h), .inl rfl⟩
    | cons w ws ih =>
      intro a
      obtain ⟨g1, g2, g3⟩ := ih (max a w.2.1.length)
      refine ⟨Nat.le_trans (Nat.le_max_left _ _) g1, fun x hx => ?_, ?_⟩
      · rcases List.mem_cons.mp hx with rfl | hx
        · exact Nat.le_trans (Nat.le_max_right _ _) g1
        · exact g2 x hx
      · rcases g3 with g3 | ⟨x, hx, g3⟩
        · rcases Nat.le_total a w.2.1.length with hle | hle
          · exact .inr ⟨w, by simp, by show List.foldl _ _ ws = _; rw [g3, Nat.max_eq_right hle]⟩
          · exact .inl (by show List.foldl _ _ ws = _; rw [g3, Nat.max_eq_left hle])
        · exact .inr ⟨x, by simp [hx], g3⟩
  obtain ⟨g1, g2, g3⟩ := key ws 0
  unfold leadW
  refine Int.le_antisymm ?_ ?_
  · rcases List.mem_cons.mp h1 with rfl | h1
    · omega
    · obtain ⟨w, hw, rfl⟩ := List.mem_map.mp h1
      have := g2 w hw
      omega
  · rcases g3 with g3 | ⟨w, hw, g3⟩
    · rw [g3]; exact h2 0 (by simp)
    · rw [g3]; exact h2 _ (List.mem_cons_of_mem _ (List.mem_map.mpr ⟨w, hw, rfl⟩))
theorem ones_view {α : Type} (xs : List α) : DL.toPys (xs.map fun _ => Dat.int 1) = some (xs.map fun _ => PyData.int 1) := DL.toPys_map (fun _ => rfl) xs
theorem eqv_nil {xs : List PyData} : PyData.eqv (.list xs) (.list []) = xs.isEmpty := by
  rw [PyData.eqv]
  cases xs <;> rw [PyData.eqvAll] <;> rfl
theorem ones_ne {α : Type} {xs : List α} {m : Mu} {F : KD} (hl : xs.length ≤ 1000) (h : F (.bl (!xs.isEmpty)) m) : DL.rNe (.lst (xs.map fun _ => Dat.int 1)) (.lst []) m F := by
  have n1 : DL.Nice (.list (xs.map fun _ => PyData.int 1)) 1 (xs.length * 42) := DL.Nice.lst (DL.NiceL.map fun _ _ => .int (by decide) (by decide))
  have sh : SeqAt.shaped (.list (xs.map fun _ => PyData.int 1)) = true := by
    unfold SeqAt.shaped
    rw [n1.lay]
    have := n1.dp
    simp
    omega
  refine DL.p_neD (p := .list (xs.map fun _ => PyData.int 1)) (q := .list []) rfl (.inl (by show (DL.toPys _).map PyData.list = _; rw [ones_view]; rfl)) (.inl rfl) sh (by decide +kernel) ?_
  rw [eqv_nil, List.isEmpty_map]
  exact h
def spReach : DL.Spec := fun ds m F _ => ds.length = 1 ∧ ∃ (p : Pt) (L : Nat), ds = [p.dat] ∧ POk L p ∧ p.words.length ≤ 1000 ∧ F (.tup [.int (p.lead : Nat), .int (p.per : Nat)]) m
theorem ok_l_reach (T : Txt K mg) : DF P wd K mg base CX0 30 T.f_l_reach ["_law_parts_here"] spReach :=
  dfxB T.a_l_reach sc_l_reach (fun ds m F Z h => h.1) fun cdv A outer s H E ds m G Z hr hgd hB h => ⟨_, (dss_cons (ds_asg (de_tup (da_cons (de_call (ok_l_leaves T 24) (hr.mono (by decide)) hgd (by rfl) T.a_l_leaves.gl (da_cons (dv 0) da_nil)) (da_cons de_int da_nil))) (dg_seq (n := 2) rfl (dgs_cons (dg_name (i := 1) sc_l_reach.nd rfl (Or.inl rfl)) (dgs_cons (dg_name (i := 2) sc_l_reach.nd rfl (Or.inr rfl)) dgs_nil))))
    (dss_cons (ds_while PassesOwn.never (dt_cmp (o_ne hr.units) (de_lc rfl sc_l_reach.nd (di_any (dv 1)) (blkOk_by (own := [("_law_word", 3)]) (N := n_l_reach) (sc := defScope s_l_reach) (by first | decide +kernel | kernel_rfl)) (fun _ _ _ _ _ => (dg_name (i := 3) sc_l_reach.nd rfl (Or.inl rfl))) (fun _ _ _ _ _ => (dts_one (dt_cmp (o_ne hr.units) (de_op o_mod (de_callTy c_int (by rfl) T.z_int (by decide +kernel) (da_cons (dv 2) da_nil)) (de_callB c_len (by rfl) T.z_len (by decide +kernel) (da_cons (de_ix (dv 3) de_int) da_nil))) de_int (by rfl)))) (fun _ _ _ _ _ => de_int)) (de_lst da_nil) (by rfl))
      (dss_one (ds_aug (i := 2) sc_l_reach.nd rfl (Or.inr rfl) de_int i_addA)))
    (dss_one (ds_ret (de_tup (da_cons (de_callB (c_maxI rfl) (by rfl) T.z_max (by decide +kernel) (da_cons (de_op o_add (de_lst (da_cons de_int da_nil)) (de_lc rfl sc_l_reach.nd (di_any (dv 1)) (blkOk_by (own := [("_law_word", 3)]) (N := n_l_reach) (sc := defScope s_l_reach) (by first | decide +kernel | kernel_rfl)) (fun _ _ _ _ _ => (dg_name (i := 3) sc_l_reach.nd rfl (Or.inl rfl))) (fun _ _ _ _ _ => dts_nil) (fun _ _ _ _ _ => (de_callB c_len (by rfl) T.z_len (by decide +kernel) (da_cons (de_ix (dv 3) de_int) da_nil))))) da_nil)) (da_cons (dv 2) da_nil))))))), by
    rcases h with ⟨hlen, h⟩
    obtain ⟨p, L, rfl, hp, hz, h⟩ := h
    have hall := Pt.words_ok hp.ok
    rw [st_l_reach]
    repeat' decreasing_trivial_pre_omega
    refine ⟨rfl, p, L, rfl, hp.ok, hp.dp, hz, ?_⟩
    repeat' decreasing_trivial_pre_omega
    obtain ⟨pp, pd⟩ := per_pos hp.ok
    have pl : p.per < 2 ^ 20 := Nat.lt_of_le_of_lt (Nat.le_of_dvd hp.l0 pd) hp.l1
    refine u_while (fun n r m' => ∃ (k : Nat) (o3 : Option Dat), r = [some p.dat, some (.lst (p.words.map wdD)), some (.int k), o3] ∧ m' = m ∧ 1 ≤ k ∧ n + k = p.per) (p.per - 1) ⟨1, none, rfl, rfl, Nat.le_refl _, by omega⟩ ?_
    rintro n r m' ⟨k, o3, rfl, rfl, hk, hn⟩
    repeat' decreasing_trivial_pre_omega
    refine ⟨by rw [sizeLine_eq]; show (p.words.map wdD).length < 16777216; rw [List.length_map]; omega, ?_⟩
    refine dcomp_filt (gd := DL.gTrue) wdD (fun _ => Dat.int 1) (fun w => decide ((k : Int) % ((w.2.2.length : Nat) : Int) ≠ 0)) trivial p.words [] (fun w hw k1 k0 h1 h0 => ?_) ?_
    · obtain ⟨g1, g2, g3⟩ := hall w hw
      have g4 := g2.na
      have g5 := g2.la
      unfold wdD
      repeat' decreasing_trivial_pre_omega
      refine p_neK rfl ?_
      refine ⟨_, rfl, ?_⟩
      by_cases e : (k : Int) % ((w.2.2.length : Nat) : Int) = 0
      · rw [if_neg (by rw [e]; decide)]
        exact h0 (by rw [e]; rfl)
      · rw [if_pos (by rw [Bool.not_eq_true', beq_eq_false_iff_ne]; exact e)]
        exact h1 (decide_eq_true e)
    · repeat' decreasing_trivial_pre_omega
      rw [List.nil_append]
      refine ones_ne (Nat.le_trans (List.length_filter_le _ _) hz) ?_
      refine ⟨_, rfl, ?_⟩
      have hmod : ∀ d : Nat, (k : Int) % (d : Int) = 0 ↔ d ∣ k := fun d => by
        rw [← Int.dvd_iff_emod_eq_zero, Int.natCast_dvd_natCast]
      cases hf : p.words.filter (fun w => decide ((k : Int) % ((w.2.2.length : Nat) : Int) ≠ 0)) with
      | cons w ws =>
        have hw : w ∈ p.words.filter (fun w => decide ((k : Int) % ((w.2.2.length : Nat) : Int) ≠ 0)) := by rw [hf]; simp
        obtain ⟨w1, w2⟩ := List.mem_filter.mp hw
        have w2 := of_decide_eq_true w2
        have hkp : k ≠ p.per := fun e => w2 ((hmod _).mpr (all_dvd.mp (by rw [e]; exact Nat.dvd_refl _) w w1))
        rw [if_pos (show (!(w :: ws).isEmpty) = true from rfl)]
        repeat' decreasing_trivial_pre_omega
        exact ⟨n - 1, by omega, k + 1, o3, rfl, rfl, by omega, by omega⟩
      | nil =>
        have hdv : p.per ∣ k := all_dvd.mpr fun w hw => by
          refine Classical.byContradiction fun hn => ?_
          have : w ∈ p.words.filter (fun w => decide ((k : Int) % ((w.2.2.length : Nat) : Int) ≠ 0)) := List.mem_filter.mpr ⟨hw, decide_eq_true fun e => hn ((hmod _).mp e)⟩
          rw [hf] at this
          cases this
        have hke : k = p.per := by have := Nat.le_of_dvd (by omega) hdv; omega
        rw [if_neg (show ¬ (!([] : List (Nat × Str × Str)).isEmpty) = true by decide)]
        repeat' decreasing_trivial_pre_omega
        refine ⟨by rw [sizeLine_eq]; show (p.words.map wdD).length < 16777216; rw [List.length_map]; omega, ?_⟩
        refine dcomp_map (gd := DL.gTrue) wdD (fun w => Dat.int ((w.2.1.length : Nat) : Int)) trivial p.words [] (fun w hw k1 hk1 => ?_) ?_
        · have g5 := (hall w hw).2.1.le
          unfold wdD
          repeat' decreasing_trivial_pre_omega
          exact hk1
        · refine p_addL (by rw [sizeLine_eq]; simp; omega) ?_
          repeat' decreasing_trivial_pre_omega
          have e2 : [Dat.int 0] ++ ([] ++ p.words.map fun w => Dat.int ((w.2.1.length : Nat) : Int)) = ((0 : Int) :: p.words.map fun w => ((w.2.1.length : Nat) : Int)).map Dat.int := by
            simp [List.map_map, Function.comp_def]
          rw [e2]
          refine ⟨_, _, rfl, rfl, by simp, fun v h1 h2 => ?_⟩
          repeat' decreasing_trivial_pre_omega
          rw [lead_is h1 h2, hke]
          exact h⟩


end
section
/-! ### the bag -/
def BagC (c : Cell) : Prop := ∃ (a b i : Int) (cs : List Int), c = .lst [.int a, .int b, .int i, .lst (cs.map .int)] ∧ 0 ≤ i ∧ cs.length ≤ 63
def spBag : DL.Spec := fun ds m F _ => ds.length = 1 ∧ ∃ ns : List Int, ds = [.scr ns] ∧ ns.length ≤ 63 ∧ ∀ n c, m n = none → BagC c → F (.ref n) (m.set n c)
def spTake : DL.Spec := fun ds m F _ => ds.length = 2 ∧ ∃ (n : Nat) (c : Cell) (many : Int), ds = [.ref n, .int many] ∧ m n = some c ∧ BagC c ∧ 0 < many ∧ many.natAbs.log2 < 9000 ∧ ∀ v c', 0 ≤ v → v < many → BagC c' → F (.int v) (m.set n c')
theorem dcomp_abs {r : Ro} {F : List Dat → Mu → Prop} {m : Mu} {g : WG} {te : DL.WE} (hg : ∀ (x : Int) (k : Dat → Mu → Prop), (∀ y : Int, k (.int y) m) → g (.int x) r m fun r2 m2 => te r2 m2 k) (h : ∀ ys : List Int, ys.length ≤ 63 → F (ys.map .int) m) :
    ∀ (xs acc : List Int), acc.length + xs.length ≤ 63 → dcomp gTrue g dYes te r F (xs.map .int) (acc.map .int) m
  | [], acc, z => ⟨trivial, h acc (by simpa using z)⟩
  | x :: xs, acc, z => ⟨trivial, hg x _ fun y => by
      have := dcomp_abs hg h xs (acc ++ [y]) (by simp at z ⊢; omega)
      simpa [dYes] using this⟩
theorem cut_ints (ns : List Int) (lo hi : Option Int) : DL.cutD (ns.map .int) lo hi = ((ns.drop (HT.sIx ns.length 0 lo)).take (HT.sIx ns.length ns.length hi - HT.sIx ns.length 0 lo)).map .int := by
  simp [DL.cutD, List.map_drop, List.map_take]
theorem ok_l_bag (T : Txt K mg) : DF P wd K mg base CX0 1 T.f_l_bag ["_law_script"] spBag :=
  dfxB T.a_l_bag sc_l_bag (fun ds m F Z h => h.1) fun cdv A outer s H E ds m G Z hr hgd hB h => ⟨_, (dss_one (ds_ret (de_lstM (da_cons de_int (da_cons de_int (da_cons de_int (da_cons (de_lc rfl sc_l_bag.nd (di_any (de_sl (dv 0) do_none (do_some de_int))) (blkOk_by (own := [("_law_cell", 1)]) (N := n_l_bag) (sc := defScope s_l_bag) (by first | decide +kernel | kernel_rfl)) (fun _ _ _ _ _ => (dg_name (i := 1) sc_l_bag.nd rfl (Or.inl rfl))) (fun _ _ _ _ _ => dts_nil) (fun _ _ _ _ _ => (de_callB c_abs (by rfl) T.z_abs (by decide +kernel) (da_cons (dv 1) da_nil)))) da_nil))))))), by
    rcases h with ⟨hlen, h⟩
    obtain ⟨ns, rfl, hl, h⟩ := h
    rw [st_l_bag]
    repeat' decreasing_trivial_pre_omega
    show DL.dSl _ _ _ _ _ _
    repeat' decreasing_trivial_pre_omega
    show _ < _ ∧ _
    rw [cut_ints]
    have hz : (((ns.drop (HT.sIx ns.length 0 none)).take (HT.sIx ns.length ns.length (some 63) - HT.sIx ns.length 0 none))).length ≤ 63 := by simp; omega
    refine ⟨by simp only [List.length_map]; rw [sizeLine_eq]; omega, ?_⟩
    refine dcomp_abs (fun x k hk => ?_) (fun ys hy => ?_) _ [] (by simpa using hz)
    · repeat' decreasing_trivial_pre_omega
      exact hk _
    · repeat' decreasing_trivial_pre_omega
      exact fun n hn => h n _ hn ⟨_, _, _, ys, rfl, by decide, hy⟩⟩
theorem end_mod {G : KD} {m : Mu} {n : Nat} {many : Int} (h : ∀ v c', 0 ≤ v → v < many → BagC c' → G (.int v) (m.set n c')) (h1 : 0 < many) {x : Int} {c'} (hc : BagC c') : G (.int (x % many)) (m.set n c') :=
  h _ _ (Int.emod_nonneg _ (by omega)) (Int.emod_lt_of_pos _ h1) hc
theorem end_mod0 {G : KD} {m : Mu} {n : Nat} {many : Int} (h : ∀ v c', 0 ≤ v → v < many → BagC c' → G (.int v) (m.set n c')) (h1 : 0 < many) {x : Int} {c'} (hm : m n = some c') (hc : BagC c') : G (.int (x % many)) m := by
  have := end_mod (x := x) h h1 hc
  rwa [DL.Mu.set_id hm] at this
theorem ok_l_take (T : Txt K mg) : DF P wd K mg base CX0 1 T.f_l_take ["_law_bag_here", "_law_many"] spTake :=
  dfxB T.a_l_take sc_l_take (fun ds m F Z h => h.1) fun cdv A outer s H E ds m G Z hr hgd hB h => ⟨_, (dss_cons (ds_if (dt_cmp (o_eq hr.units) (de_ix (dv 0) de_int) de_int (by rfl))
      (dss_cons (ds_set (i := 2) sc_l_take.nd rfl (Or.inl rfl) de_int)
    (dss_cons (ds_if (dt_cmp o_lt (de_ix (dv 0) de_int) (de_callB c_len (by rfl) T.z_len (by decide +kernel) (da_cons (de_ix (dv 0) de_int) da_nil)) (by rfl))
      (dss_one (ds_set (i := 2) sc_l_take.nd rfl (Or.inl rfl) (de_ix (de_ix (dv 0) de_int) (de_ix (dv 0) de_int))))
      dss_nil)
    (dss_cons (ds_augS (dv 0) de_int o_getL de_int i_addA o_set)
    (dss_cons (ds_if (dt_cmp o_ge (dv 2) de_int (by rfl))
      (dss_one (ds_asg (dv 2) (dg_sub (dv 0) de_int o_set)))
      dss_nil)
    (dss_cons (ds_set (i := 3) sc_l_take.nd rfl (Or.inl rfl) (de_op o_add (de_op o_add (de_op o_mul (de_ix (dv 0) de_int) de_int) (de_op o_mod (de_callTy c_int (by rfl) T.z_int (by decide +kernel) (da_cons (dv 2) da_nil)) de_int)) (de_op o_mul de_int (de_ix (dv 0) de_int))))
    (dss_one (ds_asg (de_op o_mod (de_callTy c_int (by rfl) T.z_int (by decide +kernel) (da_cons (dv 3) da_nil)) de_int) (dg_sub (dv 0) de_int o_set))))))))
      dss_nil)
    (dss_cons (ds_if (dt_cmp o_gt (de_ix (dv 0) de_int) de_int (by rfl))
      (dss_cons (ds_set (i := 4) sc_l_take.nd rfl (Or.inl rfl) (de_op o_mod (de_callTy c_int (by rfl) T.z_int (by decide +kernel) (da_cons (de_ix (dv 0) de_int) da_nil)) (dv 1)))
    (dss_cons (ds_asg (de_op o_fdiv (de_ix (dv 0) de_int) (dv 1)) (dg_sub (dv 0) de_int o_set))
    (dss_one (ds_ret (dv 4)))))
      dss_nil)
    (dss_cons (ds_set (i := 5) sc_l_take.nd rfl (Or.inl rfl) (de_op o_mod (de_callTy c_int (by rfl) T.z_int (by decide +kernel) (da_cons (de_op o_mul (de_op o_add (de_ix (dv 0) de_int) de_int) de_int) da_nil)) de_int))
    (dss_cons (ds_set (i := 6) sc_l_take.nd rfl (Or.inl rfl) (de_op o_mod (de_callTy c_int (by rfl) T.z_int (by decide +kernel) (da_cons (de_op o_mul (de_op o_mod (de_callTy c_int (by rfl) T.z_int (by decide +kernel) (da_cons (de_op o_mul (dv 5) (dv 5)) da_nil)) de_int) de_int) da_nil)) de_int))
    (dss_cons (ds_if (dt_cmp o_gt (dv 1) de_int (by rfl))
      (dss_one (ds_ret (de_op o_mod (de_callTy c_int (by rfl) T.z_int (by decide +kernel) (da_cons (de_op o_add (de_op o_mul (dv 6) de_int) (dv 5)) da_nil)) (dv 1))))
      dss_nil)
    (dss_one (ds_ret (de_op o_mod (de_callTy c_int (by rfl) T.z_int (by decide +kernel) (da_cons (de_op o_fdiv (dv 6) de_int) da_nil)) (dv 1))))))))), by
    rcases h with ⟨hlen, h⟩
    obtain ⟨n, c, many, rfl, hm, ⟨a, b, i, cs, rfl, hi, hc⟩, h1, h2, h⟩ := h
    rw [st_l_take]
    repeat' decreasing_trivial_pre_omega
    all_goals try exact end_mod h h1 ⟨_, _, _, cs, rfl, by omega, hc⟩
    all_goals try exact end_mod0 h h1 hm ⟨_, _, _, cs, rfl, by omega, hc⟩
    all_goals (
      have hj : i < ((List.map Dat.int cs).length : Int) := by assumption
      obtain ⟨d, hd1, _, hd⟩ := atI_some hi hj
      obtain ⟨cc, _, rfl⟩ := List.mem_map.mp hd1
      refine p_ixL hd ?_
      repeat' decreasing_trivial_pre_omega)
    all_goals exact end_mod h h1 ⟨_, _, _, cs, rfl, by omega, hc⟩⟩

/-! ### the things drawn -/
def BagAt (m : Mu) (n : Nat) : Prop := ∃ c, m n = some c ∧ BagC c
def Kp (n : Nat) (m m' : Mu) : Prop := ∀ k, k ≠ n → m k ≠ none → m' k = m k
theorem kp_set {n : Nat} {m : Mu} (c : Cell) : Kp n m (m.set n c) := fun k hk _ => DL.Mu.set_ne _ _ hk
theorem Kp.tr {n : Nat} {a b c : Mu} (h : Kp n a b) (k : Kp n b c) : Kp n a c := fun j hj hn => by
  have e := h j hj hn
  rw [k j hj (by rw [e]; exact hn), e]
theorem kp_new {n p : Nat} {m : Mu} (c : Cell) (hp : m p = none) : Kp n m (m.set p c) := fun k hk hn => DL.Mu.set_ne _ _ (by rintro rfl; exact hn hp)
theorem bagAt_set {n : Nat} {m : Mu} {c : Cell} (h : BagC c) : BagAt (m.set n c) n := ⟨c, DL.Mu.set_same .., h⟩
theorem c_take {n : Nat} {m : Mu} {c : Cell} {many : Int} {F : KD} {Z : KX} (hm : m n = some c) (hc : BagC c) (h1 : 0 < many) (h2 : many.natAbs.log2 < 9000) (h : ∀ v c', 0 ≤ v → v < many → BagC c' → F (.int v) (m.set n c')) : spTake [.ref n, .int many] m F Z :=
  ⟨rfl, n, c, many, rfl, hm, hc, h1, h2, h⟩
theorem c_take' {n : Nat} {m : Mu} {c : Cell} {many : Int} {F : KD} {Z : KX} (hc : BagC c) (h1 : 0 < many) (h2 : many.natAbs.log2 < 9000) (h : ∀ v c', 0 ≤ v → v < many → BagC c' → F (.int v) (m.set n c')) : spTake [.ref n, .int many] (m.set n c) F Z :=
  ⟨rfl, n, c, many, rfl, DL.Mu.set_same .., hc, h1, h2, fun v c' a b d => by rw [DL.Mu.set_set]; exact h v c' a b d⟩


end
section
local macro_rules | `(tactic| decreasing_trivial_pre_omega) => `(tactic| with_reducible first | (apply p_iaddR'; (· rw [sizeLine_eq]; exact Nat.le_of_ble_eq_true (by with_unfolding_all rfl))) | fail "no")
local macro_rules | `(tactic| decreasing_trivial_pre_omega) => `(tactic| with_reducible first | (apply u_keys; (· with_unfolding_all rfl)) | fail "no")
local macro_rules | `(tactic| decreasing_trivial_pre_omega) => `(tactic| with_reducible first | (apply u_key; (· with_unfolding_all rfl)) | fail "no")
local macro_rules | `(tactic| decreasing_trivial_pre_omega) => `(tactic| with_reducible first | (apply p_addS'; (· first | decide | omega); (· first | decide | omega | exact Nat.le_trans (len_mulN 1000 (by omega)) (by decide))) | fail "no")
local macro_rules | `(tactic| decreasing_trivial_pre_omega) => `(tactic| with_reducible first | (apply p_mulS'; (· decide); (· omega); (· omega)) | fail "no")
local macro_rules | `(tactic| decreasing_trivial_pre_omega) => `(tactic| with_reducible first | (apply c_take; (· first | assumption | (rw [DL.Mu.set_ne _ _ (by assumption)]; first | exact DL.Mu.set_same _ _ _ | assumption)); (· assumption); (· first | decide | exact len_pos (by with_unfolding_all rfl) | omega); (· first | decide | exact len_log (by with_unfolding_all rfl) (by with_unfolding_all rfl) | exact log_small (by omega) (by omega)); intro _ _ _ _ _) | fail "no")
local macro_rules | `(tactic| decreasing_trivial_pre_omega) => `(tactic| with_reducible first | (apply c_take'; (· assumption); (· first | decide | exact len_pos (by with_unfolding_all rfl) | omega); (· first | decide | exact len_log (by with_unfolding_all rfl) (by with_unfolding_all rfl) | exact log_small (by omega) (by omega)); intro _ _ _ _ _) | fail "no")

local macro_rules | `(tactic| decreasing_trivial_pre_omega) => `(tactic| with_reducible first | (apply p_methO; (· with_unfolding_all rfl)) | fail "no")
local macro_rules | `(tactic| decreasing_trivial_pre_omega) => `(tactic| with_reducible refine p_insO ?_)
local macro_rules | `(tactic| decreasing_trivial_pre_omega) => `(tactic| with_reducible refine p_srcS ?_)
local macro_rules | `(tactic| decreasing_trivial_pre_omega) => `(tactic| with_reducible refine p_srcL ?_)
local macro_rules | `(tactic| decreasing_trivial_pre_omega) => `(tactic| with_reducible refine p_srcT ?_)
local macro_rules | `(tactic| decreasing_trivial_pre_omega) => `(tactic| with_reducible refine u_any ?_)
local macro_rules | `(tactic| decreasing_trivial_pre_omega) => `(tactic| with_reducible refine p_min ?_)
local macro_rules | `(tactic| decreasing_trivial_pre_omega) => `(tactic| with_reducible refine p_max ?_)
local macro_rules | `(tactic| decreasing_trivial_pre_omega) => `(tactic| with_reducible refine p_own1 ?_)
local macro_rules | `(tactic| decreasing_trivial_pre_omega) => `(tactic| with_reducible refine p_own ?_)
local macro_rules | `(tactic| decreasing_trivial_pre_omega) => `(tactic| with_reducible first | (apply p_setF; (· assumption); (· with_unfolding_all exact Nat.le_of_ble_eq_true rfl)) | fail "no")
local macro_rules | `(tactic| decreasing_trivial_pre_omega) => `(tactic| with_reducible first | (apply p_setF'; (· with_unfolding_all exact Nat.le_of_ble_eq_true rfl)) | fail "no")
local macro_rules | `(tactic| decreasing_trivial_pre_omega) => `(tactic| with_reducible refine u_setF ?_)
local macro_rules | `(tactic| decreasing_trivial_pre_omega) => `(tactic| with_reducible refine u_make ?_)
local macro_rules | `(tactic| decreasing_trivial_pre_omega) => `(tactic| with_reducible refine u_meth ?_)
local macro_rules | `(tactic| decreasing_trivial_pre_omega) => `(tactic| with_reducible refine u_prop ?_)
local macro_rules | `(tactic| decreasing_trivial_pre_omega) => `(tactic| with_reducible first | (apply p_fldR; (· first | exact DL.Mu.set_same _ _ _ | assumption); (· with_unfolding_all rfl)) | fail "no")
local macro_rules | `(tactic| decreasing_trivial_pre_omega) => `(tactic| with_reducible first | (apply p_fldO; (· with_unfolding_all rfl)) | fail "no")
local macro_rules | `(tactic| decreasing_trivial_pre_omega) => `(tactic| with_reducible refine u_fld ?_)
local macro_rules | `(tactic| decreasing_trivial_pre_omega) => `(tactic| with_reducible refine u_callI ?_)
local macro_rules | `(tactic| decreasing_trivial_pre_omega) => `(tactic| with_reducible refine p_isiO ?_)
local macro_rules | `(tactic| decreasing_trivial_pre_omega) => `(tactic| with_reducible refine u_isiO ?_)
local macro_rules | `(tactic| decreasing_trivial_pre_omega) => `(tactic| with_reducible refine p_dgn ?_)
local macro_rules | `(tactic| decreasing_trivial_pre_omega) => `(tactic| with_reducible refine p_dgc ?_)
local macro_rules | `(tactic| decreasing_trivial_pre_omega) => `(tactic| with_reducible first | (apply p_dgL; (· with_unfolding_all rfl)) | fail "no")
local macro_rules | `(tactic| decreasing_trivial_pre_omega) => `(tactic| with_reducible first | (apply p_dgT; (· with_unfolding_all rfl)) | fail "no")
local macro_rules | `(tactic| decreasing_trivial_pre_omega) => `(tactic| with_reducible refine p_par ?_)
local macro_rules | `(tactic| decreasing_trivial_pre_omega) => `(tactic| with_reducible refine p_ends ?_)
local macro_rules | `(tactic| decreasing_trivial_pre_omega) => `(tactic| with_reducible refine u_for ?_)
local macro_rules | `(tactic| decreasing_trivial_pre_omega) => `(tactic| with_reducible first | (apply p_mulS'; (· omega); (· omega); (· omega)) | fail "no")
local macro_rules | `(tactic| decreasing_trivial_pre_omega) => `(tactic| with_reducible first | (apply p_fdiv; (· omega); (· exact log_small (by omega) (by omega))) | fail "no")

def spPick : DL.Spec := fun ds m F _ => ds.length = 2 ∧ ∃ (n : Nat) (c : Cell) (xs : List Dat), ds = [.ref n, .lst xs] ∧ m n = some c ∧ BagC c ∧ 1 ≤ xs.length ∧ xs.length ≤ 1000 ∧ ∀ d ∈ xs, ∀ c', BagC c' → F d (m.set n c')
theorem ok_l_pick (T : Txt K mg) : DF P wd K mg base CX0 2 T.f_l_pick ["_law_bag_here", "_law_things"] spPick :=
  dfxB T.a_l_pick sc_l_pick (fun ds m F Z h => h.1) fun cdv A outer s H E ds m G Z hr hgd hB h => ⟨_, (dss_one (ds_ret (de_ix (dv 1) (de_call (ok_l_take T) (hr.mono (by decide)) hgd (by rfl) T.a_l_take.gl (da_cons (dv 0) (da_cons (de_callB c_len (by rfl) T.z_len (by decide +kernel) (da_cons (dv 1) da_nil)) da_nil)))))), by
    rcases h with ⟨hlen, h⟩
    obtain ⟨n, c, xs, rfl, hm, hc, h1, h2, h⟩ := h
    rw [st_l_pick]
    repeat' decreasing_trivial_pre_omega
    rename_i v c' v0 v1 hc'
    obtain ⟨d, hd, _, hd2⟩ := atI_some v0 v1
    exact p_ixL hd2 (h d hd c' hc')⟩
theorem c_pick {n : Nat} {c : Cell} {xs : List Dat} {m : Mu} {F : KD} {Z : KX} (hm : m n = some c) (hc : BagC c) (h1 : Nat.ble 1 xs.length = true) (h2 : Nat.ble xs.length 1000 = true) (h : ∀ d ∈ xs, ∀ c', BagC c' → F d (m.set n c')) : spPick [.ref n, .lst xs] m F Z :=
  ⟨rfl, n, c, xs, rfl, hm, hc, Nat.le_of_ble_eq_true h1, Nat.le_of_ble_eq_true h2, h⟩
theorem c_pickL {n : Nat} {c : Cell} {xs : List Dat} {m : Mu} {F : KD} {Z : KX} (hm : m n = some c) (hc : BagC c) (h1 : 1 ≤ xs.length) (h2 : xs.length ≤ 1000) (h : ∀ d ∈ xs, ∀ c', BagC c' → F d (m.set n c')) : spPick [.ref n, .lst xs] m F Z :=
  ⟨rfl, n, c, xs, rfl, hm, hc, h1, h2, h⟩

local macro_rules | `(tactic| decreasing_trivial_pre_omega) => `(tactic| with_reducible first | (apply c_get; (· assumption)) | fail "no")
/-! ### words as the law draws them -/
theorem bits_comp {n : Nat} {m : Mu} {c : Cell} {r : Ro} {i : Nat} {te : DL.WE} {FL : List Dat → Mu → Prop} (hc : BagC c)
    (hte : ∀ (x : Dat) (c' : Cell) (k : Dat → Mu → Prop), BagC c' → (∀ (b : Nat) (c'' : Cell), oneB b = true → BagC c'' → k (.str ⟨#[b]⟩) (m.set n c'')) → te (r.set i (some x)) (m.set n c') k)
    (N : Nat) (h : ∀ (bs : List Nat) (c' : Cell), bs.all oneB = true → bs.length = N → BagC c' → FL ((bs.map fun b => (⟨#[b]⟩ : Str)).map .str) (m.set n c')) :
    dcomp gTrue (dgName i) dYes te r FL (DL.rangeD 0 N) [] (m.set n c) := by
  refine comp_ind (fun xs acc m' => ∃ (bs : List Nat) (c' : Cell), acc = (bs.map fun b => (⟨#[b]⟩ : Str)).map Dat.str ∧ bs.all oneB = true ∧ bs.length + xs.length = N ∧ BagC c' ∧ m' = m.set n c') ?_ ?_ _ [] _ ⟨[], c, rfl, rfl, by simp [DL.rangeD], hc, rfl⟩
  · rintro acc m' ⟨bs, c', rfl, hb, hl, hbc, rfl⟩
    exact ⟨trivial, h bs c' hb (by simpa using hl) hbc⟩
  · rintro x xs acc m' ⟨bs, c', rfl, hb, hl, hbc, rfl⟩ ih
    refine comp_c trivial ?_
    refine u_name ?_
    refine u_yes ?_
    rw [if_pos rfl]
    refine hte x c' _ hbc fun b c'' h1 h2 => ?_
    exact ih _ _ ⟨bs ++ [b], c'', by simp, by rw [List.all_append, hb]; simp [h1], by simp at hl ⊢; omega, h2, rfl⟩
theorem bit_of {v : Int} (h0 : 0 ≤ v) (h1 : v < 2) : ∃ b, atI (Str.ofString "01").cps.toList v = some b ∧ oneB b = true := by
  have : v = 0 ∨ v = 1 := by omega
  rcases this with rfl | rfl
  · exact ⟨48, by decide, rfl⟩
  · exact ⟨49, by decide, rfl⟩
theorem joined_bits (bs : List Nat) (h : bs.all oneB = true) : bits01 (Txt.join (Str.ofString "") (bs.map fun b => (⟨#[b]⟩ : Str))) = true ∧ (Txt.join (Str.ofString "") (bs.map fun b => (⟨#[b]⟩ : Str))).length = bs.length := by
  refine ⟨by rw [bits_all, DL.join_ones]; exact h, by rw [lenL, DL.join_ones]⟩
theorem sum_ones (bs : List Nat) : ((bs.map fun b => (⟨#[b]⟩ : Str)).map (·.length)).sum = bs.length := by
  induction bs with
  | nil => rfl
  | cons b bs ih => simp only [List.map_cons, List.sum_cons, List.length_cons, ih]; show 1 + _ = _; omega

def spLParts (n : Nat) : DL.Spec := fun ds m F _ => ds.length = 4 ∧ ∃ (b : Nat) (c : Cell) (deep lead : Int) (per : List Int) (L : Nat), ds = [.ref b, .int deep, .int lead, .lst (per.map .int)] ∧ m b = some c ∧ BagC c ∧ 0 ≤ deep ∧ deep.toNat + 1 ≤ n ∧ 0 ≤ lead ∧ lead ≤ 100 ∧
  1 ≤ per.length ∧ per.length ≤ 100 ∧ (∀ x ∈ per, 1 ≤ x ∧ x ≤ 100 ∧ x.toNat ∣ L) ∧ ∀ (p : Pt) (c' : Cell), p.Ok L → p.Sm lead.toNat 100 → p.dp ≤ deep.toNat + 1 → BagC c' → F p.dat (m.set b c')
theorem no_l_parts : ∀ ds m G Z, ¬ spLParts 0 ds m G Z := fun ds m G Z ⟨_, b, c, deep, lead, per, L, _, _, _, _, h, _⟩ => by omega
theorem ok_l_parts (T : Txt K mg) (n : Nat) : DF P wd K mg base CX0 (4 + n) T.f_l_parts ["_law_bag_here", "_law_deep", "_law_lead", "_law_periods"] (spLParts n) := by
  induction n with
  | zero => exact dffF T.a_l_parts no_l_parts
  | succ n ih => exact dfxB (k := 4 + n) T.a_l_parts sc_l_parts (fun ds m F Z h => h.1) fun cdv A outer s H E ds m G Z hr hgd hB h => ⟨_, (dss_cons (ds_set (i := 4) sc_l_parts.nd rfl (Or.inl rfl) (de_if (dt_cmp o_gt (dv 1) de_int (by rfl)) (de_call (ok_l_take T) (hr.mono (by omega)) hgd (by rfl) T.a_l_take.gl (da_cons (dv 0) (da_cons de_int da_nil))) de_int))
    (dss_cons (ds_if (dt_cmp (o_eq hr.units) (dv 4) de_int (by rfl))
      (dss_one (ds_ret (de_tup (da_cons de_str (da_cons (de_call ih (hr.mono (by omega)) hgd (by rfl) T.a_l_parts.gl (da_cons (dv 0) (da_cons (de_op o_sub (dv 1) de_int) (da_cons (dv 2) (da_cons (dv 3) da_nil))))) da_nil)))))
      dss_nil)
    (dss_cons (ds_if (dt_cmp o_lt (dv 4) de_int (by rfl))
      (dss_cons (ds_asg (de_lc rfl sc_l_parts.nd (di_rng1 (by rfl) T.z_range (da_cons de_int da_nil)) (blkOk_by (own := [("_law_k", 9)]) (N := n_l_parts) (sc := defScope s_l_parts) (by first | decide +kernel | kernel_rfl)) (fun _ _ _ _ _ => (dg_name (i := 9) sc_l_parts.nd rfl (Or.inl rfl))) (fun _ _ _ _ _ => dts_nil) (fun _ _ _ _ _ => (de_call ih (hr.mono (by omega)) hgd (by rfl) T.a_l_parts.gl (da_cons (dv 0) (da_cons (de_op o_sub (dv 1) de_int) (da_cons (dv 2) (da_cons (dv 3) da_nil))))))) (dg_seq (n := 2) rfl (dgs_cons (dg_name (i := 5) sc_l_parts.nd rfl (Or.inl rfl)) (dgs_cons (dg_name (i := 6) sc_l_parts.nd rfl (Or.inl rfl)) dgs_nil))))
    (dss_one (ds_ret (de_tup (da_cons (de_ix (de_lst (da_cons de_str (da_cons de_str (da_cons de_str da_nil)))) (de_op o_sub (dv 4) de_int)) (da_cons (dv 5) (da_cons (dv 6) da_nil)))))))
      dss_nil)
    (dss_cons (ds_if (dt_cmp (o_eq hr.units) (de_call (ok_l_take T) (hr.mono (by omega)) hgd (by rfl) T.a_l_take.gl (da_cons (dv 0) (da_cons de_int da_nil))) de_int (by rfl))
      (dss_one (ds_ret (de_tup (da_cons de_str (da_cons (de_cmp (o_eq hr.units) (de_call (ok_l_take T) (hr.mono (by omega)) hgd (by rfl) T.a_l_take.gl (da_cons (dv 0) (da_cons de_int da_nil))) de_int (by rfl)) da_nil)))))
      dss_nil)
    (dss_cons (ds_set (i := 7) sc_l_parts.nd rfl (Or.inl rfl) (de_mt PySem.F.plainAttrs_str PySem.F.slot_str_join PySem.F.type_str_join m_join de_str (da_cons (de_lc rfl sc_l_parts.nd (di_rng1 (by rfl) T.z_range (da_cons (de_call (ok_l_take T) (hr.mono (by omega)) hgd (by rfl) T.a_l_take.gl (da_cons (dv 0) (da_cons (de_op o_add (dv 2) de_int) da_nil))) da_nil)) (blkOk_by (own := [("_law_k", 9)]) (N := n_l_parts) (sc := defScope s_l_parts) (by first | decide +kernel | kernel_rfl)) (fun _ _ _ _ _ => (dg_name (i := 9) sc_l_parts.nd rfl (Or.inl rfl))) (fun _ _ _ _ _ => dts_nil) (fun _ _ _ _ _ => (de_ix de_str (de_call (ok_l_take T) (hr.mono (by omega)) hgd (by rfl) T.a_l_take.gl (da_cons (dv 0) (da_cons de_int da_nil)))))) da_nil)))
    (dss_cons (ds_set (i := 8) sc_l_parts.nd rfl (Or.inl rfl) (de_mt PySem.F.plainAttrs_str PySem.F.slot_str_join PySem.F.type_str_join m_join de_str (da_cons (de_lc rfl sc_l_parts.nd (di_rng1 (by rfl) T.z_range (da_cons (de_call (ok_l_pick T) (hr.mono (by omega)) hgd (by rfl) T.a_l_pick.gl (da_cons (dv 0) (da_cons (dv 3) da_nil))) da_nil)) (blkOk_by (own := [("_law_k", 9)]) (N := n_l_parts) (sc := defScope s_l_parts) (by first | decide +kernel | kernel_rfl)) (fun _ _ _ _ _ => (dg_name (i := 9) sc_l_parts.nd rfl (Or.inl rfl))) (fun _ _ _ _ _ => dts_nil) (fun _ _ _ _ _ => (de_ix de_str (de_call (ok_l_take T) (hr.mono (by omega)) hgd (by rfl) T.a_l_take.gl (da_cons (dv 0) (da_cons de_int da_nil)))))) da_nil)))
    (dss_one (ds_ret (de_tup (da_cons (de_call (ok_l_pick T) (hr.mono (by omega)) hgd (by rfl) T.a_l_pick.gl (da_cons (dv 0) (da_cons (de_lst (da_cons de_str (da_cons de_str (da_cons de_str (da_cons de_str (da_cons de_str da_nil)))))) da_nil))) (da_cons (dv 7) (da_cons (dv 8) da_nil)))))))))))), by
    rcases h with ⟨hlen, h⟩
    obtain ⟨b, c, deep, lead, per, L, rfl, hm, hc, d0, d1, l0, l1, p0, p1, hper, h⟩ := h
    rw [st_l_parts]
    repeat' decreasing_trivial_pre_omega
    · rename_i z v c1 v0 v1 hc1 q
      refine ⟨rfl, b, c1, deep - 1, lead, per, L, rfl, DL.Mu.set_same .., hc1, by omega, by omega, l0, l1, p0, p1, hper, fun p c2 hp hs hd hc2 => ?_⟩
      rw [DL.Mu.set_set]
      repeat' decreasing_trivial_pre_omega
      exact h (.neg p) c2 hp hs (by show p.dp + 1 ≤ _; omega) hc2
    · rename_i z v c1 v0 v1 hc1 q1 q2
      refine p_rng1 ?_
      repeat' decreasing_trivial_pre_omega
      refine ⟨2, rfl, by decide, by decide, by rw [sizeLine_eq]; exact (by decide : 2 < 16777216), ?_⟩
      refine comp_c trivial ?_
      repeat' decreasing_trivial_pre_omega
      refine ⟨rfl, b, c1, deep - 1, lead, per, L, rfl, DL.Mu.set_same .., hc1, by omega, by omega, l0, l1, p0, p1, hper, fun p c2 hp hs hd hc2 => ?_⟩
      rw [DL.Mu.set_set]
      refine comp_c trivial ?_
      repeat' decreasing_trivial_pre_omega
      refine ⟨rfl, b, c2, deep - 1, lead, per, L, rfl, DL.Mu.set_same .., hc2, by omega, by omega, l0, l1, p0, p1, hper, fun q c3 hq hs2 hd2 hc3 => ?_⟩
      rw [DL.Mu.set_set]
      refine ⟨trivial, ?_⟩
      repeat' decreasing_trivial_pre_omega
      show DL.dgCons (dgName 5) (DL.dgCons (dgName 6) DL.dgNil) [p.dat, q.dat] _ _ _
      have hv : v = 1 ∨ v = 2 ∨ v = 3 := by omega
      rcases hv with rfl | rfl | rfl
      · repeat' decreasing_trivial_pre_omega
        exact h (.jn 0 p q) c3 ⟨by decide, hp, hq⟩ (hs.ofJn hs2) (by show max p.dp q.dp + 1 ≤ _; omega) hc3
      · repeat' decreasing_trivial_pre_omega
        exact h (.jn 1 p q) c3 ⟨by decide, hp, hq⟩ (hs.ofJn hs2) (by show max p.dp q.dp + 1 ≤ _; omega) hc3
      · repeat' decreasing_trivial_pre_omega
        exact h (.jn 2 p q) c3 ⟨by decide, hp, hq⟩ (hs.ofJn hs2) (by show max p.dp q.dp + 1 ≤ _; omega) hc3
    · rename_i z v c1 v0 v1 hc1 q1 q2 u c2 u0 u1 hc2 q3 w c3 w0 w1 hc3
      exact h (.alw (w == 0)) c3 trivial .ofAlw (by show 1 ≤ _; omega) hc3
    · refine p_rng1 ?_
      repeat' decreasing_trivial_pre_omega
      rename_i v c1 v0 v1 hc1
      refine ⟨v, rfl, by omega, by omega, ?_, ?_⟩
      · show (DL.rangeD 0 v.toNat).length < sizeLine
        simp only [DL.rangeD, List.length_map, List.length_range]
        rw [sizeLine_eq]; omega
      show dcomp gTrue _ _ _ _ _ (DL.rangeD 0 v.toNat) [] _
      refine bits_comp hc1 (fun x c' k hb hk => ?_) _ fun bs c2 hb1 hl1 hc2 => ?_
      · repeat' decreasing_trivial_pre_omega
        rename_i w cw w0 w1 hcw
        obtain ⟨b, hb1, hb2⟩ := bit_of w0 w1
        exact p_ixS (by decide) hb1 (hk b cw hb2 hcw)
      obtain ⟨j1, j2⟩ := joined_bits bs hb1
      have z0 : (Str.ofString "").length = 0 := by decide
      repeat' decreasing_trivial_pre_omega
      refine p_join (by rw [sum_ones, z0]; omega) ?_
      repeat' decreasing_trivial_pre_omega
      refine p_rng1 ?_
      repeat' decreasing_trivial_pre_omega
      refine c_pickL (xs := per.map .int) (DL.Mu.set_same ..) hc2 (by rw [List.length_map]; exact p0) (by rw [List.length_map]; omega) fun d hd c3 hc3 => ?_
      obtain ⟨x, hx, rfl⟩ := List.mem_map.mp hd
      obtain ⟨x1, x2, x3⟩ := hper x hx
      rw [DL.Mu.set_set]
      repeat' decreasing_trivial_pre_omega
      refine ⟨x, rfl, by omega, by omega, ?_, ?_⟩
      · show (DL.rangeD 0 x.toNat).length < sizeLine
        simp only [DL.rangeD, List.length_map, List.length_range]
        rw [sizeLine_eq]; omega
      show dcomp gTrue _ _ _ _ _ (DL.rangeD 0 x.toNat) [] _
      refine bits_comp hc3 (fun x c' k hb hk => ?_) _ fun bs2 c4 hb3 hl3 hc4 => ?_
      · repeat' decreasing_trivial_pre_omega
        rename_i w cw w0 w1 hcw
        obtain ⟨b, hb1, hb2⟩ := bit_of w0 w1
        exact p_ixS (by decide) hb1 (hk b cw hb2 hcw)
      obtain ⟨j3, j4⟩ := joined_bits bs2 hb3
      repeat' decreasing_trivial_pre_omega
      refine p_join (by rw [sum_ones, z0]; omega) ?_
      repeat' decreasing_trivial_pre_omega
      refine c_pickL (DL.Mu.set_same ..) hc4 (by decide) (by decide) fun d hd c5 hc5 => ?_
      rw [DL.Mu.set_set]
      have hw : WOk (Txt.join (Str.ofString "") (bs.map fun b => (⟨#[b]⟩ : Str))) (Txt.join (Str.ofString "") (bs2.map fun b => (⟨#[b]⟩ : Str))) := ⟨j1, j3, by rw [j4, hl3]; omega, by rw [j2, hl1]; omega, by rw [j4, hl3]; omega⟩
      have hL : (Txt.join (Str.ofString "") (bs2.map fun b => (⟨#[b]⟩ : Str))).length ∣ L := by rw [j4, hl3]; exact x3
      obtain ⟨k, hk, rfl⟩ : ∃ k, k < 5 ∧ d = .str (rdS k) := by
        have hd : d ∈ [Dat.str (Str.ofString "turns"), .str (Str.ofString "others"), .str (Str.ofString "rounds"), .str (Str.ofString "suns"), .str (Str.ofString "moons")] := hd
        simp only [List.mem_cons, List.not_mem_nil, or_false] at hd
        rcases hd with rfl | rfl | rfl | rfl | rfl
        · exact ⟨0, by decide, rfl⟩
        · exact ⟨1, by decide, rfl⟩
        · exact ⟨2, by decide, rfl⟩
        · exact ⟨3, by decide, rfl⟩
        · exact ⟨4, by decide, rfl⟩
      repeat' decreasing_trivial_pre_omega
      exact h (.wd k _ _) c5 ⟨hk, hw, hL⟩ (.ofWd (by rw [j2, hl1]; omega) (by rw [j4, hl3]; omega)) (by show 1 ≤ _; omega) hc5
    · rename_i c3 w0 w1 hc3
      refine h (.alw _) _ trivial .ofAlw ?_ (by assumption)
      show 1 ≤ _
      omega
    · refine p_rng1 ?_
      repeat' decreasing_trivial_pre_omega
      rename_i v c1 v0 v1 hc1
      refine ⟨v, rfl, by omega, by omega, ?_, ?_⟩
      · show (DL.rangeD 0 v.toNat).length < sizeLine
        simp only [DL.rangeD, List.length_map, List.length_range]
        rw [sizeLine_eq]; omega
      show dcomp gTrue _ _ _ _ _ (DL.rangeD 0 v.toNat) [] _
      refine bits_comp hc1 (fun x c' k hb hk => ?_) _ fun bs c2 hb1 hl1 hc2 => ?_
      · repeat' decreasing_trivial_pre_omega
        rename_i w cw w0 w1 hcw
        obtain ⟨b, hb1, hb2⟩ := bit_of w0 w1
        exact p_ixS (by decide) hb1 (hk b cw hb2 hcw)
      obtain ⟨j1, j2⟩ := joined_bits bs hb1
      have z0 : (Str.ofString "").length = 0 := by decide
      repeat' decreasing_trivial_pre_omega
      refine p_join (by rw [sum_ones, z0]; omega) ?_
      repeat' decreasing_trivial_pre_omega
      refine p_rng1 ?_
      repeat' decreasing_trivial_pre_omega
      refine c_pickL (xs := per.map .int) (DL.Mu.set_same ..) hc2 (by rw [List.length_map]; exact p0) (by rw [List.length_map]; omega) fun d hd c3 hc3 => ?_
      obtain ⟨x, hx, rfl⟩ := List.mem_map.mp hd
      obtain ⟨x1, x2, x3⟩ := hper x hx
      rw [DL.Mu.set_set]
      repeat' decreasing_trivial_pre_omega
      refine ⟨x, rfl, by omega, by omega, ?_, ?_⟩
      · show (DL.rangeD 0 x.toNat).length < sizeLine
        simp only [DL.rangeD, List.length_map, List.length_range]
        rw [sizeLine_eq]; omega
      show dcomp gTrue _ _ _ _ _ (DL.rangeD 0 x.toNat) [] _
      refine bits_comp hc3 (fun x c' k hb hk => ?_) _ fun bs2 c4 hb3 hl3 hc4 => ?_
      · repeat' decreasing_trivial_pre_omega
        rename_i w cw w0 w1 hcw
        obtain ⟨b, hb1, hb2⟩ := bit_of w0 w1
        exact p_ixS (by decide) hb1 (hk b cw hb2 hcw)
      obtain ⟨j3, j4⟩ := joined_bits bs2 hb3
      repeat' decreasing_trivial_pre_omega
      refine p_join (by rw [sum_ones, z0]; omega) ?_
      repeat' decreasing_trivial_pre_omega
      refine c_pickL (DL.Mu.set_same ..) hc4 (by decide) (by decide) fun d hd c5 hc5 => ?_
      rw [DL.Mu.set_set]
      have hw : WOk (Txt.join (Str.ofString "") (bs.map fun b => (⟨#[b]⟩ : Str))) (Txt.join (Str.ofString "") (bs2.map fun b => (⟨#[b]⟩ : Str))) := ⟨j1, j3, by rw [j4, hl3]; omega, by rw [j2, hl1]; omega, by rw [j4, hl3]; omega⟩
      have hL : (Txt.join (Str.ofString "") (bs2.map fun b => (⟨#[b]⟩ : Str))).length ∣ L := by rw [j4, hl3]; exact x3
      obtain ⟨k, hk, rfl⟩ : ∃ k, k < 5 ∧ d = .str (rdS k) := by
        have hd : d ∈ [Dat.str (Str.ofString "turns"), .str (Str.ofString "others"), .str (Str.ofString "rounds"), .str (Str.ofString "suns"), .str (Str.ofString "moons")] := hd
        simp only [List.mem_cons, List.not_mem_nil, or_false] at hd
        rcases hd with rfl | rfl | rfl | rfl | rfl
        · exact ⟨0, by decide, rfl⟩
        · exact ⟨1, by decide, rfl⟩
        · exact ⟨2, by decide, rfl⟩
        · exact ⟨3, by decide, rfl⟩
        · exact ⟨4, by decide, rfl⟩
      repeat' decreasing_trivial_pre_omega
      exact h (.wd k _ _) c5 ⟨hk, hw, hL⟩ (.ofWd (by rw [j2, hl1]; omega) (by rw [j4, hl3]; omega)) (by show 1 ≤ _; omega) hc5⟩


end
section
local macro_rules | `(tactic| decreasing_trivial_pre_omega) => `(tactic| with_reducible first | (apply p_iaddR'; (· rw [sizeLine_eq]; exact Nat.le_of_ble_eq_true (by with_unfolding_all rfl))) | fail "no")
local macro_rules | `(tactic| decreasing_trivial_pre_omega) => `(tactic| with_reducible first | (apply u_keys; (· with_unfolding_all rfl)) | fail "no")
local macro_rules | `(tactic| decreasing_trivial_pre_omega) => `(tactic| with_reducible first | (apply u_key; (· with_unfolding_all rfl)) | fail "no")
local macro_rules | `(tactic| decreasing_trivial_pre_omega) => `(tactic| with_reducible first | (apply p_addS'; (· first | decide | omega); (· first | decide | omega | exact Nat.le_trans (len_mulN 1000 (by omega)) (by decide))) | fail "no")
local macro_rules | `(tactic| decreasing_trivial_pre_omega) => `(tactic| with_reducible first | (apply p_mulS'; (· decide); (· omega); (· omega)) | fail "no")
local macro_rules | `(tactic| decreasing_trivial_pre_omega) => `(tactic| with_reducible first | (apply c_take; (· first | assumption | (rw [DL.Mu.set_ne _ _ (by assumption)]; first | exact DL.Mu.set_same _ _ _ | assumption)); (· assumption); (· first | decide | exact len_pos (by with_unfolding_all rfl) | omega); (· first | decide | exact len_log (by with_unfolding_all rfl) (by with_unfolding_all rfl) | exact log_small (by omega) (by omega)); intro _ _ _ _ _) | fail "no")
local macro_rules | `(tactic| decreasing_trivial_pre_omega) => `(tactic| with_reducible first | (apply c_take'; (· assumption); (· first | decide | exact len_pos (by with_unfolding_all rfl) | omega); (· first | decide | exact len_log (by with_unfolding_all rfl) (by with_unfolding_all rfl) | exact log_small (by omega) (by omega)); intro _ _ _ _ _) | fail "no")

local macro_rules | `(tactic| decreasing_trivial_pre_omega) => `(tactic| with_reducible first | (apply p_methO; (· with_unfolding_all rfl)) | fail "no")
local macro_rules | `(tactic| decreasing_trivial_pre_omega) => `(tactic| with_reducible refine p_insO ?_)
local macro_rules | `(tactic| decreasing_trivial_pre_omega) => `(tactic| with_reducible refine p_srcS ?_)
local macro_rules | `(tactic| decreasing_trivial_pre_omega) => `(tactic| with_reducible refine p_srcL ?_)
local macro_rules | `(tactic| decreasing_trivial_pre_omega) => `(tactic| with_reducible refine p_srcT ?_)
local macro_rules | `(tactic| decreasing_trivial_pre_omega) => `(tactic| with_reducible refine u_any ?_)
local macro_rules | `(tactic| decreasing_trivial_pre_omega) => `(tactic| with_reducible refine p_min ?_)
local macro_rules | `(tactic| decreasing_trivial_pre_omega) => `(tactic| with_reducible refine p_max ?_)
local macro_rules | `(tactic| decreasing_trivial_pre_omega) => `(tactic| with_reducible refine p_own1 ?_)
local macro_rules | `(tactic| decreasing_trivial_pre_omega) => `(tactic| with_reducible refine p_own ?_)
local macro_rules | `(tactic| decreasing_trivial_pre_omega) => `(tactic| with_reducible first | (apply p_setF; (· assumption); (· with_unfolding_all exact Nat.le_of_ble_eq_true rfl)) | fail "no")
local macro_rules | `(tactic| decreasing_trivial_pre_omega) => `(tactic| with_reducible first | (apply p_setF'; (· with_unfolding_all exact Nat.le_of_ble_eq_true rfl)) | fail "no")
local macro_rules | `(tactic| decreasing_trivial_pre_omega) => `(tactic| with_reducible refine u_setF ?_)
local macro_rules | `(tactic| decreasing_trivial_pre_omega) => `(tactic| with_reducible refine u_make ?_)
local macro_rules | `(tactic| decreasing_trivial_pre_omega) => `(tactic| with_reducible refine u_meth ?_)
local macro_rules | `(tactic| decreasing_trivial_pre_omega) => `(tactic| with_reducible refine u_prop ?_)
local macro_rules | `(tactic| decreasing_trivial_pre_omega) => `(tactic| with_reducible first | (apply p_fldR; (· first | exact DL.Mu.set_same _ _ _ | assumption); (· with_unfolding_all rfl)) | fail "no")
local macro_rules | `(tactic| decreasing_trivial_pre_omega) => `(tactic| with_reducible first | (apply p_fldO; (· with_unfolding_all rfl)) | fail "no")
local macro_rules | `(tactic| decreasing_trivial_pre_omega) => `(tactic| with_reducible refine u_fld ?_)
local macro_rules | `(tactic| decreasing_trivial_pre_omega) => `(tactic| with_reducible refine u_callI ?_)
local macro_rules | `(tactic| decreasing_trivial_pre_omega) => `(tactic| with_reducible refine p_isiO ?_)
local macro_rules | `(tactic| decreasing_trivial_pre_omega) => `(tactic| with_reducible refine u_isiO ?_)
local macro_rules | `(tactic| decreasing_trivial_pre_omega) => `(tactic| with_reducible refine p_dgn ?_)
local macro_rules | `(tactic| decreasing_trivial_pre_omega) => `(tactic| with_reducible refine p_dgc ?_)
local macro_rules | `(tactic| decreasing_trivial_pre_omega) => `(tactic| with_reducible first | (apply p_dgL; (· with_unfolding_all rfl)) | fail "no")
local macro_rules | `(tactic| decreasing_trivial_pre_omega) => `(tactic| with_reducible first | (apply p_dgT; (· with_unfolding_all rfl)) | fail "no")
local macro_rules | `(tactic| decreasing_trivial_pre_omega) => `(tactic| with_reducible refine p_par ?_)
local macro_rules | `(tactic| decreasing_trivial_pre_omega) => `(tactic| with_reducible refine p_ends ?_)
local macro_rules | `(tactic| decreasing_trivial_pre_omega) => `(tactic| with_reducible refine u_for ?_)
local macro_rules | `(tactic| decreasing_trivial_pre_omega) => `(tactic| with_reducible first | (apply p_mulS'; (· omega); (· omega); (· omega)) | fail "no")
local macro_rules | `(tactic| decreasing_trivial_pre_omega) => `(tactic| with_reducible first | (apply p_fdiv; (· omega); (· exact log_small (by omega) (by omega))) | fail "no")

def inR? (o : Option Int) : Bool := match o with
  | some i => decide (0 ≤ i) && decide (i ≤ 10000000000000000000000000000000000000000)
  | none => false
theorem widesB : ∀ k < 41, ((Txt.mul "0" ((k : Nat) : Int)).length ≤ 100 ∧ inR? (intText? (Str.ofString "1" ++ Txt.mul "0" (k : Int))) = true ∧ (Str.ofString "1" ++ Txt.mul "0" (k : Int)).length ≤ 640) := by decide +kernel
theorem wideB_of {v : Int} (h0 : 0 ≤ v) (h1 : v < 41) : (Str.ofString "1" ++ Txt.mul "0" v).length ≤ 640 ∧ ∃ i, 0 ≤ i ∧ i ≤ 10000000000000000000000000000000000000000 ∧ intText? (Str.ofString "1" ++ Txt.mul "0" v) = some i := by
  obtain ⟨k, rfl⟩ := Int.eq_ofNat_of_zero_le h0
  obtain ⟨a, b, c⟩ := widesB k (by omega)
  refine ⟨c, ?_⟩
  unfold inR? at b
  split at b
  · rename_i i e
    rw [Bool.and_eq_true] at b
    exact ⟨i, of_decide_eq_true b.1, of_decide_eq_true b.2, e⟩
  · cases b
def spLLong : DL.Spec := fun ds m F _ => ds.length = 1 ∧ ∃ (n : Nat) (c : Cell), ds = [.ref n] ∧ m n = some c ∧ BagC c ∧ ∀ i c', 0 ≤ i → i ≤ 10000000000000000000000000000000000000100 → BagC c' → F (.int i) (m.set n c')
theorem ok_l_long (T : Txt K mg) : DF P wd K mg base CX0 2 T.f_l_long ["_law_bag_here"] spLLong :=
  dfxB T.a_l_long sc_l_long (fun ds m F Z h => h.1) fun cdv A outer s H E ds m G Z hr hgd hB h => ⟨_, (dss_cons (ds_if (dt_cmp (o_eq hr.units) (de_call (ok_l_take T) (hr.mono (by decide)) hgd (by rfl) T.a_l_take.gl (da_cons (dv 0) (da_cons de_int da_nil))) de_int (by rfl))
      (dss_one (ds_ret (de_call (ok_l_take T) (hr.mono (by decide)) hgd (by rfl) T.a_l_take.gl (da_cons (dv 0) (da_cons de_int da_nil)))))
      dss_nil)
    (dss_one (ds_ret (de_op o_add (de_callTy c_int (by rfl) T.z_int (by decide +kernel) (da_cons (de_op o_add de_str (de_op o_mul de_str (de_call (ok_l_take T) (hr.mono (by decide)) hgd (by rfl) T.a_l_take.gl (da_cons (dv 0) (da_cons de_int da_nil))))) da_nil)) (de_call (ok_l_take T) (hr.mono (by decide)) hgd (by rfl) T.a_l_take.gl (da_cons (dv 0) (da_cons de_int da_nil))))))), by
    rcases h with ⟨hlen, h⟩
    obtain ⟨n, c, rfl, hm, hc, h⟩ := h
    rw [st_l_long]
    repeat' decreasing_trivial_pre_omega
    · exact h _ _ (by assumption) (by omega) (by assumption)
    · rename_i v c1 v0 v1 hc1
      obtain ⟨w2, wi, w0, w1, hw⟩ := wideB_of v0 (by omega)
      refine p_intS hw w2 ?_
      repeat' decreasing_trivial_pre_omega
      exact h _ _ (by omega) (by omega) (by assumption)⟩

theorem ints_comp {n : Nat} {m : Mu} {c : Cell} {r : Ro} {i : Nat} {te : DL.WE} {FL : List Dat → Mu → Prop} (P : Int → Prop) (hc : BagC c)
    (hte : ∀ (x : Dat) (c' : Cell) (k : Dat → Mu → Prop), BagC c' → (∀ (i : Int) (c'' : Cell), P i → BagC c'' → k (.int i) (m.set n c'')) → te (r.set i (some x)) (m.set n c') k)
    (N : Nat) (h : ∀ (is : List Int) (c' : Cell), (∀ i ∈ is, P i) → is.length = N → BagC c' → FL (is.map .int) (m.set n c')) :
    dcomp gTrue (dgName i) dYes te r FL (DL.rangeD 0 N) [] (m.set n c) := by
  refine comp_ind (fun xs acc m' => ∃ (is : List Int) (c' : Cell), acc = is.map Dat.int ∧ (∀ i ∈ is, P i) ∧ is.length + xs.length = N ∧ BagC c' ∧ m' = m.set n c') ?_ ?_ _ [] _ ⟨[], c, rfl, (by intro _ z; cases z), by simp [DL.rangeD], hc, rfl⟩
  · rintro acc m' ⟨is, c', rfl, hb, hl, hbc, rfl⟩
    exact ⟨trivial, h is c' hb (by simpa using hl) hbc⟩
  · rintro x xs acc m' ⟨is, c', rfl, hb, hl, hbc, rfl⟩ ih
    refine comp_c trivial ?_
    refine u_name ?_
    refine u_yes ?_
    rw [if_pos rfl]
    refine hte x c' _ hbc fun b c'' h1 h2 => ?_
    refine ih _ _ ⟨is ++ [b], c'', by simp, fun z hz => ?_, by simp at hl ⊢; omega, h2, rfl⟩
    rcases List.mem_append.mp hz with q | q
    · exact hb z q
    · obtain rfl := List.mem_singleton.mp q
      exact h1
theorem ints_comp' {n : Nat} {m : Mu} {c : Cell} {r : Ro} {i : Nat} {te : DL.WE} {FL : List Dat → Mu → Prop} (P : Int → Prop) (hm : m n = some c) (hc : BagC c)
    (hte : ∀ (x : Dat) (c' : Cell) (k : Dat → Mu → Prop), BagC c' → (∀ (i : Int) (c'' : Cell), P i → BagC c'' → k (.int i) (m.set n c'')) → te (r.set i (some x)) (m.set n c') k)
    (N : Nat) (h : ∀ (is : List Int) (c' : Cell), (∀ i ∈ is, P i) → is.length = N → BagC c' → FL (is.map .int) (m.set n c')) :
    dcomp gTrue (dgName i) dYes te r FL (DL.rangeD 0 N) [] m := by
  have := ints_comp (m := m) P hc hte N h
  rwa [DL.Mu.set_id hm] at this
theorem len3 {is : List Int} (h : is.length = 3) : ∃ a b c, is = [a, b, c] := by
  match is, h with
  | [a, b, c], _ => exact ⟨a, b, c, rfl⟩
theorem len5 {is : List Int} (h : is.length = 5) : ∃ a b c d e, is = [a, b, c, d, e] := by
  match is, h with
  | [a, b, c, d, e], _ => exact ⟨a, b, c, d, e, rfl⟩


end
section
local macro_rules | `(tactic| decreasing_trivial_pre_omega) => `(tactic| with_reducible first | (apply p_iaddR'; (· rw [sizeLine_eq]; exact Nat.le_of_ble_eq_true (by with_unfolding_all rfl))) | fail "no")
local macro_rules | `(tactic| decreasing_trivial_pre_omega) => `(tactic| with_reducible first | (apply u_keys; (· with_unfolding_all rfl)) | fail "no")
local macro_rules | `(tactic| decreasing_trivial_pre_omega) => `(tactic| with_reducible first | (apply u_key; (· with_unfolding_all rfl)) | fail "no")
local macro_rules | `(tactic| decreasing_trivial_pre_omega) => `(tactic| with_reducible first | (apply p_addS'; (· first | decide | omega); (· first | decide | omega | exact Nat.le_trans (len_mulN 1000 (by omega)) (by decide))) | fail "no")
local macro_rules | `(tactic| decreasing_trivial_pre_omega) => `(tactic| with_reducible first | (apply p_mulS'; (· decide); (· omega); (· omega)) | fail "no")
local macro_rules | `(tactic| decreasing_trivial_pre_omega) => `(tactic| with_reducible first | (apply c_take; (· first | assumption | (rw [DL.Mu.set_ne _ _ (by assumption)]; first | exact DL.Mu.set_same _ _ _ | assumption)); (· assumption); (· first | decide | exact len_pos (by with_unfolding_all rfl) | omega); (· first | decide | exact len_log (by with_unfolding_all rfl) (by with_unfolding_all rfl) | exact log_small (by omega) (by omega)); intro _ _ _ _ _) | fail "no")
local macro_rules | `(tactic| decreasing_trivial_pre_omega) => `(tactic| with_reducible first | (apply c_take'; (· assumption); (· first | decide | exact len_pos (by with_unfolding_all rfl) | omega); (· first | decide | exact len_log (by with_unfolding_all rfl) (by with_unfolding_all rfl) | exact log_small (by omega) (by omega)); intro _ _ _ _ _) | fail "no")

local macro_rules | `(tactic| decreasing_trivial_pre_omega) => `(tactic| with_reducible first | (apply p_methO; (· with_unfolding_all rfl)) | fail "no")
local macro_rules | `(tactic| decreasing_trivial_pre_omega) => `(tactic| with_reducible refine p_insO ?_)
local macro_rules | `(tactic| decreasing_trivial_pre_omega) => `(tactic| with_reducible refine p_srcS ?_)
local macro_rules | `(tactic| decreasing_trivial_pre_omega) => `(tactic| with_reducible refine p_srcL ?_)
local macro_rules | `(tactic| decreasing_trivial_pre_omega) => `(tactic| with_reducible refine p_srcT ?_)
local macro_rules | `(tactic| decreasing_trivial_pre_omega) => `(tactic| with_reducible refine u_any ?_)
local macro_rules | `(tactic| decreasing_trivial_pre_omega) => `(tactic| with_reducible refine p_min ?_)
local macro_rules | `(tactic| decreasing_trivial_pre_omega) => `(tactic| with_reducible refine p_max ?_)
local macro_rules | `(tactic| decreasing_trivial_pre_omega) => `(tactic| with_reducible refine p_own1 ?_)
local macro_rules | `(tactic| decreasing_trivial_pre_omega) => `(tactic| with_reducible refine p_own ?_)
local macro_rules | `(tactic| decreasing_trivial_pre_omega) => `(tactic| with_reducible first | (apply p_setF; (· assumption); (· with_unfolding_all exact Nat.le_of_ble_eq_true rfl)) | fail "no")
local macro_rules | `(tactic| decreasing_trivial_pre_omega) => `(tactic| with_reducible first | (apply p_setF'; (· with_unfolding_all exact Nat.le_of_ble_eq_true rfl)) | fail "no")
local macro_rules | `(tactic| decreasing_trivial_pre_omega) => `(tactic| with_reducible refine u_setF ?_)
local macro_rules | `(tactic| decreasing_trivial_pre_omega) => `(tactic| with_reducible refine u_make ?_)
local macro_rules | `(tactic| decreasing_trivial_pre_omega) => `(tactic| with_reducible refine u_meth ?_)
local macro_rules | `(tactic| decreasing_trivial_pre_omega) => `(tactic| with_reducible refine u_prop ?_)
local macro_rules | `(tactic| decreasing_trivial_pre_omega) => `(tactic| with_reducible first | (apply p_fldR; (· first | exact DL.Mu.set_same _ _ _ | assumption); (· with_unfolding_all rfl)) | fail "no")
local macro_rules | `(tactic| decreasing_trivial_pre_omega) => `(tactic| with_reducible first | (apply p_fldO; (· with_unfolding_all rfl)) | fail "no")
local macro_rules | `(tactic| decreasing_trivial_pre_omega) => `(tactic| with_reducible refine u_fld ?_)
local macro_rules | `(tactic| decreasing_trivial_pre_omega) => `(tactic| with_reducible refine u_callI ?_)
local macro_rules | `(tactic| decreasing_trivial_pre_omega) => `(tactic| with_reducible refine p_isiO ?_)
local macro_rules | `(tactic| decreasing_trivial_pre_omega) => `(tactic| with_reducible refine u_isiO ?_)
local macro_rules | `(tactic| decreasing_trivial_pre_omega) => `(tactic| with_reducible refine p_dgn ?_)
local macro_rules | `(tactic| decreasing_trivial_pre_omega) => `(tactic| with_reducible refine p_dgc ?_)
local macro_rules | `(tactic| decreasing_trivial_pre_omega) => `(tactic| with_reducible first | (apply p_dgL; (· with_unfolding_all rfl)) | fail "no")
local macro_rules | `(tactic| decreasing_trivial_pre_omega) => `(tactic| with_reducible first | (apply p_dgT; (· with_unfolding_all rfl)) | fail "no")
local macro_rules | `(tactic| decreasing_trivial_pre_omega) => `(tactic| with_reducible refine p_par ?_)
local macro_rules | `(tactic| decreasing_trivial_pre_omega) => `(tactic| with_reducible refine p_ends ?_)
local macro_rules | `(tactic| decreasing_trivial_pre_omega) => `(tactic| with_reducible refine u_for ?_)
local macro_rules | `(tactic| decreasing_trivial_pre_omega) => `(tactic| with_reducible first | (apply p_mulS'; (· omega); (· omega); (· omega)) | fail "no")
local macro_rules | `(tactic| decreasing_trivial_pre_omega) => `(tactic| with_reducible first | (apply p_fdiv; (· omega); (· exact log_small (by omega) (by omega))) | fail "no")

def spDrawn : DL.Spec := fun ds m F _ => ds.length = 3 ∧ ∃ (b : Nat) (c : Cell) (lead : Int) (per : List Int) (L : Nat), ds = [.ref b, .int lead, .lst (per.map .int)] ∧ m b = some c ∧ BagC c ∧ 0 ≤ lead ∧ lead ≤ 20 ∧
  1 ≤ per.length ∧ per.length ≤ 100 ∧ (∀ x ∈ per, 1 ≤ x ∧ x ≤ 100 ∧ x.toNat ∣ L) ∧ ∀ (p : Pt) (c' : Cell), p.Ok L → p.Sm lead.toNat 100 → p.dp ≤ 6 → p.words.length ≤ 4 → p.wt ≤ 700 → p.sz ≤ 100 → BagC c' → F p.dat (m.set b c')
theorem Pt.sz_le : ∀ p : Pt, p.sz + 1 ≤ 2 ^ p.dp
  | .alw _ => Nat.le_refl 2
  | .wd .. => Nat.le_refl 2
  | .neg p => by
    have h := p.sz_le
    show 1 + p.sz + 1 ≤ 2 ^ (p.dp + 1)
    rw [Nat.pow_succ]
    have := Nat.one_le_two_pow (n := p.dp)
    omega
  | .jn _ p q => by
    have h1 := p.sz_le
    have h2 := q.sz_le
    show 1 + (p.sz + q.sz) + 1 ≤ 2 ^ (max p.dp q.dp + 1)
    rw [Nat.pow_succ]
    have g1 : 2 ^ p.dp ≤ 2 ^ max p.dp q.dp := Nat.pow_le_pow_right (by decide) (by omega)
    have g2 : 2 ^ q.dp ≤ 2 ^ max p.dp q.dp := Nat.pow_le_pow_right (by decide) (by omega)
    omega
theorem ok_l_drawn_parts (T : Txt K mg) : DF P wd K mg base CX0 34 T.f_l_drawn_parts ["_law_bag_here", "_law_lead", "_law_periods"] spDrawn :=
  dfxB T.a_l_drawn_parts sc_l_drawn_parts (fun ds m F Z h => h.1) fun cdv A outer s H E ds m G Z hr hgd hB h => ⟨_, (dss_cons (ds_set (i := 3) sc_l_drawn_parts.nd rfl (Or.inl rfl) (de_call (ok_l_parts T 24) (hr.mono (by decide)) hgd (by rfl) T.a_l_parts.gl (da_cons (dv 0) (da_cons de_int (da_cons (dv 1) (da_cons (dv 2) da_nil))))))
    (dss_cons (ds_for PassesOwn.never rfl (di_rng1 (by rfl) T.z_range (da_cons (de_op o_mul (de_op o_fdiv (de_call (ok_l_take T) (hr.mono (by decide)) hgd (by rfl) T.a_l_take.gl (da_cons (dv 0) (da_cons de_int da_nil))) de_int) (de_call (ok_l_take T) (hr.mono (by decide)) hgd (by rfl) T.a_l_take.gl (da_cons (dv 0) (da_cons de_int da_nil)))) da_nil)) (dg_name (i := 4) sc_l_drawn_parts.nd rfl (Or.inl rfl))
      (dss_one (ds_set (i := 3) sc_l_drawn_parts.nd rfl (Or.inl rfl) (de_tup (da_cons de_str (da_cons (dv 3) da_nil))))))
    (dss_one (ds_ret (dv 3))))), by
    rcases h with ⟨hlen, h⟩
    obtain ⟨b, c, lead, per, L, rfl, hm, hc, l0, l1, p0, p1, hper, h⟩ := h
    rw [st_l_drawn_parts]
    repeat' decreasing_trivial_pre_omega
    refine ⟨rfl, b, c, 2, lead, per, L, rfl, hm, hc, by decide, by decide, l0, by omega, p0, p1, hper, fun p c1 hp hs hd hc1 => ?_⟩
    repeat' decreasing_trivial_pre_omega
    refine p_rng1 ?_
    repeat' decreasing_trivial_pre_omega
    rename_i v c2 v0 v1 hc2 w c3 w0 w1 hc3
    have hN : v / 4 * w = 0 ∨ v / 4 * w = w := by
      have : v / 4 = 0 ∨ v / 4 = 1 := by omega
      rcases this with e | e <;> rw [e]
      · left; omega
      · right; omega
    refine ⟨_, rfl, by omega, by omega, ?_⟩
    have hd : p.dp ≤ 3 := hd
    have hw3 : p.words.length ≤ 4 := Nat.le_trans p.words_le (show 2 ^ (p.dp - 1) ≤ 2 ^ 2 from Nat.pow_le_pow_right (by decide) (by omega))
    have hwt : p.wt + 20 ≤ 160 * 2 ^ 2 := Nat.le_trans (Pt.wt_le fun w hw => ⟨Nat.le_trans (hs w hw).1 (by omega), (hs w hw).2⟩) (Nat.mul_le_mul_left _ (Nat.pow_le_pow_right (by decide) (by omega)))
    have hsz : p.sz + 1 ≤ 2 ^ 3 := Nat.le_trans p.sz_le (Nat.pow_le_pow_right (by decide) hd)
    have hlen3 : (DL.rangeD 0 (v / 4 * w).toNat).length ≤ 3 := by
      simp only [DL.rangeD, List.length_map, List.length_range]; omega
    generalize hX : DL.rangeD 0 (v / 4 * w).toNat = X at hlen3 ⊢
    refine loop_ind' (fun xs r m' => ∃ (q : Pt) (o4 : Option Dat), r = [some (.ref b), some (.int lead), some (.lst (per.map .int)), some q.dat, o4] ∧ q.Ok L ∧ q.Sm lead.toNat 100 ∧ q.dp + xs.length ≤ 6 ∧ q.words.length ≤ 4 ∧ q.wt + 10 * xs.length ≤ 650 ∧ q.sz + xs.length ≤ 50 ∧ m' = m.set b c3) ?_ ?_ _ _ _ ⟨p, none, rfl, hp, hs, (show p.dp + X.length ≤ 6 by omega), hw3, (show p.wt + 10 * X.length ≤ 650 by omega), (show p.sz + X.length ≤ 50 by omega), by simp only [DL.Mu.set_set]⟩
    · rintro r m' ⟨q, o4, rfl, q1, q2, q3, q4, q5, q6, rfl⟩
      refine ⟨trivial, ?_⟩
      repeat' decreasing_trivial_pre_omega
      exact h q c3 q1 q2 (by simpa using q3) q4 (by simp at q5; omega) (by simp at q6; omega) hc3
    · rintro x xs r m' ⟨q, o4, rfl, q1, q2, q3, q4, q5, q6, rfl⟩ ih
      refine loop_c' trivial ?_
      repeat' decreasing_trivial_pre_omega
      rw [List.length_cons] at q3 q5 q6
      exact ih _ _ ⟨.neg q, some x, rfl, q1, q2, by show q.dp + 1 + _ ≤ 6; omega, q4, by show q.wt + 10 + _ ≤ 650; omega, by show 1 + q.sz + _ ≤ 50; omega, rfl⟩⟩

def spSmall : DL.Spec := fun ds m F _ => ds.length = 1 ∧ ∃ (b : Nat) (c : Cell), ds = [.ref b] ∧ m b = some c ∧ BagC c ∧ ∀ (p : Pt) (c' : Cell) (L : Nat), 1 ≤ L → L ≤ 4 → p.Ok L → p.Sm 2 100 → p.dp ≤ 6 → p.words.length ≤ 4 → BagC c' → F p.dat (m.set b c')
theorem ok_l_small_parts (T : Txt K mg) : DF P wd K mg base CX0 35 T.f_l_small_parts ["_law_bag_here"] spSmall :=
  dfxB T.a_l_small_parts sc_l_small_parts (fun ds m F Z h => h.1) fun cdv A outer s H E ds m G Z hr hgd hB h => ⟨_, (dss_cons (ds_set (i := 1) sc_l_small_parts.nd rfl (Or.inl rfl) (de_ix (de_lst (da_cons (de_lst (da_cons de_int (da_cons de_int da_nil))) (da_cons (de_lst (da_cons de_int (da_cons de_int da_nil))) (da_cons (de_lst (da_cons de_int (da_cons de_int (da_cons de_int da_nil)))) (da_cons (de_lst (da_cons de_int da_nil)) da_nil))))) (de_call (ok_l_take T) (hr.mono (by decide)) hgd (by rfl) T.a_l_take.gl (da_cons (dv 0) (da_cons de_int da_nil)))))
    (dss_one (ds_ret (de_call (ok_l_drawn_parts T) (hr.mono (by decide)) hgd (by rfl) T.a_l_drawn_parts.gl (da_cons (dv 0) (da_cons (de_call (ok_l_take T) (hr.mono (by decide)) hgd (by rfl) T.a_l_take.gl (da_cons (dv 0) (da_cons de_int da_nil))) (da_cons (dv 1) da_nil))))))), by
    rcases h with ⟨hlen, h⟩
    obtain ⟨b, c, rfl, hm, hc, h⟩ := h
    rw [st_l_small_parts]
    repeat' decreasing_trivial_pre_omega
    rename_i v c1 v0 v1 hc1
    have fin : ∀ (u : Int) (c2 : Cell) (per : List Int) (L : Nat), 1 ≤ L → L ≤ 4 → 0 ≤ u → u < 3 → BagC c2 → 1 ≤ per.length → per.length ≤ 100 → (∀ x ∈ per, 1 ≤ x ∧ x ≤ 100 ∧ x.toNat ∣ L) → spDrawn [.ref b, .int u, .lst (per.map .int)] (m.set b c2) G X0 := fun u c2 per L l0 l1 u0 u1 hc2 p0 p1 hper =>
      ⟨rfl, b, c2, u, per, L, rfl, DL.Mu.set_same .., hc2, u0, by omega, p0, p1, hper, fun p c3 a1 a2 a3 a4 _ _ a7 => by
        rw [DL.Mu.set_set]
        exact h p c3 L l0 l1 a1 (fun w hw => ⟨Nat.le_trans (a2 w hw).1 (by omega), (a2 w hw).2⟩) a3 a4 a7⟩
    have hv : v = 0 ∨ v = 1 ∨ v = 2 ∨ v = 3 := by omega
    rcases hv with rfl | rfl | rfl | rfl
    all_goals
      repeat' decreasing_trivial_pre_omega
    · exact fin _ _ [1, 2] 2 (by decide) (by decide) (by assumption) (by assumption) (by assumption) (by decide) (by decide) (by decide)
    · exact fin _ _ [1, 3] 3 (by decide) (by decide) (by assumption) (by assumption) (by assumption) (by decide) (by decide) (by decide)
    · exact fin _ _ [1, 2, 4] 4 (by decide) (by decide) (by assumption) (by assumption) (by assumption) (by decide) (by decide) (by decide)
    · exact fin _ _ [2] 2 (by decide) (by decide) (by assumption) (by assumption) (by assumption) (by decide) (by decide) (by decide)⟩


end
section
local macro_rules | `(tactic| decreasing_trivial_pre_omega) => `(tactic| with_reducible first | (apply p_methO; (· with_unfolding_all rfl)) | fail "no")
local macro_rules | `(tactic| decreasing_trivial_pre_omega) => `(tactic| with_reducible refine p_insO ?_)
local macro_rules | `(tactic| decreasing_trivial_pre_omega) => `(tactic| with_reducible refine p_srcS ?_)
local macro_rules | `(tactic| decreasing_trivial_pre_omega) => `(tactic| with_reducible refine p_srcL ?_)
local macro_rules | `(tactic| decreasing_trivial_pre_omega) => `(tactic| with_reducible refine p_srcT ?_)
local macro_rules | `(tactic| decreasing_trivial_pre_omega) => `(tactic| with_reducible refine u_any ?_)
local macro_rules | `(tactic| decreasing_trivial_pre_omega) => `(tactic| with_reducible refine p_min ?_)
local macro_rules | `(tactic| decreasing_trivial_pre_omega) => `(tactic| with_reducible refine p_max ?_)
local macro_rules | `(tactic| decreasing_trivial_pre_omega) => `(tactic| with_reducible refine p_own1 ?_)
local macro_rules | `(tactic| decreasing_trivial_pre_omega) => `(tactic| with_reducible refine p_own ?_)
local macro_rules | `(tactic| decreasing_trivial_pre_omega) => `(tactic| with_reducible first | (apply p_setF; (· assumption); (· with_unfolding_all exact Nat.le_of_ble_eq_true rfl)) | fail "no")
local macro_rules | `(tactic| decreasing_trivial_pre_omega) => `(tactic| with_reducible first | (apply p_setF'; (· with_unfolding_all exact Nat.le_of_ble_eq_true rfl)) | fail "no")
local macro_rules | `(tactic| decreasing_trivial_pre_omega) => `(tactic| with_reducible refine u_setF ?_)
local macro_rules | `(tactic| decreasing_trivial_pre_omega) => `(tactic| with_reducible refine u_make ?_)
local macro_rules | `(tactic| decreasing_trivial_pre_omega) => `(tactic| with_reducible refine u_meth ?_)
local macro_rules | `(tactic| decreasing_trivial_pre_omega) => `(tactic| with_reducible refine u_prop ?_)
local macro_rules | `(tactic| decreasing_trivial_pre_omega) => `(tactic| with_reducible first | (apply p_fldR; (· first | exact DL.Mu.set_same _ _ _ | assumption); (· with_unfolding_all rfl)) | fail "no")
local macro_rules | `(tactic| decreasing_trivial_pre_omega) => `(tactic| with_reducible first | (apply p_fldO; (· with_unfolding_all rfl)) | fail "no")
local macro_rules | `(tactic| decreasing_trivial_pre_omega) => `(tactic| with_reducible refine u_fld ?_)
local macro_rules | `(tactic| decreasing_trivial_pre_omega) => `(tactic| with_reducible refine u_callI ?_)
local macro_rules | `(tactic| decreasing_trivial_pre_omega) => `(tactic| with_reducible refine p_isiO ?_)
local macro_rules | `(tactic| decreasing_trivial_pre_omega) => `(tactic| with_reducible refine u_isiO ?_)
local macro_rules | `(tactic| decreasing_trivial_pre_omega) => `(tactic| with_reducible refine p_dgn ?_)
local macro_rules | `(tactic| decreasing_trivial_pre_omega) => `(tactic| with_reducible refine p_dgc ?_)
local macro_rules | `(tactic| decreasing_trivial_pre_omega) => `(tactic| with_reducible first | (apply p_dgL; (· with_unfolding_all rfl)) | fail "no")
local macro_rules | `(tactic| decreasing_trivial_pre_omega) => `(tactic| with_reducible first | (apply p_dgT; (· with_unfolding_all rfl)) | fail "no")
local macro_rules | `(tactic| decreasing_trivial_pre_omega) => `(tactic| with_reducible refine p_par ?_)
local macro_rules | `(tactic| decreasing_trivial_pre_omega) => `(tactic| with_reducible refine p_ends ?_)
local macro_rules | `(tactic| decreasing_trivial_pre_omega) => `(tactic| with_reducible refine u_for ?_)
local macro_rules | `(tactic| decreasing_trivial_pre_omega) => `(tactic| with_reducible first | (apply p_mulS'; (· omega); (· omega); (· omega)) | fail "no")
local macro_rules | `(tactic| decreasing_trivial_pre_omega) => `(tactic| with_reducible first | (apply p_fdiv; (· omega); (· exact log_small (by omega) (by omega))) | fail "no")

local macro_rules | `(tactic| decreasing_trivial_pre_omega) => `(tactic| with_reducible first | (apply p_dkeys; (· with_unfolding_all rfl); (· decide); (· with_unfolding_all rfl)) | fail "no")
local macro_rules | `(tactic| decreasing_trivial_pre_omega) => `(tactic| with_reducible refine u_dget ?_)
local macro_rules | `(tactic| decreasing_trivial_pre_omega) => `(tactic| with_reducible refine u_pnil ?_)
local macro_rules | `(tactic| decreasing_trivial_pre_omega) => `(tactic| with_reducible refine u_pcons ?_)
local macro_rules | `(tactic| decreasing_trivial_pre_omega) => `(tactic| with_reducible refine u_dict ?_)
local macro_rules | `(tactic| decreasing_trivial_pre_omega) => `(tactic| with_reducible refine u_lc2 ?_)
local macro_rules | `(tactic| decreasing_trivial_pre_omega) => `(tactic| with_reducible first | (apply c_get; (· assumption)) | fail "no")
local macro_rules | `(tactic| decreasing_trivial_pre_omega) => `(tactic| with_reducible first | (apply c_bits; (· assumption)) | fail "no")
local macro_rules | `(tactic| decreasing_trivial_pre_omega) => `(tactic| with_reducible first | (apply p_ninT; (· with_unfolding_all rfl); (· with_unfolding_all rfl)) | fail "no")

def spLBit : DL.Spec := fun ds m F _ => ds.length = 2 ∧ ∃ e a x, ds = [.tup [.str e, .str a], .int x] ∧ WOk e a ∧ 0 ≤ x ∧ F (.bl (bitS e a x)) m
theorem ok_l_bit (T : Txt K mg) : DF P wd K mg base CX0 1 T.f_l_bit ["_law_word", "_law_x"] spLBit :=
  dfxB T.a_l_bit sc_l_bit (fun ds m F Z h => h.1) fun cdv A outer s H E ds m G Z hr hgd hB h => ⟨_, (dss_cons (ds_asg (dv 0) (dg_seq (n := 2) rfl (dgs_cons (dg_name (i := 2) sc_l_bit.nd rfl (Or.inl rfl)) (dgs_cons (dg_name (i := 3) sc_l_bit.nd rfl (Or.inl rfl)) dgs_nil))))
    (dss_cons (ds_if (dt_cmp o_lt (dv 1) (de_callB c_len (by rfl) T.z_len (by decide +kernel) (da_cons (dv 2) da_nil)) (by rfl))
      (dss_one (ds_ret (de_cmp (o_eq hr.units) (de_ix (dv 2) (dv 1)) de_str (by rfl))))
      dss_nil)
    (dss_one (ds_ret (de_cmp (o_eq hr.units) (de_ix (dv 3) (de_op o_mod (de_callTy c_int (by rfl) T.z_int (by decide +kernel) (da_cons (de_op o_sub (dv 1) (de_callB c_len (by rfl) T.z_len (by decide +kernel) (da_cons (dv 2) da_nil))) da_nil)) (de_callB c_len (by rfl) T.z_len (by decide +kernel) (da_cons (dv 3) da_nil)))) de_str (by rfl)))))), by
    rcases h with ⟨hlen, h⟩
    obtain ⟨e, a, x, rfl, hw, hx, h⟩ := h
    have l1 : e.length ≤ 1000 := Nat.le_trans hw.le (by decide)
    have l2 : a.length ≤ 1000 := Nat.le_trans hw.la (by decide)
    have l3 := hw.na
    rw [st_l_bit]
    repeat' decreasing_trivial_pre_omega
    · rename_i hlt
      obtain ⟨c, _, _, he⟩ := atI_some (xs := e.cps.toList) hx (by rw [← lenL]; exact hlt)
      refine p_ixS (by rw [sizeLine_eq]; omega) he ?_
      repeat' decreasing_trivial_pre_omega
      have : bitS e a x = ((⟨#[c]⟩ : Str) == Str.ofString "1") := by unfold bitS; rw [if_pos hlt, if_pos hlt, he]
      rw [← this]; exact h
    · rename_i hlt
      obtain ⟨c, _, _, he⟩ := atI_some (xs := a.cps.toList) (i := (x - e.length) % a.length) (Int.emod_nonneg _ (by omega)) (by rw [← lenL]; exact Int.emod_lt_of_pos _ (by omega))
      refine p_ixS (by rw [sizeLine_eq]; omega) he ?_
      repeat' decreasing_trivial_pre_omega
      have : bitS e a x = ((⟨#[c]⟩ : Str) == Str.ofString "1") := by unfold bitS; rw [if_neg hlt, if_neg hlt, he]
      rw [← this]; exact h⟩
def spLTruth (n : Nat) : DL.Spec := fun ds m F _ => ds.length = 6 ∧ ∃ (p : Pt) (L : Nat) (r i j k l : Int), ds = [p.dat, .int r, .int i, .int j, .int k, .int l] ∧ p.Ok L ∧ p.dp ≤ n ∧ NumOk r i j k l ∧ F (.bl (p.tell (numN r i j k l))) m
theorem no_l_truth : ∀ ds m G Z, ¬ spLTruth 0 ds m G Z := fun ds m G Z ⟨_, p, L, _, _, _, _, _, _, _, h, _⟩ => by have := p.dp_pos; omega
theorem join_count (w : Nat) (a b : Bool) (hw : w < 3) : joinB w a b = match w with
    | 0 => (([a, b].count true : Nat) : Int) == 2
    | 1 => decide (0 < (([a, b].count true : Nat) : Int))
    | _ => (([a, b].count true : Nat) : Int) == 1 := by
  rcases w3 hw with rfl | rfl | rfl <;> cases a <;> cases b <;> rfl
theorem ok_l_truth (T : Txt K mg) (n : Nat) : DF P wd K mg base CX0 (2 + n) T.f_l_truth ["_law_parts_here", "_law_r", "_law_i", "_law_j", "_law_n", "_law_m"] (spLTruth n) := by
  induction n with
  | zero => exact dffF T.a_l_truth no_l_truth
  | succ n ih => exact dfxB (k := 2 + n) T.a_l_truth sc_l_truth (fun ds m F Z h => h.1) fun cdv A outer s H E ds m G Z hr hgd hB h => ⟨_, (dss_cons (ds_if (dt_cmp (o_eq hr.units) (de_ix (dv 0) de_int) de_str (by rfl))
      (dss_one (ds_ret (de_ix (dv 0) de_int)))
      dss_nil)
    (dss_cons (ds_if (dt_cmp (o_eq hr.units) (de_ix (dv 0) de_int) de_str (by rfl))
      (dss_one (ds_ret (de_not (de_call ih (hr.mono (by omega)) hgd (by rfl) T.a_l_truth.gl (da_cons (de_ix (dv 0) de_int) (da_cons (dv 1) (da_cons (dv 2) (da_cons (dv 3) (da_cons (dv 4) (da_cons (dv 5) da_nil))))))))))
      dss_nil)
    (dss_cons (ds_if (dt_cmp o_inF (de_ix (dv 0) de_int) (de_tup (da_cons de_str (da_cons de_str (da_cons de_str da_nil)))) (by rfl))
      (dss_cons (ds_set (i := 6) sc_l_truth.nd rfl (Or.inl rfl) (de_mt PySem.F.plainAttrs_list PySem.F.slot_list_count PySem.F.type_list_count m_countB (de_lc rfl sc_l_truth.nd (di_any (de_sl (dv 0) (do_some de_int) do_none)) (blkOk_by (own := [("_law_part", 8)]) (N := n_l_truth) (sc := defScope s_l_truth) (by first | decide +kernel | kernel_rfl)) (fun _ _ _ _ _ => (dg_name (i := 8) sc_l_truth.nd rfl (Or.inl rfl))) (fun _ _ _ _ _ => dts_nil) (fun _ _ _ _ _ => (de_call ih (hr.mono (by omega)) hgd (by rfl) T.a_l_truth.gl (da_cons (dv 8) (da_cons (dv 1) (da_cons (dv 2) (da_cons (dv 3) (da_cons (dv 4) (da_cons (dv 5) da_nil))))))))) (da_cons de_bl da_nil)))
    (dss_one (ds_ret (de_if (dt_cmp (o_eq hr.units) (de_ix (dv 0) de_int) de_str (by rfl)) (de_cmp (o_eq hr.units) (dv 6) de_int (by rfl)) (de_if (dt_cmp (o_eq hr.units) (de_ix (dv 0) de_int) de_str (by rfl)) (de_cmp o_gt (dv 6) de_int (by rfl)) (de_cmp (o_eq hr.units) (dv 6) de_int (by rfl)))))))
      dss_nil)
    (dss_cons (ds_set (i := 7) sc_l_truth.nd rfl (Or.inl rfl) (de_dict (dps_cons de_str (de_op o_add (de_op o_mul (dv 1) (dv 5)) (dv 3)) (dps_cons de_str (de_op o_add (de_op o_mul (dv 1) (dv 4)) (dv 2)) (dps_cons de_str (dv 1) (dps_cons de_str (dv 2) (dps_cons de_str (dv 3) dps_nil)))))))
    (dss_one (ds_ret (de_call (ok_l_bit T) (hr.mono (by omega)) hgd (by rfl) T.a_l_bit.gl (da_cons (de_sl (dv 0) (do_some de_int) do_none) (da_cons (de_dget hr.units (dv 7) (de_ix (dv 0) de_int)) da_nil))))))))), by
    rcases h with ⟨hlen, h⟩
    obtain ⟨p, L, r, i, j, k, l, rfl, hp, hd, hn, h⟩ := h
    cases p with
    | alw b =>
      unfold Pt.dat
      rw [st_l_truth]
      repeat' decreasing_trivial_pre_omega
      exact h
    | wd x e a =>
      obtain ⟨hx, hw, hl⟩ := hp
      have na : rdS x ≠ Str.ofString "always" := by rcases k5 hx with rfl | rfl | rfl | rfl | rfl <;> decide +kernel
      have nn : rdS x ≠ Str.ofString "not" := by rcases k5 hx with rfl | rfl | rfl | rfl | rfl <;> decide +kernel
      have nj : ([Dat.str (Str.ofString "and"), Dat.str (Str.ofString "or"), Dat.str (Str.ofString "unlike")].any fun e => DL.eqF e (.str (rdS x))) = false := by rcases k5 hx with rfl | rfl | rfl | rfl | rfl <;> decide +kernel
      unfold Pt.dat
      rw [st_l_truth]
      repeat' decreasing_trivial_pre_omega
      all_goals first | exact absurd (by assumption) na | exact absurd (by assumption) nn | rw [nj]
      repeat' decreasing_trivial_pre_omega
      refine p_mulI (hn.r.mul hn.m) ?_
      repeat' decreasing_trivial_pre_omega
      refine p_mulI (hn.r.mul hn.n) ?_
      repeat' decreasing_trivial_pre_omega
      obtain ⟨ky, ds, q1, q2, ⟨ks, q3⟩, q4⟩ := nums_look (r := r) (i := i) (j := j) (n := k) (m := l) hx
      refine p_dget q1 q2 q3 q4 ?_
      repeat' decreasing_trivial_pre_omega
      exact ⟨rfl, e, a, _, rfl, hw, hn.at_ x, h⟩
    | neg p =>
      have hd : p.dp + 1 ≤ n + 1 := hd
      unfold Pt.dat
      rw [st_l_truth]
      repeat' decreasing_trivial_pre_omega
      refine ⟨rfl, p, L, r, i, j, k, l, rfl, hp, by omega, hn, ?_⟩
      repeat' decreasing_trivial_pre_omega
      exact h
    | jn w p q =>
      obtain ⟨hw, hp, hq⟩ := hp
      have hd : max p.dp q.dp + 1 ≤ n + 1 := hd
      have na : wayS w ≠ Str.ofString "always" := by rcases w3 hw with rfl | rfl | rfl <;> decide +kernel
      have nn : wayS w ≠ Str.ofString "not" := by rcases w3 hw with rfl | rfl | rfl <;> decide +kernel
      have nj : ([Dat.str (Str.ofString "and"), Dat.str (Str.ofString "or"), Dat.str (Str.ofString "unlike")].any fun e => DL.eqF e (.str (wayS w))) = true := by rcases w3 hw with rfl | rfl | rfl <;> decide +kernel
      unfold Pt.dat
      rw [st_l_truth]
      repeat' decreasing_trivial_pre_omega
      all_goals first | exact absurd (by assumption) na | exact absurd (by assumption) nn | rw [nj]
      repeat' decreasing_trivial_pre_omega
      refine ⟨by rw [sizeLine_eq]; exact (by decide : 2 < 16777216), ?_⟩
      refine comp_c trivial ?_
      repeat' decreasing_trivial_pre_omega
      refine ⟨rfl, p, L, r, i, j, k, l, rfl, hp, by omega, hn, ?_⟩
      refine comp_c trivial ?_
      repeat' decreasing_trivial_pre_omega
      refine ⟨rfl, q, L, r, i, j, k, l, rfl, hq, by omega, hn, ?_⟩
      refine ⟨trivial, ?_⟩
      refine ⟨⟨_, rfl⟩, ?_⟩
      repeat' decreasing_trivial_pre_omega
      refine p_countB (bs := [p.tell (numN r i j k l), q.tell (numN r i j k l)]) rfl ?_
      have h : G (.bl (joinB w (p.tell (numN r i j k l)) (q.tell (numN r i j k l)))) m := h
      rw [join_count _ _ _ hw] at h
      rcases w3 hw with rfl | rfl | rfl
      all_goals unfold wayS
      all_goals repeat' decreasing_trivial_pre_omega
      all_goals exact h⟩

def spLClass : DL.Spec := fun ds m F _ => ds.length = 2 ∧ ∃ (l p : Nat) (x : Int), ds = [.tup [.int l, .int p], .int x] ∧ 0 < p ∧ F (.int (placeI l p x)) m
theorem ok_l_class (T : Txt K mg) : DF P wd K mg base CX0 1 T.f_l_class ["_law_reach_here", "_law_x"] spLClass :=
  dfxB T.a_l_class sc_l_class (fun ds m F Z h => h.1) fun cdv A outer s H E ds m G Z hr hgd hB h => ⟨_, (dss_cons (ds_if (dt_cmp o_lt (dv 1) (de_ix (dv 0) de_int) (by rfl))
      (dss_one (ds_ret (dv 1)))
      dss_nil)
    (dss_one (ds_ret (de_op o_add (de_ix (dv 0) de_int) (de_op o_mod (de_callTy c_int (by rfl) T.z_int (by decide +kernel) (da_cons (de_op o_sub (dv 1) (de_ix (dv 0) de_int)) da_nil)) (de_ix (dv 0) de_int)))))), by
    rcases h with ⟨hlen, h⟩
    obtain ⟨l, p, x, rfl, hp, h⟩ := h
    rw [st_l_class]
    have hp2 : (0 : Int) < (p : Int) := by omega
    repeat' decreasing_trivial_pre_omega
    · rename_i hx
      unfold placeI at h
      rw [if_pos hx] at h
      exact h
    · rename_i hx
      unfold placeI at h
      rw [if_neg hx] at h
      exact h⟩


end
section
/-! ### the mathematics of the table -/
/-! ### one class -/
def SameC (l P : Nat) (x y : Int) : Prop := x = y ∨ ((l : Int) ≤ x ∧ (l : Int) ≤ y ∧ (P : Int) ∣ y - x)
theorem tell_class {f g : Nat → Int} {l P : Nat} (h : ∀ k, SameC l P (f k) (g k)) : ∀ {p : Pt}, (∀ w ∈ p.words, WOk w.2.1 w.2.2 ∧ w.2.1.length ≤ l ∧ w.2.2.length ∣ P) → p.tell g = p.tell f
  | .alw _, _ => rfl
  | .wd k e a, hw => by
    obtain ⟨h1, h2, h3⟩ := hw (k, e, a) (List.mem_singleton.mpr rfl)
    have h2 : e.length ≤ l := h2
    show bitS e a (g k) = bitS e a (f k)
    rcases h k with q | ⟨q1, q2, q3⟩
    · rw [q]
    · refine bit_same h1 (by omega) (by omega) ?_
      exact Int.emod_eq_zero_of_dvd (Int.dvd_trans (Int.natCast_dvd_natCast.mpr h3) q3)
  | .neg p, hw => by show (!p.tell g) = !p.tell f; rw [tell_class h (p := p) hw]
  | .jn w p q, hw => by
    show joinB w (p.tell g) (q.tell g) = joinB w (p.tell f) (q.tell f)
    rw [tell_class h (p := p) fun x hx => hw x (List.mem_append_left _ hx), tell_class h (p := q) fun x hx => hw x (List.mem_append_right _ hx)]
theorem place_same {l P : Nat} {x : Int} (hP : 0 < P) : SameC l P x (placeI l P x) := by
  unfold placeI
  split
  · exact .inl rfl
  · have h1 := Int.emod_nonneg (x - l) (show (P : Int) ≠ 0 by omega)
    refine .inr ⟨by omega, by omega, ?_⟩
    have e : (l : Int) + (x - l) % P - x = -((x - l) - (x - l) % P) := by omega
    rw [e]
    refine Int.dvd_neg.mpr ⟨(x - l) / P, ?_⟩
    have := Int.mul_ediv_add_emod (x - l) P
    omega
theorem fellow_same {l P : Nat} {x : Int} (hP : 0 < P) : fellowI l P x = x ∨ ((l : Int) + P ≤ x ∧ (l : Int) + P ≤ fellowI l P x ∧ (P : Int) ∣ fellowI l P x - x) := by
  unfold fellowI
  split
  · exact .inl rfl
  · rename_i hx
    right
    rcases place_same (l := l) (x := x) hP with q | ⟨_, q2, q3⟩
    · have h2 := placeI_lt (l := l) (x := x) hP (by omega)
      omega
    · refine ⟨by omega, by omega, ?_⟩
      have e : placeI l P x + P - x = (placeI l P x - x) + P := by omega
      rw [e]
      exact Int.dvd_add q3 (Int.dvd_refl _)
theorem mul_ge {a b c : Int} (ha : 1 ≤ a) (hb : c ≤ b) (h0 : 0 ≤ b) : c ≤ a * b := by
  have := Int.mul_le_mul_of_nonneg_right ha h0
  omega
theorem mul_ge' {a b c : Int} (ha : 1 ≤ b) (hb : c ≤ a) (h0 : 0 ≤ a) : c ≤ a * b := by
  rw [Int.mul_comm]; exact mul_ge ha hb h0
/-- a reader's number with the row's fellow -/
theorem turn_fellow {l P : Nat} {r m j : Int} (hP : 0 < P) (hr : 0 ≤ r) (hj : 0 ≤ j) : SameC l P (r * m + j) (r * fellowI l P m + j) := by
  rcases fellow_same (l := l) (x := m) hP with q | ⟨q1, q2, q3⟩
  · rw [q]; exact .inl rfl
  · by_cases h0 : r = 0
    · subst h0; left; simp
    · right
      have g1 := mul_ge (a := r) (b := m) (c := l) (by omega) (by omega) (by omega)
      have g2 := mul_ge (a := r) (b := fellowI l P m) (c := l) (by omega) (by omega) (by omega)
      refine ⟨by omega, by omega, ?_⟩
      have e : r * fellowI l P m + j - (r * m + j) = r * (fellowI l P m - m) := by rw [Int.mul_sub]; omega
      rw [e]
      exact Int.dvd_mul_of_dvd_right q3
theorem num_fellow {l P : Nat} {r i j n m : Int} (hP : 0 < P) (hr : 0 ≤ r) (hi : 0 ≤ i) (hj : 0 ≤ j) : ∀ k, SameC l P (numN r i j n m k) (numN r i j (fellowI l P n) (fellowI l P m) k)
  | 0 => turn_fellow hP hr hj
  | 1 => turn_fellow hP hr hi
  | 2 => .inl rfl
  | 3 => .inl rfl
  | _ + 4 => .inl rfl
theorem turn_place {l P : Nat} {r m j : Int} (hP : 0 < P) (hr : 0 ≤ r) (hj : 0 ≤ j) (hm : 1 ≤ m) : SameC l P (r * m + j) (placeI l P r * placeI l P m + placeI l P j) := by
  obtain ⟨r0, _⟩ := placeI_lt (l := l) (x := r) hP hr
  obtain ⟨m0, _⟩ := placeI_lt (l := l) (x := m) hP (by omega)
  obtain ⟨j0, _⟩ := placeI_lt (l := l) (x := j) hP hj
  have dv : ∀ x : Int, (P : Int) ∣ placeI l P x - x := fun x => by
    rcases place_same (l := l) (x := x) hP with q | ⟨_, _, q⟩
    · rw [← q, Int.sub_self]; exact Int.dvd_zero _
    · exact q
  have hd : (P : Int) ∣ placeI l P r * placeI l P m + placeI l P j - (r * m + j) := by
    have e : placeI l P r * placeI l P m + placeI l P j - (r * m + j) = placeI l P r * (placeI l P m - m) + (placeI l P r - r) * m + (placeI l P j - j) := by
      rw [Int.mul_sub, Int.sub_mul]; omega
    rw [e]
    exact Int.dvd_add (Int.dvd_add (Int.dvd_mul_of_dvd_right (dv m)) (Int.dvd_mul_of_dvd_left (dv r))) (dv j)
  have p1 := Int.mul_nonneg r0 m0
  have p2 := Int.mul_nonneg hr (show 0 ≤ m by omega)
  have lo : ∀ x : Int, x < l → placeI l P x = x := fun x h => by unfold placeI; rw [if_pos h]
  have hi : ∀ x : Int, (l : Int) ≤ x → (l : Int) ≤ placeI l P x := fun x h => by
    unfold placeI
    rw [if_neg (by omega)]
    have := Int.emod_nonneg (x - l) (show (P : Int) ≠ 0 by omega)
    omega
  by_cases cj : (l : Int) ≤ j
  · have := hi j cj
    exact .inr ⟨by omega, by omega, hd⟩
  · have ej := lo j (by omega)
    have hl : (1 : Int) ≤ l := by omega
    have m1 : 1 ≤ placeI l P m := by
      by_cases cm : (l : Int) ≤ m
      · have := hi m cm; omega
      · rw [lo m (by omega)]; exact hm
    by_cases cr : (l : Int) ≤ r
    · have g1 := mul_ge' (a := r) (b := m) (c := l) hm cr hr
      have g2 := mul_ge' (a := placeI l P r) (b := placeI l P m) (c := l) m1 (hi r cr) r0
      exact .inr ⟨by omega, by omega, hd⟩
    · have er := lo r (by omega)
      by_cases cm : (l : Int) ≤ m
      · by_cases z : r = 0
        · left; rw [er, ej, z]; simp
        · have g1 := mul_ge (a := r) (b := m) (c := l) (by omega) cm (by omega)
          have g2 := mul_ge (a := r) (b := placeI l P m) (c := l) (by omega) (hi m cm) m0
          rw [er] at hd ⊢
          exact .inr ⟨by omega, by omega, hd⟩
      · left; rw [er, ej, lo m (by omega)]
theorem num_place {l P : Nat} {r i j n m : Int} (hP : 0 < P) (hr : 0 ≤ r) (hi : 0 ≤ i) (hj : 0 ≤ j) (hn : 1 ≤ n) (hm : 1 ≤ m) : ∀ k, SameC l P (numN r i j n m k) (numN (placeI l P r) (placeI l P i) (placeI l P j) (placeI l P n) (placeI l P m) k)
  | 0 => turn_place hP hr hj hm
  | 1 => turn_place hP hr hi hn
  | 2 => place_same hP
  | 3 => place_same hP
  | _ + 4 => place_same hP
theorem fellow_fellow {l P : Nat} {x : Int} (hP : 0 < P) (h0 : 0 ≤ x) : fellowI l P (fellowI l P x) = fellowI l P x := by
  have h : fellowI l P x < l + 2 * P := by
    unfold fellowI
    split
    · assumption
    · have := (placeI_lt (l := l) (x := x) hP h0).2; omega
  show (if fellowI l P x < l + 2 * P then fellowI l P x else _) = _
  rw [if_pos h]

theorem words_cls {L : Nat} {p : Pt} (h : p.Ok L) : ∀ w ∈ p.words, WOk w.2.1 w.2.2 ∧ w.2.1.length ≤ p.lead ∧ w.2.2.length ∣ p.per := fun w hw => ⟨(Pt.words_ok h w hw).2.1, Pt.lead_le w hw, Pt.per_dvd w hw⟩
theorem place_place {l P : Nat} {x : Int} (hP : 0 < P) (h0 : 0 ≤ x) : placeI l P (placeI l P x) = placeI l P x := by
  have h := placeI_lt (l := l) (x := x) hP h0
  generalize placeI l P x = y at h
  unfold placeI
  split
  · rfl
  · rw [Int.emod_eq_of_lt (by omega) (by omega)]; omega
theorem place_le {l P : Nat} {x : Int} (hP : 0 < P) (h0 : 0 ≤ x) : placeI l P x ≤ x := by
  unfold placeI
  split
  · exact Int.le_refl _
  · have h1 : (x - l) % P ≤ x - l := by
      have := Int.mul_ediv_add_emod (x - l) P
      have h2 : 0 ≤ (P : Int) * ((x - l) / P) := Int.mul_nonneg (by omega) (Int.ediv_nonneg (by omega) (by omega))
      omega
    omega
/-- what a rule tells is told by the classes -/
theorem tell_at_place {L : Nat} {p : Pt} (h : p.Ok L) {r i j n m : Int} (hr : 0 ≤ r) (hi : 0 ≤ i) (hj : 0 ≤ j) (hn : 1 ≤ n) (hm : 1 ≤ m) : p.tell (numN (placeI p.lead p.per r) (placeI p.lead p.per i) (placeI p.lead p.per j) n m) = p.tell (numN r i j n m) := by
  have hP := (per_pos h).1
  obtain ⟨r0, _⟩ := placeI_lt (l := p.lead) (x := r) hP hr
  obtain ⟨i0, _⟩ := placeI_lt (l := p.lead) (x := i) hP hi
  obtain ⟨j0, _⟩ := placeI_lt (l := p.lead) (x := j) hP hj
  have h1 := tell_class (num_place (l := p.lead) (P := p.per) hP hr hi hj hn hm) (p := p) (words_cls h)
  have h2 := tell_class (num_place (l := p.lead) (P := p.per) hP r0 i0 j0 hn hm) (p := p) (words_cls h)
  rw [place_place hP hr, place_place hP hi, place_place hP hj] at h2
  rw [← h2, h1]
theorem any_cls {L : Nat} {p : Pt} (h : p.Ok L) {n k c i j : Int} (n1 : 1 ≤ n) (k1 : 1 ≤ k) (i0 : 0 ≤ i) (j0 : 0 ≤ j) (f : Bool → Bool) :
    ((List.range c.toNat).any fun r : Nat => f (p.tell (numN (r : Int) i j n k))) = ((List.range (many p c)).any fun r : Nat => f (p.tell (numN (r : Int) (placeI p.lead p.per i) (placeI p.lead p.per j) n k))) := by
  have hP := (per_pos h).1
  rw [Bool.eq_iff_iff, List.any_eq_true, List.any_eq_true]
  constructor
  · rintro ⟨r, hr, e⟩
    have hr := List.mem_range.mp hr
    obtain ⟨r0, r1⟩ := placeI_lt (l := p.lead) (x := (r : Int)) hP (by omega)
    have r2 := place_le (l := p.lead) (P := p.per) (x := (r : Int)) hP (by omega)
    refine ⟨(placeI p.lead p.per r).toNat, List.mem_range.mpr (by unfold many; omega), ?_⟩
    rw [show (((placeI p.lead p.per (r : Int)).toNat : Nat) : Int) = placeI p.lead p.per r by omega, tell_at_place h (by omega) i0 j0 n1 k1]
    exact e
  · rintro ⟨r, hr, e⟩
    have hr := List.mem_range.mp hr
    unfold many at hr
    have er : placeI p.lead p.per (r : Int) = r := by
      unfold placeI
      split
      · rfl
      · rw [Int.emod_eq_of_lt (by omega) (by omega)]; omega
    refine ⟨r, List.mem_range.mpr (by omega), ?_⟩
    rw [← tell_at_place h (by omega) i0 j0 n1 k1, er]
    exact e
/-- what a table tells of a pair of classes -/
def tbV (p : Pt) (n k : Int) (R i j : Nat) : Dat := (tbE p n k R i j).2
theorem tbE_eq (p : Pt) (n k : Int) (R i j : Nat) : tbE p n k R i j = ([.inl (i : Int), .inl (j : Int)], tbV p n k R i j) := rfl
def clN (p : Pt) (x : Nat) : Nat := (placeI p.lead p.per (x : Int)).toNat
theorem clN_eq {L : Nat} {p : Pt} (h : p.Ok L) (x : Nat) : ((clN p x : Nat) : Int) = placeI p.lead p.per (x : Int) := by
  have := (placeI_lt (l := p.lead) (x := (x : Int)) (per_pos h).1 (by omega)).1
  unfold clN; omega
theorem clN_lt {L : Nat} {p : Pt} (h : p.Ok L) {x : Nat} {n : Int} (hx : (x : Int) < n) : clN p x < many p n := by
  have h1 := placeI_lt (l := p.lead) (x := (x : Int)) (per_pos h).1 (by omega)
  have h2 := place_le (l := p.lead) (P := p.per) (x := (x : Int)) (per_pos h).1 (by omega)
  unfold clN many; omega
theorem clN_id {L : Nat} {p : Pt} (h : p.Ok L) {x : Nat} {n : Int} (hx : x < many p n) : clN p x = x ∧ (x : Int) < n := by
  have hP := (per_pos h).1
  unfold many at hx
  have er : placeI p.lead p.per (x : Int) = x := by
    unfold placeI
    split
    · rfl
    · rw [Int.emod_eq_of_lt (by omega) (by omega)]; omega
  unfold clN
  rw [er]
  exact ⟨by omega, by omega⟩
/-- the law's own table, when the pairs of S have been seen -/
structure Fd (p : Pt) (n k : Int) (R : Nat) (S : Nat → Nat → Prop) (D : List (List Key × Dat)) : Prop where
  pw : D.Pairwise fun a b => a.1 ≠ b.1
  it : ∀ e ∈ D, ∃ a b : Nat, a < many p n ∧ b < many p k ∧ S a b ∧ e = tbE p n k R a b
  al : ∀ a b, S a b → tbE p n k R a b ∈ D
theorem Fd.congr {p : Pt} {n k : Int} {R : Nat} {S S' : Nat → Nat → Prop} {D : List (List Key × Dat)} (h : Fd p n k R S D) (e : ∀ a b, S a b ↔ S' a b) : Fd p n k R S' D :=
  ⟨h.pw, fun x hx => by obtain ⟨a, b, h1, h2, h3, h4⟩ := h.it x hx; exact ⟨a, b, h1, h2, (e a b).mp h3, h4⟩, fun a b hs => h.al a b ((e a b).mpr hs)⟩
theorem lk_pw {D : List (List Key × Dat)} (hp : D.Pairwise fun a b => a.1 ≠ b.1) : ∀ e ∈ D, lk D e.1 = some e.2 := by
  induction D with
  | nil => intro e he; cases he
  | cons x ks ih =>
    intro e he
    obtain ⟨h1, h2⟩ := List.pairwise_cons.mp hp
    rcases List.mem_cons.mp he with rfl | he
    · unfold lk
      rw [List.find?_cons_of_pos (by simp)]
      rfl
    · have := ih h2 e he
      unfold lk at this ⊢
      rw [List.find?_cons_of_neg (by simpa using h1 e he)]
      exact this
theorem lk_no {D : List (List Key × Dat)} {k : List Key} (h : ∀ e ∈ D, e.1 ≠ k) : lk D k = none := by
  unfold lk
  rw [List.find?_eq_none.mpr fun x hx => by simpa using h x hx]
  rfl
theorem Fd.step {p : Pt} {n k : Int} {R : Nat} {S : Nat → Nat → Prop} {D : List (List Key × Dat)} (h : Fd p n k R S D) {a b : Nat} (ha : a < many p n) (hb : b < many p k) :
    (lk D [.inl (a : Int), .inl (b : Int)] = none ∨ lk D [.inl (a : Int), .inl (b : Int)] = some (tbV p n k R a b)) ∧ Fd p n k R (fun x y => S x y ∨ (x = a ∧ y = b)) (pt D [.inl (a : Int), .inl (b : Int)] (tbV p n k R a b)) := by
  by_cases hs : tbE p n k R a b ∈ D
  · refine ⟨.inr (lk_pw h.pw _ hs), ?_⟩
    have e : pt D [.inl (a : Int), .inl (b : Int)] (tbV p n k R a b) = D := by
      unfold pt
      rw [if_pos (List.any_eq_true.mpr ⟨_, hs, decide_eq_true rfl⟩)]
      conv => rhs; rw [← List.map_id D]
      apply List.map_congr_left
      intro x hx
      split
      · rename_i hk
        obtain ⟨a', b', _, _, _, rfl⟩ := h.it x hx
        obtain ⟨rfl, rfl⟩ := cross_key hk
        rfl
      · rfl
    rw [e]
    refine ⟨h.pw, fun x hx => ?_, fun x y hxy => ?_⟩
    · obtain ⟨a', b', h1, h2, h3, h4⟩ := h.it x hx
      exact ⟨a', b', h1, h2, .inl h3, h4⟩
    · rcases hxy with hxy | ⟨rfl, rfl⟩
      · exact h.al x y hxy
      · exact hs
  · have hn : ∀ e ∈ D, e.1 ≠ ([.inl (a : Int), .inl (b : Int)] : List Key) := fun e he hk => by
      obtain ⟨a', b', _, _, _, rfl⟩ := h.it e he
      obtain ⟨rfl, rfl⟩ := cross_key hk
      exact hs he
    refine ⟨.inl (lk_no hn), ?_⟩
    rw [pt_new hn]
    refine ⟨List.pairwise_append.mpr ⟨h.pw, List.pairwise_singleton .., fun x hx y hy => by rw [List.mem_singleton.mp hy]; exact hn x hx⟩, fun x hx => ?_, fun x y hxy => ?_⟩
    · rcases List.mem_append.mp hx with hx | hx
      · obtain ⟨a', b', h1, h2, h3, h4⟩ := h.it x hx
        exact ⟨a', b', h1, h2, .inl h3, h4⟩
      · rw [List.mem_singleton.mp hx]
        exact ⟨a, b, ha, hb, .inr ⟨rfl, rfl⟩, rfl⟩
    · rcases hxy with hxy | ⟨rfl, rfl⟩
      · exact List.mem_append_left _ (h.al x y hxy)
      · exact List.mem_append_right _ (List.mem_singleton.mpr rfl)
theorem tbL_mem {p : Pt} {n k : Int} {R I J : Nat} {e : List Key × Dat} : e ∈ tbL p n k R I J ↔ ∃ a b : Nat, a < I ∧ b < J ∧ e = tbE p n k R a b := by
  unfold tbL
  constructor
  · intro h
    obtain ⟨l, hl, he⟩ := List.mem_flatten.mp h
    obtain ⟨a, ha, rfl⟩ := List.mem_map.mp hl
    obtain ⟨b, hb, rfl⟩ := List.mem_map.mp he
    exact ⟨a, b, List.mem_range.mp ha, List.mem_range.mp hb, rfl⟩
  · rintro ⟨a, b, ha, hb, rfl⟩
    exact List.mem_flatten.mpr ⟨_, List.mem_map.mpr ⟨a, List.mem_range.mpr ha, rfl⟩, List.mem_map.mpr ⟨b, List.mem_range.mpr hb, rfl⟩⟩
theorem tbL_asc (p : Pt) (n k : Int) (R : Nat) {I J : Nat} (hJ : J ≤ 64) : (tbL p n k R I J).Pairwise fun a b => TS.code 64 (a.1.map kInt) < TS.code 64 (b.1.map kInt) := by
  unfold tbL
  have cd : ∀ i j : Nat, TS.code 64 ((tbE p n k R i j).1.map kInt) = (i : Int) * 64 + j := fun i j => code_pair _ _
  rw [List.pairwise_flatten]
  refine ⟨fun l hl => ?_, ?_⟩
  · obtain ⟨i, _, rfl⟩ := List.mem_map.mp hl
    rw [List.pairwise_map]
    refine List.pairwise_lt_range.imp fun {a b} hab => ?_
    rw [cd, cd]; omega
  · rw [List.pairwise_map]
    refine List.pairwise_lt_range.imp fun {a b} hab x hx y hy => ?_
    obtain ⟨j, hj, rfl⟩ := List.mem_map.mp hx
    obtain ⟨j', _, rfl⟩ := List.mem_map.mp hy
    have := List.mem_range.mp hj
    rw [cd, cd]; omega
theorem tbL_pw (p : Pt) (n k : Int) (R : Nat) {I J : Nat} (hJ : J ≤ 64) : (tbL p n k R I J).Pairwise fun a b => a.1 ≠ b.1 :=
  (tbL_asc p n k R hJ).imp fun {a b} h z => by rw [z] at h; omega
theorem Fd.perm {p : Pt} {n k : Int} {R : Nat} {S : Nat → Nat → Prop} {D : List (List Key × Dat)} (h : Fd p n k R S D) (hs : ∀ a b, a < many p n → b < many p k → S a b) (hJ : many p k ≤ 64) : D.Perm (tbL p n k R (many p n) (many p k)) := by
  refine (List.perm_ext_iff_of_nodup (h.pw.imp fun {a b} q z => q (by rw [z])) ((tbL_pw p n k R hJ).imp fun {a b} q z => q (by rw [z]))).mpr fun e => ?_
  rw [tbL_mem]
  constructor
  · intro he
    obtain ⟨a, b, h1, h2, _, h4⟩ := h.it e he
    exact ⟨a, b, h1, h2, h4⟩
  · rintro ⟨a, b, h1, h2, rfl⟩
    exact h.al a b (hs a b h1 h2)
theorem nodup_len {α : Type} : ∀ {l D : List α}, l.Nodup → (∀ x ∈ l, x ∈ D) → l.length ≤ D.length
  | [], _, _, _ => Nat.zero_le _
  | x :: l, D, hn, hs => by
    classical
    obtain ⟨h1, h2⟩ := List.nodup_cons.mp hn
    obtain ⟨A, B, e⟩ := List.append_of_mem (hs x (List.mem_cons_self ..))
    subst e
    have ih := nodup_len (l := l) (D := A ++ B) h2 fun y hy => by
      rcases List.mem_append.mp (hs y (List.mem_cons_of_mem _ hy)) with h | h
      · exact List.mem_append_left _ h
      · rcases List.mem_cons.mp h with e | h
        · exact absurd hy (e ▸ h1)
        · exact List.mem_append_right _ h
    rw [List.length_append] at ih
    rw [List.length_append, List.length_cons, List.length_cons]
    omega
theorem Fd.short {p : Pt} {n k : Int} {R : Nat} {S : Nat → Nat → Prop} {D : List (List Key × Dat)} (h : Fd p n k R S D) : D.length ≤ many p n * many p k := by
  have hl : (tbL p n k R (many p n) (many p k)).length = many p n * many p k := by
    rw [← tb_ccL, List.length_map]
    show (((List.range (many p n)).map (ccR p n k R (many p k))).flatten).length = _
    rw [ccR_len, List.length_range]
  rw [← hl]
  exact nodup_len (h.pw.imp fun {a b} q z => q (by rw [z])) fun e he => by
    obtain ⟨a, b, h1, h2, _, h4⟩ := h.it e he
    exact tbL_mem.mpr ⟨a, b, h1, h2, h4⟩
def rowK (I J : Nat) : List (List Int) := ((List.range I).map fun i : Nat => (List.range J).map fun j : Nat => [(i : Int), (j : Int)]).flatten
theorem tbL_keys (p : Pt) (n k : Int) (R I J : Nat) : (tbL p n k R I J).map (fun e => e.1.map kInt) = rowK I J := by
  unfold tbL rowK
  rw [List.map_flatten, List.map_map]
  congr 1
  apply List.map_congr_left
  intro i _
  show ((List.range J).map (tbE p n k R i)).map _ = _
  rw [List.map_map]
  apply List.map_congr_left
  intro j _
  rfl
theorem rowK_asc {I J : Nat} (hJ : J ≤ 64) : (rowK I J).Pairwise fun a b => TS.code 64 a < TS.code 64 b := by
  have := tbL_asc (.alw true) 0 0 0 (I := I) hJ
  rw [← tbL_keys (.alw true) 0 0 0 I J, List.pairwise_map]
  exact this
theorem pw_mem {α : Type} {R : α → α → Prop} {l : List α} (h : l.Pairwise R) {a b : α} (ha : a ∈ l) (hb : b ∈ l) (hab : a ≠ b) : R a b ∨ R b a := by
  induction l with
  | nil => cases ha
  | cons x l ih =>
    obtain ⟨h1, h2⟩ := List.pairwise_cons.mp h
    rcases List.mem_cons.mp ha with e1 | ha
    · rcases List.mem_cons.mp hb with e2 | hb
      · exact absurd (e1.trans e2.symm) hab
      · rw [e1]; exact .inl (h1 b hb)
    · rcases List.mem_cons.mp hb with e2 | hb
      · rw [e2]; exact .inr (h1 a ha)
      · exact ih h2 ha hb
theorem row_sort {I J : Nat} (hJ : J ≤ 64) {out : List (List Int)} (h1 : out.Perm (rowK I J)) (h2 : out.Pairwise fun a b => TS.code 64 a ≤ TS.code 64 b) : out = rowK I J := by
  have hA := rowK_asc (I := I) hJ
  refine List.Perm.eq_of_pairwise (le := fun a b => TS.code 64 a ≤ TS.code 64 b) (fun a b ha hb q1 q2 => ?_) h2 (hA.imp fun {a b} q => by omega) h1
  have hb' : b ∈ rowK I J := hb
  have ha' : a ∈ rowK I J := h1.subset ha
  by_cases e : a = b
  · exact e
  · exfalso
    rcases pw_mem hA ha' hb' e with z | z <;> omega


end
section
local macro_rules | `(tactic| decreasing_trivial_pre_omega) => `(tactic| with_reducible first | (apply p_methO; (· with_unfolding_all rfl)) | fail "no")
local macro_rules | `(tactic| decreasing_trivial_pre_omega) => `(tactic| with_reducible refine p_insO ?_)
local macro_rules | `(tactic| decreasing_trivial_pre_omega) => `(tactic| with_reducible refine p_srcS ?_)
local macro_rules | `(tactic| decreasing_trivial_pre_omega) => `(tactic| with_reducible refine p_srcL ?_)
local macro_rules | `(tactic| decreasing_trivial_pre_omega) => `(tactic| with_reducible refine p_srcT ?_)
local macro_rules | `(tactic| decreasing_trivial_pre_omega) => `(tactic| with_reducible refine u_any ?_)
local macro_rules | `(tactic| decreasing_trivial_pre_omega) => `(tactic| with_reducible refine p_min ?_)
local macro_rules | `(tactic| decreasing_trivial_pre_omega) => `(tactic| with_reducible refine p_max ?_)
local macro_rules | `(tactic| decreasing_trivial_pre_omega) => `(tactic| with_reducible refine p_own1 ?_)
local macro_rules | `(tactic| decreasing_trivial_pre_omega) => `(tactic| with_reducible refine p_own ?_)
local macro_rules | `(tactic| decreasing_trivial_pre_omega) => `(tactic| with_reducible first | (apply p_setF; (· assumption); (· with_unfolding_all exact Nat.le_of_ble_eq_true rfl)) | fail "no")
local macro_rules | `(tactic| decreasing_trivial_pre_omega) => `(tactic| with_reducible first | (apply p_setF'; (· with_unfolding_all exact Nat.le_of_ble_eq_true rfl)) | fail "no")
local macro_rules | `(tactic| decreasing_trivial_pre_omega) => `(tactic| with_reducible refine u_setF ?_)
local macro_rules | `(tactic| decreasing_trivial_pre_omega) => `(tactic| with_reducible refine u_make ?_)
local macro_rules | `(tactic| decreasing_trivial_pre_omega) => `(tactic| with_reducible refine u_meth ?_)
local macro_rules | `(tactic| decreasing_trivial_pre_omega) => `(tactic| with_reducible refine u_prop ?_)
local macro_rules | `(tactic| decreasing_trivial_pre_omega) => `(tactic| with_reducible first | (apply p_fldR; (· first | exact DL.Mu.set_same _ _ _ | assumption); (· with_unfolding_all rfl)) | fail "no")
local macro_rules | `(tactic| decreasing_trivial_pre_omega) => `(tactic| with_reducible first | (apply p_fldO; (· with_unfolding_all rfl)) | fail "no")
local macro_rules | `(tactic| decreasing_trivial_pre_omega) => `(tactic| with_reducible refine u_fld ?_)
local macro_rules | `(tactic| decreasing_trivial_pre_omega) => `(tactic| with_reducible refine u_callI ?_)
local macro_rules | `(tactic| decreasing_trivial_pre_omega) => `(tactic| with_reducible refine p_isiO ?_)
local macro_rules | `(tactic| decreasing_trivial_pre_omega) => `(tactic| with_reducible refine u_isiO ?_)
local macro_rules | `(tactic| decreasing_trivial_pre_omega) => `(tactic| with_reducible refine p_dgn ?_)
local macro_rules | `(tactic| decreasing_trivial_pre_omega) => `(tactic| with_reducible refine p_dgc ?_)
local macro_rules | `(tactic| decreasing_trivial_pre_omega) => `(tactic| with_reducible first | (apply p_dgL; (· with_unfolding_all rfl)) | fail "no")
local macro_rules | `(tactic| decreasing_trivial_pre_omega) => `(tactic| with_reducible first | (apply p_dgT; (· with_unfolding_all rfl)) | fail "no")
local macro_rules | `(tactic| decreasing_trivial_pre_omega) => `(tactic| with_reducible refine p_par ?_)
local macro_rules | `(tactic| decreasing_trivial_pre_omega) => `(tactic| with_reducible refine p_ends ?_)
local macro_rules | `(tactic| decreasing_trivial_pre_omega) => `(tactic| with_reducible refine u_for ?_)
local macro_rules | `(tactic| decreasing_trivial_pre_omega) => `(tactic| with_reducible first | (apply p_mulS'; (· omega); (· omega); (· omega)) | fail "no")
local macro_rules | `(tactic| decreasing_trivial_pre_omega) => `(tactic| with_reducible first | (apply p_fdiv; (· omega); (· exact log_small (by omega) (by omega))) | fail "no")

local macro_rules | `(tactic| decreasing_trivial_pre_omega) => `(tactic| with_reducible first | (apply p_putK1; (· first | exact DL.Mu.set_same .. | assumption); (· with_unfolding_all rfl); (· rw [sizeLine_eq]; exact Nat.lt_of_succ_le (Nat.le_of_ble_eq_true (by with_unfolding_all rfl)))) | fail "no")
local macro_rules | `(tactic| decreasing_trivial_pre_omega) => `(tactic| with_reducible first | (apply p_getK1; (· first | exact dKs_ref (DL.Mu.set_same ..) | exact dKs_ref (by assumption)); (· with_unfolding_all rfl); (· with_unfolding_all rfl)) | fail "no")
local macro_rules | `(tactic| decreasing_trivial_pre_omega) => `(tactic| with_reducible refine p_keysK ?_)
local macro_rules | `(tactic| decreasing_trivial_pre_omega) => `(tactic| with_reducible refine p_keysT ?_)
local macro_rules | `(tactic| decreasing_trivial_pre_omega) => `(tactic| with_reducible refine p_revL ?_)
local macro_rules | `(tactic| decreasing_trivial_pre_omega) => `(tactic| with_reducible refine p_enumL ?_)
local macro_rules | `(tactic| decreasing_trivial_pre_omega) => `(tactic| with_reducible refine p_neI ?_)
local macro_rules | `(tactic| decreasing_trivial_pre_omega) => `(tactic| with_reducible refine u_pnil ?_)
local macro_rules | `(tactic| decreasing_trivial_pre_omega) => `(tactic| with_reducible refine u_pcons ?_)
local macro_rules | `(tactic| decreasing_trivial_pre_omega) => `(tactic| with_reducible refine u_dictMK ?_)
local macro_rules | `(tactic| decreasing_trivial_pre_omega) => `(tactic| with_reducible refine p_par3 ?_)
local macro_rules | `(tactic| decreasing_trivial_pre_omega) => `(tactic| with_reducible refine u_par3 ?_)
local macro_rules | `(tactic| decreasing_trivial_pre_omega) => `(tactic| with_reducible refine u_sortSetTM ?_)
local macro_rules | `(tactic| decreasing_trivial_pre_omega) => `(tactic| with_reducible refine u_sortSetT ?_)
local macro_rules | `(tactic| decreasing_trivial_pre_omega) => `(tactic| with_reducible refine u_enum ?_)
local macro_rules | `(tactic| decreasing_trivial_pre_omega) => `(tactic| with_reducible refine u_revL ?_)
local macro_rules | `(tactic| decreasing_trivial_pre_omega) => `(tactic| with_reducible refine u_dkeys ?_)
local macro_rules | `(tactic| decreasing_trivial_pre_omega) => `(tactic| with_reducible refine u_frz ?_)
local macro_rules | `(tactic| decreasing_trivial_pre_omega) => `(tactic| with_reducible refine u_putD ?_)
local macro_rules | `(tactic| decreasing_trivial_pre_omega) => `(tactic| with_reducible refine u_getD ?_)
local macro_rules | `(tactic| decreasing_trivial_pre_omega) => `(tactic| with_reducible refine u_ninD ?_)
local macro_rules | `(tactic| decreasing_trivial_pre_omega) => `(tactic| with_reducible refine u_inD ?_)
local macro_rules | `(tactic| decreasing_trivial_pre_omega) => `(tactic| with_reducible refine u_newT ?_)
local macro_rules | `(tactic| decreasing_trivial_pre_omega) => `(tactic| with_reducible refine u_newK ?_)
local macro_rules | `(tactic| decreasing_trivial_pre_omega) => `(tactic| with_reducible refine u_lcM ?_)
local macro_rules | `(tactic| decreasing_trivial_pre_omega) => `(tactic| with_reducible refine u_lrgM ?_)
local macro_rules | `(tactic| decreasing_trivial_pre_omega) => `(tactic| with_reducible refine u_lrg ?_)

local macro_rules | `(tactic| decreasing_trivial_pre_omega) => `(tactic| with_reducible refine u_putT ?_)
local macro_rules | `(tactic| decreasing_trivial_pre_omega) => `(tactic| with_reducible refine u_nextN ?_)
local macro_rules | `(tactic| decreasing_trivial_pre_omega) => `(tactic| with_reducible refine u_dcN ?_)
local macro_rules | `(tactic| decreasing_trivial_pre_omega) => `(tactic| with_reducible refine u_lcNM ?_)
local macro_rules | `(tactic| decreasing_trivial_pre_omega) => `(tactic| with_reducible refine u_lcN ?_)

local macro_rules | `(tactic| decreasing_trivial_pre_omega) => `(tactic| with_reducible first | refine p_mulM (by omega) (by omega) ?_ | fail "no")
local macro_rules | `(tactic| decreasing_trivial_pre_omega) => `(tactic| with_reducible first | (apply p_get2T; (· first | exact dTs_ref (DL.Mu.set_same ..) | exact dTs_ref (by assumption))) | fail "no")
local macro_rules | `(tactic| decreasing_trivial_pre_omega) => `(tactic| with_reducible refine u_get2 ?_)
local macro_rules | `(tactic| decreasing_trivial_pre_omega) => `(tactic| with_reducible refine p_isB ?_)
local macro_rules | `(tactic| decreasing_trivial_pre_omega) => `(tactic| with_reducible refine p_notB ?_)

local macro_rules | `(tactic| decreasing_trivial_pre_omega) => `(tactic| with_reducible refine p_itemsT ?_)
local macro_rules | `(tactic| decreasing_trivial_pre_omega) => `(tactic| with_reducible refine u_itemsT ?_)

/-! ### alike: two tables -/
structure TbOk (ks : List (List Key × Dat)) : Prop where
  len : ks.length < 64
  pw : ks.Pairwise fun a b => a.1 ≠ b.1
  it : ∀ e ∈ ks, ∃ (i j : Nat) (a b : Bool), i ≤ 20 ∧ j ≤ 20 ∧ e = ([.inl (i : Int), .inl (j : Int)], .tup [.bl a, .bl b])
def tbPy : Dat → PyData
  | .tup [.bl a, .bl b] => .tuple [.bool a, .bool b]
  | _ => .none
theorem int_wt {i : Nat} (h : i ≤ 20) : (PyData.int (i : Int)).weight ≤ 5 := by
  simp only [PyData.weight]
  split
  · exact Nat.zero_le _
  · rename_i h0
    have h1 : (i : Int).natAbs ≠ 0 := by
      intro z
      apply h0
      have : (i : Int) = 0 := by omega
      rw [this]; rfl
    have := (Nat.log2_lt (k := 5) h1).mpr (by omega)
    omega
theorem tb_nice : ∀ {ks : List (List Key × Dat)}, (∀ e ∈ ks, ∃ (i j : Nat) (a b : Bool), i ≤ 20 ∧ j ≤ 20 ∧ e = ([.inl (i : Int), .inl (j : Int)], .tup [.bl a, .bl b])) →
    PyData.showableKv (ks.map fun p => (keyPy p.1, tbPy p.2)) = true ∧ PyData.leavesShortKv 4000 (ks.map fun p => (keyPy p.1, tbPy p.2)) = true ∧ PyData.weightKv (ks.map fun p => (keyPy p.1, tbPy p.2)) ≤ ks.length * 18 ∧ PyData.depthKv (ks.map fun p => (keyPy p.1, tbPy p.2)) ≤ 1
  | [], _ => ⟨rfl, rfl, Nat.le_refl _, Nat.zero_le _⟩
  | e :: ks, h => by
    obtain ⟨g1, g2, g3, g4⟩ := tb_nice (ks := ks) fun x hx => h x (by simp [hx])
    obtain ⟨i, j, a, b, hi, hj, rfl⟩ := h e (by simp)
    have n1 := DL.Nice.tup (d := 0) (.cons (.int (i := (i : Int)) (by omega) (by omega)) (.cons (.int (i := (j : Int)) (by omega) (by omega)) (.nil (w := 0))))
    have n2 := DL.Nice.tup (d := 0) (.cons (.bl (b := a) (w := 0)) (.cons (.bl (b := b) (w := 0)) (.nil (w := 0))))
    have e1 : keyPy [.inl (i : Int), .inl (j : Int)] = .tuple [.int (i : Int), .int (j : Int)] := rfl
    have e2 : tbPy (.tup [.bl a, .bl b]) = .tuple [.bool a, .bool b] := rfl
    rw [List.map_cons]
    simp only [e1, e2]
    refine ⟨?_, ?_, ?_, ?_⟩
    · simp only [PyData.showableKv, n1.sh, n2.sh, g1, Bool.and_self]
    · simp only [PyData.leavesShortKv, n1.lv, n2.lv, g2, Bool.and_self]
    · have w1 := int_wt hi
      have w2 := int_wt hj
      have w3 : (PyData.tuple [.int (i : Int), .int (j : Int)]).weight = (PyData.int (i : Int)).weight + 1 + ((PyData.int (j : Int)).weight + 1 + 0) := by simp only [PyData.weight, PyData.weightAll]
      have w4 : (PyData.tuple [.bool a, .bool b]).weight = 0 + 1 + (0 + 1 + 0) := by simp only [PyData.weight, PyData.weightAll]
      show PyData.weight _ + PyData.weight _ + 2 + PyData.weightKv _ ≤ (ks.length + 1) * 18
      rw [w3, w4]
      omega
    · show max (max (PyData.depth _) (PyData.depth _)) (PyData.depthKv _) ≤ 1
      exact Nat.max_le.mpr ⟨Nat.max_le.mpr ⟨n1.dp, n2.dp⟩, g4⟩
theorem tb_shown {ks : List (List Key × Dat)} (h : TbOk ks) : (dictPy tbPy ks).showable = true ∧ (dictPy tbPy ks).depth ≤ 60 ∧ (dictPy tbPy ks).shown.length ≤ sizeLine := by
  obtain ⟨g1, g2, g3, g4⟩ := tb_nice h.it
  have hl := h.len
  have hw : (dictPy tbPy ks).weight ≤ 2000 := by
    show PyData.weightKv _ ≤ 2000
    omega
  refine ⟨g1, ?_, ?_⟩
  · show PyData.depthKv _ + 1 ≤ 60
    omega
  · have := PyData.shown_le 4000 (by decide) (dictPy tbPy ks) g2
    have q : (4000 + 2) * (dictPy tbPy ks).weight ≤ 4002 * 2000 := Nat.mul_le_mul (by decide) hw
    rw [sizeLine_eq]; omega
theorem lk_self {ks : List (List Key × Dat)} (h : ks.Pairwise fun a b => a.1 ≠ b.1) : ∀ e ∈ ks, lk ks e.1 = some e.2 := by
  induction ks with
  | nil => intro e he; cases he
  | cons x ks ih =>
    intro e he
    obtain ⟨h1, h2⟩ := List.pairwise_cons.mp h
    rcases List.mem_cons.mp he with rfl | he
    · unfold lk
      rw [List.find?_cons_of_pos (by simp)]
      rfl
    · have := ih h2 e he
      unfold lk at this ⊢
      rw [List.find?_cons_of_neg (by simpa using h1 e he)]
      exact this
theorem tb_self {ks : List (List Key × Dat)} (h : TbOk ks) : eqDT tbPy ks ks = true := by
  unfold eqDT
  rw [beq_self_eq_true, Bool.true_and, List.all_eq_true]
  intro e he
  rw [lk_self h.pw e he]
  obtain ⟨i, j, a, b, hi, hj, rfl⟩ := h.it e he
  show PyData.eqv (.tuple [.bool a, .bool b]) (.tuple [.bool a, .bool b]) = true
  exact SeqAt.eqv_refl _ rfl
theorem tb_view {ks : List (List Key × Dat)} (h : TbOk ks) (m : Mu) : (∀ e ∈ ks, DView m e.2 (tbPy e.2) ∧ SeqAt.shaped (tbPy e.2) = true) ∧ ∀ e ∈ ks, DView m e.2 (tbPy e.2) ∧ flatP (tbPy e.2) = true := by
  refine ⟨fun e he => ?_, fun e he => ?_⟩
  · obtain ⟨i, j, a, b, hi, hj, rfl⟩ := h.it e he
    have sh2 : ∀ a b : Bool, SeqAt.shaped (.tuple [.bool a, .bool b]) = true := by decide +kernel
    exact ⟨.inl rfl, sh2 a b⟩
  · obtain ⟨i, j, a, b, hi, hj, rfl⟩ := h.it e he
    exact ⟨.inl rfl, rfl⟩
def spAlikeT : DL.Spec := fun ds m F _ => ds.length = 2 ∧ ∃ (x y : Dat) (ks : List (List Key × Dat)), ds = [x, y] ∧ dTs m x = some ks ∧ dTs m y = some ks ∧ TbOk ks ∧ F (.bl true) m
theorem ok_l_alike (T : Txt K mg) : DF P wd K mg base CX0 1 T.f_l_alike ["_law_found", "_law_due_here"] spAlikeT :=
  dfxB T.a_l_alike sc_l_alike (fun ds m F Z h => h.1) fun cdv A outer s H E ds m G Z hr hgd hB h => ⟨_, (dss_one (ds_ret (de_and (de_cmp (o_eqT (units65 hr)) (dv 0) (dv 1) (by rfl)) (de_one (de_cmp (o_eq hr.units) (de_callB (c_reprT hgd hr.units) (by rfl) T.z_repr (by decide +kernel) (da_cons (dv 0) da_nil)) (de_callB (c_reprT hgd hr.units) (by rfl) T.z_repr (by decide +kernel) (da_cons (dv 1) da_nil)) (by rfl)))))), by
    rcases h with ⟨hlen, h⟩
    obtain ⟨x, y, ks, rfl, hx, hy, hk, h⟩ := h
    obtain ⟨s1, s2, s3⟩ := tb_shown hk
    rw [st_l_alike]
    repeat' decreasing_trivial_pre_omega
    refine p_eqT tbPy hx hy (tb_view hk m).1 (tb_view hk m).1 ?_
    rw [tb_self hk]
    repeat' decreasing_trivial_pre_omega
    refine ⟨_, ks, tbPy, rfl, hx, (tb_view hk m).2, s1, s2, s3, ?_⟩
    repeat' decreasing_trivial_pre_omega
    refine ⟨_, ks, tbPy, rfl, hy, (tb_view hk m).2, s1, s2, s3, ?_⟩
    repeat' decreasing_trivial_pre_omega
    rw [beq_self_eq_true]
    exact h⟩

/-- the three numbers as the law holds them -/
def Num3 (d : Dat) (n k c : Int) : Prop := d = .lst [.int n, .int k, .int c] ∨ d = .tup [.int n, .int k, .int c]
def spDue42 : DL.Spec := fun ds m F _ => ds.length = 3 ∧ ∃ (p : Pt) (L : Nat) (n k c : Int) (d : Dat), ds = [p.dat, .tup [.int (p.lead : Nat), .int (p.per : Nat)], d] ∧ Num3 d n k c ∧ PSm L p ∧ 1 ≤ n ∧ n ≤ 50 ∧ 1 ≤ k ∧ k ≤ 50 ∧ 1 ≤ c ∧ c ≤ 50 ∧ p.lead + p.per ≤ 7 ∧ ∀ q x f, m f = none → (m.set f x) q = none → F (.ref q) ((m.set f x).set q (.dcT (tbL p n k (many p c) (many p n) (many p k))))
theorem p_inB {b : Bool} {bs : List Bool} {m : Mu} {F : KD} (hl : bs.length ≤ 100) (h : F (.bl (bs.any fun z => z == b)) m) : DL.rInD false (.bl b) (.lst (bs.map Dat.bl)) m F := by
  have n1 : DL.Nice (.list (bs.map PyData.bool)) 1 (bs.length * 1) := DL.Nice.lst (DL.NiceL.map fun x _ => .bl)
  have sh : SeqAt.shaped (.list (bs.map PyData.bool)) = true := by
    unfold SeqAt.shaped
    have h2 : (PyData.list (bs.map PyData.bool)).depth ≤ 60 := Nat.le_trans n1.dp (by decide)
    rw [Bool.and_eq_true, decide_eq_true_eq]
    exact ⟨n1.lay, by omega⟩
  have hv : DL.toPys (bs.map Dat.bl) = some (bs.map PyData.bool) := DL.toPys_map (fun _ => rfl) bs
  have e : ((bs.map PyData.bool).any fun z => PyData.eqv z (.bool b)) = bs.any fun z => z == b := by
    rw [List.any_map]
    congr 1
  refine ⟨.bool b, bs.map PyData.bool, .inl rfl, .inl (by show (DL.toPys _).map PyData.list = _; rw [hv]; rfl), rfl, sh, ?_⟩
  rw [if_neg (by decide), e]
  exact h
theorem mgT_new : ∀ (ps acc : List (List Key × Dat)), ((acc ++ ps).map (·.1)).Nodup → mgT acc ps = acc ++ ps
  | [], acc, _ => by simp [mgT]
  | p :: ps, acc, h => by
    have hn : (acc.any fun q => decide (q.1 = p.1)) = false := by
      rw [List.any_eq_false]
      intro q hq z
      have z := of_decide_eq_true z
      rw [List.map_append, List.map_cons] at h
      exact (List.nodup_append.mp h).2.2 q.1 (List.mem_map.mpr ⟨q, hq, rfl⟩) p.1 (by simp) z
    have e : pt acc p.1 p.2 = acc ++ [p] := by
      unfold DL.pt
      rw [hn]; rfl
    show mgT (pt acc p.1 p.2) ps = _
    rw [e, mgT_new ps (acc ++ [p]) (by simpa using h)]
    simp
theorem ne_tb {p : Pt} {n k : Int} {R a b : Nat} {m : Mu} {F : KD} (h : F (.bl false) m) : DL.rNe (tbV p n k R a b) (tbV p n k R a b) m F := by
  have key : ∀ A B : Bool, DL.rNe (.tup [.bl A, .bl B]) (.tup [.bl A, .bl B]) m F := fun A B => by
    have sh2 : ∀ a b : Bool, SeqAt.shaped (.tuple [.bool a, .bool b]) = true := by decide +kernel
    refine DL.p_neD (p := .tuple [.bool A, .bool B]) (q := .tuple [.bool A, .bool B]) rfl (.inl rfl) (.inl rfl) (sh2 A B) (sh2 A B) ?_
    rw [SeqAt.eqv_refl _ rfl]
    exact h
  exact key _ _
def S1 (p : Pt) (J : Nat) (done : List Nat) (a b : Nat) : Prop := ∃ i ∈ done, ∃ j, j < J ∧ clN p i = a ∧ clN p j = b
def S2 (p : Pt) (J : Nat) (done : List Nat) (i : Nat) (dn : List Nat) (a b : Nat) : Prop := S1 p J done a b ∨ ∃ j ∈ dn, clN p i = a ∧ clN p j = b
theorem told_cls {L : Nat} {p : Pt} (h : p.Ok L) {n k c : Int} (n1 : 1 ≤ n) (k1 : 1 ≤ k) (i j : Nat) :
    Dat.tup [.bl (((List.range c.toNat).map fun r : Nat => p.tell (numN (r : Int) (i : Int) (j : Int) n k)).any fun z => z == true), .bl (((List.range c.toNat).map fun r : Nat => p.tell (numN (r : Int) (i : Int) (j : Int) n k)).any fun z => z == false)] = tbV p n k (many p c) (clN p i) (clN p j) := by
  show _ = Dat.tup [.bl ((List.range (many p c)).any fun r : Nat => p.tell (numN (r : Int) ((clN p i : Nat) : Int) ((clN p j : Nat) : Int) n k)), .bl ((List.range (many p c)).any fun r : Nat => !p.tell (numN (r : Int) ((clN p i : Nat) : Int) ((clN p j : Nat) : Int) n k))]
  rw [clN_eq h, clN_eq h, List.any_map, List.any_map]
  have e1 := any_cls (c := c) h n1 k1 (i := (i : Int)) (j := (j : Int)) (by omega) (by omega) (fun z => z == true)
  have e2 := any_cls (c := c) h n1 k1 (i := (i : Int)) (j := (j : Int)) (by omega) (by omega) (fun z => z == false)
  have g1 : ∀ z : Bool, (z == true) = z := by decide
  have g2 : ∀ z : Bool, (z == false) = !z := by decide
  simp only [g1, g2] at e1 e2
  have f1 : ((fun z => z == true) ∘ fun r : Nat => p.tell (numN (r : Int) (i : Int) (j : Int) n k)) = fun r : Nat => p.tell (numN (r : Int) (i : Int) (j : Int) n k) := by funext r; exact g1 _
  have f2 : ((fun z => z == false) ∘ fun r : Nat => p.tell (numN (r : Int) (i : Int) (j : Int) n k)) = fun r : Nat => !p.tell (numN (r : Int) (i : Int) (j : Int) n k) := by funext r; exact g2 _
  rw [f1, f2, e1, e2]
theorem ok_l_due (T : Txt K mg) : DF P wd K mg base CX0 40 T.f_l_due ["_law_parts_here", "_law_reach_here", "_law_numbers"] spDue42 :=
  dfxB T.a_l_due sc_l_due (fun ds m F Z h => h.1) fun cdv A outer s H E ds m G Z hr hgd hB h => ⟨_, (dss_cons (ds_asg (dv 2) (dg_seq (n := 3) rfl (dgs_cons (dg_name (i := 3) sc_l_due.nd rfl (Or.inr rfl)) (dgs_cons (dg_name (i := 4) sc_l_due.nd rfl (Or.inr rfl)) (dgs_cons (dg_name (i := 5) sc_l_due.nd rfl (Or.inl rfl)) dgs_nil)))))
    (dss_cons (ds_set (i := 6) sc_l_due.nd rfl (Or.inr rfl) de_newT)
    (dss_cons (ds_for PassesOwn.never rfl (di_rng1 (by rfl) T.z_range (da_cons (dv 3) da_nil)) (dg_name (i := 7) sc_l_due.nd rfl (Or.inr rfl))
      (dss_one (ds_for PassesOwn.never rfl (di_rng1 (by rfl) T.z_range (da_cons (dv 4) da_nil)) (dg_name (i := 8) sc_l_due.nd rfl (Or.inr rfl))
      (dss_cons (ds_setLc (i := 9) rfl sc_l_due.nd rfl rfl (sw_true rfl rfl rfl (by decide +kernel)) (di_rng1 (by rfl) T.z_range (da_cons (dv 5) da_nil)) (blkOk_by (own := [("_law_r", 12)]) (N := n_l_due) (sc := defScope s_l_due) (by first | decide +kernel | kernel_rfl)) (fun _ _ _ _ _ => (dg_name (i := 12) sc_l_due.nd rfl (Or.inl rfl))) (fun _ _ _ _ _ => dts_nil) (fun _ _ _ _ _ => (de_call (ok_l_truth T 24) (hr.mono (by decide)) hgd (by rfl) T.a_l_truth.gl (da_cons (dv 0) (da_cons (dv 12) (da_cons (dv 7) (da_cons (dv 8) (da_cons (dv 3) (da_cons (dv 4) da_nil)))))))))
    (dss_cons (ds_set (i := 10) sc_l_due.nd rfl (Or.inl rfl) (de_tup (da_cons (de_call (ok_l_class T) (hr.mono (by decide)) hgd (by rfl) T.a_l_class.gl (da_cons (dv 1) (da_cons (dv 7) da_nil))) (da_cons (de_call (ok_l_class T) (hr.mono (by decide)) hgd (by rfl) T.a_l_class.gl (da_cons (dv 1) (da_cons (dv 8) da_nil))) da_nil))))
    (dss_cons (ds_set (i := 11) sc_l_due.nd rfl (Or.inl rfl) (de_tup (da_cons (de_cmp (o_inDD (units65 hr)) de_bl (dv 9) (by rfl)) (da_cons (de_cmp (o_inDD (units65 hr)) de_bl (dv 9) (by rfl)) da_nil))))
    (dss_cons (ds_if (dt_cmp (o_ne hr.units) (de_get2D hr.units (dv 6) (dv 10) (dv 11)) (dv 11) (by rfl))
      (dss_one (ds_ret de_non))
      dss_nil)
    (dss_one (ds_putD hr.units (dv 6) (dv 10) (dv 11))))))))))
    (dss_one (ds_ret (de_callTy (c_dictPT rfl hr.units) (by rfl) T.z_dict (by decide +kernel) (da_cons (de_lc rfl sc_l_due.nd (di_any (de_callB (c_sortDT (D := 2) (B := 64) (by decide) rfl) (by rfl) T.z_sorted (by decide +kernel) (da_cons (dv 6) da_nil))) (blkOk_by (own := [("_law_key", 10)]) (N := n_l_due) (sc := defScope s_l_due) (by first | decide +kernel | kernel_rfl)) (fun _ _ _ _ _ => (dg_name (i := 10) sc_l_due.nd rfl (Or.inl rfl))) (fun _ _ _ _ _ => dts_nil) (fun _ _ _ _ _ => (de_tup (da_cons (dv 10) (da_cons (de_getD hr.units (dv 6) (dv 10)) da_nil))))) da_nil))))))), by
    rcases h with ⟨hlen, h⟩
    obtain ⟨p, L, n, k, c, d, rfl, hd, hp, n1, n2, k1, k2, c1, c2, h7, h⟩ := h
    have hP := (per_pos hp.ok.ok).1
    have lenD' : ∀ {S : Nat → Nat → Prop} {D : List (List Key × Dat)}, Fd p n k (many p c) S D → D.length ≤ 49 := fun {S D} hD => by
      have b1 : many p n ≤ 7 := by unfold many; omega
      have b2 : many p k ≤ 7 := by unfold many; omega
      have b3 : many p n * many p k ≤ 7 * 7 := Nat.mul_le_mul b1 b2
      exact Nat.le_trans (hD.short) b3
    rw [st_l_due]
    repeat' decreasing_trivial_pre_omega
    refine ⟨[.int n, .int k, .int c], by rcases hd with rfl | rfl <;> first | exact .inr rfl | exact .inl rfl, rfl, ?_⟩
    repeat' decreasing_trivial_pre_omega
    intro f hf
    repeat' decreasing_trivial_pre_omega
    refine p_rng1 ?_
    repeat' decreasing_trivial_pre_omega
    refine ⟨n, rfl, by omega, by omega, ?_⟩
    show dloop _ _ _ _ (DL.rangeD 0 n.toNat) _ _
    rw [rangeD0 n.toNat]
    refine loop_map (fun i : Nat => Dat.int (i : Int)) (fun done r' m' => ∃ D o7 o8 o9 o10 o11 o12, Fd p n k (many p c) (S1 p k.toNat done) D ∧ r' = [some p.dat, some (Dat.tup [Dat.int ↑p.lead, Dat.int ↑p.per]), some d, some (.int n), some (.int k), some (.int c), some (.ref f), o7, o8, o9, o10, o11, o12] ∧ m' = m.set f (.dcT D)) (fun r' m' ⟨D, o7, o8, o9, o10, o11, o12, hD, hr, hm'⟩ => ?_) (fun i done rest hsplit r' m' ⟨D, o7, o8, o9, o10, o11, o12, hD, hr, hm'⟩ next => ?_) ⟨[], none, none, none, none, none, none, ⟨.nil, (fun e he => nomatch he), fun a b ⟨_, q, _⟩ => nomatch q⟩, rfl, rfl⟩
    · rw [hr, hm']
      refine ⟨trivial, ?_⟩
      repeat' decreasing_trivial_pre_omega
      have perm := hD.perm (fun a b ha hb => ⟨a, List.mem_range.mpr (by have := (clN_id hp.ok.ok ha).2; omega), b, by have := (clN_id hp.ok.ok hb).2; omega, (clN_id hp.ok.ok ha).1, (clN_id hp.ok.ok hb).1⟩) (by unfold many; omega)
      have bN : many p n ≤ 7 := by unfold many; omega
      have bK : many p k ≤ 7 := by unfold many; omega
      have bNK : many p n * many p k ≤ 7 * 7 := Nat.mul_le_mul bN bK
      have lenT : (tbL p n k (many p c) (many p n) (many p k)).length ≤ 49 := by
        rw [← tb_ccL, List.length_map]
        show (((List.range (many p n)).map (ccR p n k (many p c) (many p k))).flatten).length ≤ _
        rw [ccR_len, List.length_range]; exact bNK
      have lenD : D.length ≤ 49 := by rw [perm.length_eq]; exact lenT
      refine ⟨_, D, D.map fun e => e.1.map kInt, rfl, dTs_ref (DL.Mu.set_same ..), ?_, by rw [List.length_map]; omega, fun ns hns => ?_, fun out ho hs => ?_⟩
      · rw [List.map_map]
        apply List.map_congr_left
        intro e he
        obtain ⟨a, b, _, _, _, rfl⟩ := hD.it e he
        rfl
      · obtain ⟨e, he, rfl⟩ := List.mem_map.mp hns
        obtain ⟨a, b, ha, hb, _, rfl⟩ := hD.it e he
        refine ⟨rfl, fun x hx => ?_⟩
        rcases List.mem_cons.mp hx with rfl | hx
        · show (0 : Int) ≤ (a : Int) ∧ (a : Int) < 64
          omega
        · rw [List.mem_singleton.mp hx]
          show (0 : Int) ≤ (b : Int) ∧ (b : Int) < 64
          omega
      have ho2 : out = rowK (many p n) (many p k) := row_sort (by omega) (ho.trans (by rw [← tbL_keys p n k (many p c)]; exact perm.map _)) hs
      have ho3 : out.map tupI = (tbL p n k (many p c) (many p n) (many p k)).map fun e => datT e.1 := by
        rw [ho2, ← tbL_keys p n k (many p c), List.map_map]
        apply List.map_congr_left
        intro e he
        obtain ⟨a, b, _, _, rfl⟩ := tbL_mem.mp he
        rfl
      rw [ho3]
      have hmem : ∀ e ∈ tbL p n k (many p c) (many p n) (many p k), lk D e.1 = some e.2 := fun e he => lk_pw hD.pw e (perm.symm.subset he)
      have hpw := tbL_pw p n k (many p c) (I := many p n) (J := many p k) (by omega)
      have hfin : ∀ q, (m.set f (.dcT D)) q = none → G (.ref q) ((m.set f (.dcT D)).set q (.dcT (tbL p n k (many p c) (many p n) (many p k)))) := fun q hq => h q _ f hf hq
      have htk : ∀ e ∈ tbL p n k (many p c) (many p n) (many p k), tkeyD (datT e.1) = some e.1 := fun e he => by
        obtain ⟨a, b, _, _, rfl⟩ := tbL_mem.mp he
        rfl
      generalize tbL p n k (many p c) (many p n) (many p k) = B at lenT hmem hpw hfin htk ⊢
      repeat' decreasing_trivial_pre_omega
      refine ⟨by rw [sizeLine_eq]; show (B.map fun e => datT e.1).length < 16777216; rw [List.length_map]; omega, ?_⟩
      refine dcomp_map (gd := DL.gTrue) (fun e : List Key × Dat => datT e.1) (fun e => Dat.tup [datT e.1, e.2]) trivial _ [] (fun e he kk hkk => ?_) ?_
      · repeat' decreasing_trivial_pre_omega
        refine p_getT1 (dTs_ref (DL.Mu.set_same ..)) (htk e he) (hmem e he) ?_
        repeat' decreasing_trivial_pre_omega
        exact hkk
      · rw [List.nil_append]
        repeat' decreasing_trivial_pre_omega
        refine ⟨_, B, rfl, rfl, fun q hq => ?_⟩
        rw [mgT_new _ [] (by rw [List.nil_append]; rw [List.nodup_iff_pairwise_ne, List.pairwise_map]; exact hpw), List.nil_append]
        exact hfin q hq
    · subst hr hm'
      have hi : i < n.toNat := List.mem_range.mp (by rw [hsplit]; simp)
      refine loop_c' trivial ?_
      repeat' decreasing_trivial_pre_omega
      refine p_rng1 ?_
      repeat' decreasing_trivial_pre_omega
      refine ⟨k, rfl, by omega, by omega, ?_⟩
      show dloop _ _ _ _ (DL.rangeD 0 k.toNat) _ _
      rw [rangeD0 k.toNat]
      refine loop_map (fun j : Nat => Dat.int (j : Int)) (fun dn r' m' => ∃ D o8 o9 o10 o11 o12, Fd p n k (many p c) (S2 p k.toNat done i dn) D ∧ r' = [some p.dat, some (Dat.tup [Dat.int ↑p.lead, Dat.int ↑p.per]), some d, some (.int n), some (.int k), some (.int c), some (.ref f), some (.int (i : Int)), o8, o9, o10, o11, o12] ∧ m' = m.set f (.dcT D)) (fun r' m' ⟨D', p8, p9, p10, p11, p12, hD', hr, hm'⟩ => ?_) (fun j dn rest2 hsplit2 r' m' ⟨D', p8, p9, p10, p11, p12, hD', hr, hm'⟩ next2 => ?_) ⟨D, o8, o9, o10, o11, o12, hD.congr fun a b => ⟨.inl, fun q => q.elim id fun ⟨_, q, _⟩ => nomatch q⟩, rfl, rfl⟩
      · rw [hr, hm']
        refine ⟨trivial, ?_⟩
        repeat' decreasing_trivial_pre_omega
        refine next _ _ ⟨D', _, _, _, _, _, _, hD'.congr fun a b => ?_, rfl, rfl⟩
        constructor
        · rintro (⟨x, hx, y, hy, e1, e2⟩ | ⟨y, hy, e1, e2⟩)
          · exact ⟨x, List.mem_append_left _ hx, y, hy, e1, e2⟩
          · exact ⟨i, by simp, y, List.mem_range.mp hy, e1, e2⟩
        · rintro ⟨x, hx, y, hy, e1, e2⟩
          rcases List.mem_append.mp hx with hx | hx
          · exact .inl ⟨x, hx, y, hy, e1, e2⟩
          · rw [List.mem_singleton.mp hx] at e1
            exact .inr ⟨y, List.mem_range.mpr hy, e1, e2⟩
      · subst hr hm'
        have hj : j < k.toNat := List.mem_range.mp (by rw [hsplit2]; simp)
        have ci := clN_lt hp.ok.ok (x := i) (n := n) (by omega)
        have cj := clN_lt hp.ok.ok (x := j) (n := k) (by omega)
        obtain ⟨st1, st2⟩ := hD'.step ci cj
        refine loop_c' trivial ?_
        repeat' decreasing_trivial_pre_omega
        refine p_rng1 ?_
        repeat' decreasing_trivial_pre_omega
        refine ⟨c, rfl, by omega, by omega, ?_⟩
        show _ ∧ dcomp _ _ _ _ _ _ (DL.rangeD 0 c.toNat) _ _
        rw [rangeD0 c.toNat]
        refine ⟨by show ((List.range c.toNat).map fun r : Nat => Dat.int (r : Int)).length < sizeLine; rw [List.length_map, List.length_range, sizeLine_eq]; omega, ?_⟩
        refine dcomp_map (gd := DL.gTrue) (fun r : Nat => Dat.int (r : Int)) (fun r : Nat => Dat.bl (p.tell (numN (r : Int) (i : Int) (j : Int) n k))) trivial _ [] (fun r hr' kk hkk => ?_) ?_
        · have hr' := List.mem_range.mp hr'
          repeat' decreasing_trivial_pre_omega
          refine ⟨rfl, p, L, _, _, _, n, k, rfl, hp.ok.ok, by have := hp.ok.dp; omega, ⟨.of (by omega) (by omega), .of (by omega) (by omega), .of (by omega) (by omega), .of (by omega) (by omega), .of (by omega) (by omega)⟩, ?_⟩
          exact hkk
        rw [List.nil_append, show ((List.range c.toNat).map fun r : Nat => Dat.bl (p.tell (numN (r : Int) (i : Int) (j : Int) n k))) = ((List.range c.toNat).map fun r : Nat => p.tell (numN (r : Int) (i : Int) (j : Int) n k)).map Dat.bl by rw [List.map_map]; rfl]
        have hl : ((List.range c.toNat).map fun r : Nat => p.tell (numN (r : Int) (i : Int) (j : Int) n k)).length ≤ 100 := by rw [List.length_map, List.length_range]; omega
        have told := told_cls hp.ok.ok (c := c) n1 k1 i j
        generalize ((List.range c.toNat).map fun r : Nat => p.tell (numN (r : Int) (i : Int) (j : Int) n k)) = bs at hl told ⊢
        repeat' decreasing_trivial_pre_omega
        refine ⟨rfl, p.lead, p.per, _, rfl, hP, ?_⟩
        repeat' decreasing_trivial_pre_omega
        refine ⟨rfl, p.lead, p.per, _, rfl, hP, ?_⟩
        rw [← clN_eq hp.ok.ok i, ← clN_eq hp.ok.ok j]
        repeat' decreasing_trivial_pre_omega
        refine p_inB hl ?_
        repeat' decreasing_trivial_pre_omega
        refine p_inB hl ?_
        repeat' decreasing_trivial_pre_omega
        rw [told]
        refine p_get2T' (y := tbV p n k (many p c) (clN p i) (clN p j)) (dTs_ref (DL.Mu.set_same ..)) (ks := [.inl ((clN p i : Nat) : Int), .inl ((clN p j : Nat) : Int)]) rfl (by rcases st1 with e | e <;> rw [e] <;> rfl) ?_
        repeat' decreasing_trivial_pre_omega
        refine ne_tb ?_
        repeat' decreasing_trivial_pre_omega
        refine p_putT1 (DL.Mu.set_same ..) (ks := [.inl ((clN p i : Nat) : Int), .inl ((clN p j : Nat) : Int)]) rfl ?_ ?_
        · have := lenD' hD'
          rw [sizeLine_eq]; omega
        rw [DL.Mu.set_set]
        repeat' decreasing_trivial_pre_omega
        refine next2 _ _ ⟨_, _, _, _, _, _, st2.congr fun a b => ?_, rfl, rfl⟩
        constructor
        · rintro ((hs | ⟨y, hy, e1, e2⟩) | ⟨rfl, rfl⟩)
          · exact .inl hs
          · exact .inr ⟨y, List.mem_append_left _ hy, e1, e2⟩
          · exact .inr ⟨j, by simp, rfl, rfl⟩
        · rintro (hs | ⟨y, hy, e1, e2⟩)
          · exact .inl (.inl hs)
          · rcases List.mem_append.mp hy with hy | hy
            · exact .inl (.inr ⟨y, hy, e1, e2⟩)
            · rw [List.mem_singleton.mp hy] at e2
              exact .inr ⟨e1.symm, e2.symm⟩⟩


end
section
local macro_rules | `(tactic| decreasing_trivial_pre_omega) => `(tactic| with_reducible first | (apply p_iaddR'; (· rw [sizeLine_eq]; exact Nat.le_of_ble_eq_true (by with_unfolding_all rfl))) | fail "no")
local macro_rules | `(tactic| decreasing_trivial_pre_omega) => `(tactic| with_reducible first | (apply u_keys; (· with_unfolding_all rfl)) | fail "no")
local macro_rules | `(tactic| decreasing_trivial_pre_omega) => `(tactic| with_reducible first | (apply u_key; (· with_unfolding_all rfl)) | fail "no")
local macro_rules | `(tactic| decreasing_trivial_pre_omega) => `(tactic| with_reducible first | (apply p_addS'; (· first | decide | omega); (· first | decide | omega | exact Nat.le_trans (len_mulN 1000 (by omega)) (by decide))) | fail "no")
local macro_rules | `(tactic| decreasing_trivial_pre_omega) => `(tactic| with_reducible first | (apply p_mulS'; (· decide); (· omega); (· omega)) | fail "no")
local macro_rules | `(tactic| decreasing_trivial_pre_omega) => `(tactic| with_reducible first | (apply c_take; (· first | assumption | (rw [DL.Mu.set_ne _ _ (by assumption)]; first | exact DL.Mu.set_same _ _ _ | assumption)); (· assumption); (· first | decide | exact len_pos (by with_unfolding_all rfl) | omega); (· first | decide | exact len_log (by with_unfolding_all rfl) (by with_unfolding_all rfl) | exact log_small (by omega) (by omega)); intro _ _ _ _ _) | fail "no")
local macro_rules | `(tactic| decreasing_trivial_pre_omega) => `(tactic| with_reducible first | (apply c_take'; (· assumption); (· first | decide | exact len_pos (by with_unfolding_all rfl) | omega); (· first | decide | exact len_log (by with_unfolding_all rfl) (by with_unfolding_all rfl) | exact log_small (by omega) (by omega)); intro _ _ _ _ _) | fail "no")

local macro_rules | `(tactic| decreasing_trivial_pre_omega) => `(tactic| with_reducible first | (apply p_methO; (· with_unfolding_all rfl)) | fail "no")
local macro_rules | `(tactic| decreasing_trivial_pre_omega) => `(tactic| with_reducible refine p_insO ?_)
local macro_rules | `(tactic| decreasing_trivial_pre_omega) => `(tactic| with_reducible refine p_srcS ?_)
local macro_rules | `(tactic| decreasing_trivial_pre_omega) => `(tactic| with_reducible refine p_srcL ?_)
local macro_rules | `(tactic| decreasing_trivial_pre_omega) => `(tactic| with_reducible refine p_srcT ?_)
local macro_rules | `(tactic| decreasing_trivial_pre_omega) => `(tactic| with_reducible refine u_any ?_)
local macro_rules | `(tactic| decreasing_trivial_pre_omega) => `(tactic| with_reducible refine p_min ?_)
local macro_rules | `(tactic| decreasing_trivial_pre_omega) => `(tactic| with_reducible refine p_max ?_)
local macro_rules | `(tactic| decreasing_trivial_pre_omega) => `(tactic| with_reducible refine p_own1 ?_)
local macro_rules | `(tactic| decreasing_trivial_pre_omega) => `(tactic| with_reducible refine p_own ?_)
local macro_rules | `(tactic| decreasing_trivial_pre_omega) => `(tactic| with_reducible first | (apply p_setF; (· assumption); (· with_unfolding_all exact Nat.le_of_ble_eq_true rfl)) | fail "no")
local macro_rules | `(tactic| decreasing_trivial_pre_omega) => `(tactic| with_reducible first | (apply p_setF'; (· with_unfolding_all exact Nat.le_of_ble_eq_true rfl)) | fail "no")
local macro_rules | `(tactic| decreasing_trivial_pre_omega) => `(tactic| with_reducible refine u_setF ?_)
local macro_rules | `(tactic| decreasing_trivial_pre_omega) => `(tactic| with_reducible refine u_make ?_)
local macro_rules | `(tactic| decreasing_trivial_pre_omega) => `(tactic| with_reducible refine u_meth ?_)
local macro_rules | `(tactic| decreasing_trivial_pre_omega) => `(tactic| with_reducible refine u_prop ?_)
local macro_rules | `(tactic| decreasing_trivial_pre_omega) => `(tactic| with_reducible first | (apply p_fldR; (· first | exact DL.Mu.set_same _ _ _ | assumption); (· with_unfolding_all rfl)) | fail "no")
local macro_rules | `(tactic| decreasing_trivial_pre_omega) => `(tactic| with_reducible first | (apply p_fldO; (· with_unfolding_all rfl)) | fail "no")
local macro_rules | `(tactic| decreasing_trivial_pre_omega) => `(tactic| with_reducible refine u_fld ?_)
local macro_rules | `(tactic| decreasing_trivial_pre_omega) => `(tactic| with_reducible refine u_callI ?_)
local macro_rules | `(tactic| decreasing_trivial_pre_omega) => `(tactic| with_reducible refine p_isiO ?_)
local macro_rules | `(tactic| decreasing_trivial_pre_omega) => `(tactic| with_reducible refine u_isiO ?_)
local macro_rules | `(tactic| decreasing_trivial_pre_omega) => `(tactic| with_reducible refine p_dgn ?_)
local macro_rules | `(tactic| decreasing_trivial_pre_omega) => `(tactic| with_reducible refine p_dgc ?_)
local macro_rules | `(tactic| decreasing_trivial_pre_omega) => `(tactic| with_reducible first | (apply p_dgL; (· with_unfolding_all rfl)) | fail "no")
local macro_rules | `(tactic| decreasing_trivial_pre_omega) => `(tactic| with_reducible first | (apply p_dgT; (· with_unfolding_all rfl)) | fail "no")
local macro_rules | `(tactic| decreasing_trivial_pre_omega) => `(tactic| with_reducible refine p_par ?_)
local macro_rules | `(tactic| decreasing_trivial_pre_omega) => `(tactic| with_reducible refine p_ends ?_)
local macro_rules | `(tactic| decreasing_trivial_pre_omega) => `(tactic| with_reducible refine u_for ?_)
local macro_rules | `(tactic| decreasing_trivial_pre_omega) => `(tactic| with_reducible first | (apply p_mulS'; (· omega); (· omega); (· omega)) | fail "no")
local macro_rules | `(tactic| decreasing_trivial_pre_omega) => `(tactic| with_reducible first | (apply p_fdiv; (· omega); (· exact log_small (by omega) (by omega))) | fail "no")

local macro_rules | `(tactic| decreasing_trivial_pre_omega) => `(tactic| with_reducible first | (apply p_putK1; (· first | exact DL.Mu.set_same .. | assumption); (· with_unfolding_all rfl); (· rw [sizeLine_eq]; exact Nat.lt_of_succ_le (Nat.le_of_ble_eq_true (by with_unfolding_all rfl)))) | fail "no")
local macro_rules | `(tactic| decreasing_trivial_pre_omega) => `(tactic| with_reducible first | (apply p_getK1; (· first | exact dKs_ref (DL.Mu.set_same ..) | exact dKs_ref (by assumption)); (· with_unfolding_all rfl); (· with_unfolding_all rfl)) | fail "no")
local macro_rules | `(tactic| decreasing_trivial_pre_omega) => `(tactic| with_reducible refine p_keysK ?_)
local macro_rules | `(tactic| decreasing_trivial_pre_omega) => `(tactic| with_reducible refine p_keysT ?_)
local macro_rules | `(tactic| decreasing_trivial_pre_omega) => `(tactic| with_reducible refine p_revL ?_)
local macro_rules | `(tactic| decreasing_trivial_pre_omega) => `(tactic| with_reducible refine p_enumL ?_)
local macro_rules | `(tactic| decreasing_trivial_pre_omega) => `(tactic| with_reducible refine p_neI ?_)
local macro_rules | `(tactic| decreasing_trivial_pre_omega) => `(tactic| with_reducible refine u_pnil ?_)
local macro_rules | `(tactic| decreasing_trivial_pre_omega) => `(tactic| with_reducible refine u_pcons ?_)
local macro_rules | `(tactic| decreasing_trivial_pre_omega) => `(tactic| with_reducible refine u_dictMK ?_)
local macro_rules | `(tactic| decreasing_trivial_pre_omega) => `(tactic| with_reducible refine p_par3 ?_)
local macro_rules | `(tactic| decreasing_trivial_pre_omega) => `(tactic| with_reducible refine u_par3 ?_)
local macro_rules | `(tactic| decreasing_trivial_pre_omega) => `(tactic| with_reducible refine u_sortSetTM ?_)
local macro_rules | `(tactic| decreasing_trivial_pre_omega) => `(tactic| with_reducible refine u_sortSetT ?_)
local macro_rules | `(tactic| decreasing_trivial_pre_omega) => `(tactic| with_reducible refine u_enum ?_)
local macro_rules | `(tactic| decreasing_trivial_pre_omega) => `(tactic| with_reducible refine u_revL ?_)
local macro_rules | `(tactic| decreasing_trivial_pre_omega) => `(tactic| with_reducible refine u_dkeys ?_)
local macro_rules | `(tactic| decreasing_trivial_pre_omega) => `(tactic| with_reducible refine u_frz ?_)
local macro_rules | `(tactic| decreasing_trivial_pre_omega) => `(tactic| with_reducible refine u_putD ?_)
local macro_rules | `(tactic| decreasing_trivial_pre_omega) => `(tactic| with_reducible refine u_getD ?_)
local macro_rules | `(tactic| decreasing_trivial_pre_omega) => `(tactic| with_reducible refine u_ninD ?_)
local macro_rules | `(tactic| decreasing_trivial_pre_omega) => `(tactic| with_reducible refine u_inD ?_)
local macro_rules | `(tactic| decreasing_trivial_pre_omega) => `(tactic| with_reducible refine u_newT ?_)
local macro_rules | `(tactic| decreasing_trivial_pre_omega) => `(tactic| with_reducible refine u_newK ?_)
local macro_rules | `(tactic| decreasing_trivial_pre_omega) => `(tactic| with_reducible refine u_lcM ?_)
local macro_rules | `(tactic| decreasing_trivial_pre_omega) => `(tactic| with_reducible refine u_lrgM ?_)
local macro_rules | `(tactic| decreasing_trivial_pre_omega) => `(tactic| with_reducible refine u_lrg ?_)

local macro_rules | `(tactic| decreasing_trivial_pre_omega) => `(tactic| with_reducible refine p_itemsT ?_)
local macro_rules | `(tactic| decreasing_trivial_pre_omega) => `(tactic| with_reducible refine u_itemsT ?_)

def k_law : Nat := 45
theorem cut_nx {t : DL.WS} {a : Ro → Mu → Prop} {v : KD} {b c : Ro → Mu → Prop} {r : Ro} {m : Mu} (I : Ro → Mu → Prop) (h1 : ∀ r m, I r m → a r m) (h2 : ∀ nx : Ro → Mu → Prop, (∀ r m, I r m → nx r m) → t ⟨nx, v, b, c⟩ r m) : t ⟨a, v, b, c⟩ r m := h2 a h1
theorem c_bag {ns : List Int} {m : Mu} {F : KD} {Z : KX} (hl : ns.length ≤ 63) (h : ∀ n c, m n = none → BagC c → F (.ref n) (m.set n c)) : spBag [.scr ns] m F Z := ⟨rfl, ns, rfl, hl, h⟩
theorem tb_ok {p : Pt} {n k : Int} {R : Nat} (h : p.lead + p.per ≤ 7) : TbOk (tbL p n k R (many p n) (many p k)) := by
  have b1 : many p n ≤ 7 := by unfold many; omega
  have b2 : many p k ≤ 7 := by unfold many; omega
  have b3 : many p n * many p k ≤ 7 * 7 := Nat.mul_le_mul b1 b2
  refine ⟨?_, tbL_pw p n k R (by omega), fun e he => ?_⟩
  · rw [← tb_ccL, List.length_map]
    show (((List.range (many p n)).map (ccR p n k R (many p k))).flatten).length < 64
    rw [ccR_len, List.length_range]; omega
  · obtain ⟨a, b, ha, hb, rfl⟩ := tbL_mem.mp he
    exact ⟨a, b, _, _, by omega, by omega, rfl⟩
/-- a great number's table is its fellow's -/
theorem tb_fellow {L : Nat} {p : Pt} (h : p.Ok L) {n k c : Int} (n1 : 1 ≤ n) (k1 : 1 ≤ k) : tbL p (fellowI p.lead p.per n) (fellowI p.lead p.per k) (many p (min c (p.lead + p.per))) (many p (fellowI p.lead p.per n)) (many p (fellowI p.lead p.per k)) = tbL p n k (many p c) (many p n) (many p k) := by
  have hP := (per_pos h).1
  have m1 : ∀ x : Int, 1 ≤ x → many p (fellowI p.lead p.per x) = many p x := fun x hx => by
    rcases fellow_same (l := p.lead) (x := x) hP with q | ⟨q1, q2, _⟩
    · rw [q]
    · unfold many; omega
  have m2 : many p (min c (p.lead + p.per)) = many p c := by unfold many; omega
  rw [m1 n n1, m1 k k1, m2]
  unfold tbL
  congr 1
  apply List.map_congr_left
  intro i _
  apply List.map_congr_left
  intro j _
  unfold tbE
  have e : ∀ r : Nat, p.tell (numN (r : Int) (i : Int) (j : Int) (fellowI p.lead p.per n) (fellowI p.lead p.per k)) = p.tell (numN (r : Int) (i : Int) (j : Int) n k) := fun r => tell_class (num_fellow (l := p.lead) (P := p.per) hP (by omega) (by omega) (by omega)) (p := p) (words_cls h)
  simp only [e]
theorem ok_law (T : Txt K mg) {fd : FuncData} (F : Fun K "law" "law" s_law T.f_law fd) : DFn P wd K mg base CX0 k_law T.f_law fd ["_law_script"] lawSp :=
  dfnB F sc_law (fun ds m F Z h => by obtain ⟨ns, rfl, _⟩ := h; rfl) fun cdv A outer s H E ds m G Z hr hgd hB h => ⟨_, (dss_cons (ds_set (i := 1) sc_law.nd rfl (Or.inr rfl) (de_call (ok_l_bag T) (hr.mono (by decide)) hgd (by rfl) T.a_l_bag.gl (da_cons (dv 0) da_nil)))
    (dss_cons (ds_for PassesOwn.never rfl (di_rng1 (by rfl) T.z_range (da_cons de_int da_nil)) (dg_name (i := 2) sc_law.nd rfl (Or.inl rfl))
      (dss_cons (ds_set (i := 3) sc_law.nd rfl (Or.inl rfl) (de_call (ok_l_small_parts T) (hr.mono (by decide)) hgd (by rfl) T.a_l_small_parts.gl (da_cons (dv 1) da_nil)))
    (dss_cons (ds_if (dt_cmp (o_eq hr.units) (de_call (ok_l_take T) (hr.mono (by decide)) hgd (by rfl) T.a_l_take.gl (da_cons (dv 1) (da_cons de_int da_nil))) de_int (by rfl))
      (dss_one (ds_set (i := 3) sc_law.nd rfl (Or.inl rfl) (de_call (ok_l_drawn_parts T) (hr.mono (by decide)) hgd (by rfl) T.a_l_drawn_parts.gl (da_cons (dv 1) (da_cons de_int (da_cons (de_lst (da_cons de_int (da_cons de_int da_nil))) da_nil))))))
      dss_nil)
    (dss_cons (ds_par (i := 4) (j := 5) rfl sc_law.nd rfl rfl (by decide) rfl rfl (da_cons (de_stat T.sm_Rule_of (ok_Rule_of T) (hr.mono (by decide)) (by rfl) T.mg_Rule (da_cons (dv 3) da_nil)) (da_cons (de_call (ok_l_reach T) (hr.mono (by decide)) hgd (by rfl) T.a_l_reach.gl (da_cons (dv 3) da_nil)) da_nil)) (by rfl))
    (dss_cons (ds_setLc (i := 6) rfl sc_law.nd rfl rfl (sw_true rfl rfl rfl (by decide +kernel)) (di_any (de_tup (da_cons de_int (da_cons de_int (da_cons de_int da_nil))))) (blkOk_by (own := [("_law_top", 12)]) (N := n_law) (sc := defScope s_law) (by first | decide +kernel | kernel_rfl)) (fun _ _ _ _ _ => (dg_name (i := 12) sc_law.nd rfl (Or.inl rfl))) (fun _ _ _ _ _ => dts_nil) (fun _ _ _ _ _ => (de_op o_add de_int (de_call (ok_l_take T) (hr.mono (by decide)) hgd (by rfl) T.a_l_take.gl (da_cons (dv 1) (da_cons (dv 12) da_nil))))))
    (dss_cons (ds_set (i := 7) sc_law.nd rfl (Or.inl rfl) (de_call (ok_l_due T) (hr.mono (by decide)) hgd (by rfl) T.a_l_due.gl (da_cons (dv 3) (da_cons (dv 5) (da_cons (dv 6) da_nil)))))
    (dss_cons (ds_for PassesOwn.never rfl (di_rng1 (by rfl) T.z_range (da_cons de_int da_nil)) (dg_name (i := 8) sc_law.nd rfl (Or.inl rfl))
      (dss_cons (ds_set (i := 9) sc_law.nd rfl (Or.inl rfl) (de_call (ok_table T).df (hr.mono (by decide)) hgd (by rfl) T.a_table.gl (da_cons (dv 4) (da_cons (de_ix (dv 6) de_int) (da_cons (de_ix (dv 6) de_int) (da_cons (de_ix (dv 6) de_int) da_nil))))))
    (dss_cons (ds_if (dt_not (dt_val (de_call (ok_l_alike T) (hr.mono (by decide)) hgd (by rfl) T.a_l_alike.gl (da_cons (dv 9) (da_cons (dv 7) da_nil)))))
      (dss_one (ds_ret de_bl))
      dss_nil)
    (dss_one (ds_putD hr.units (dv 9) (de_tup (da_cons de_int (da_cons de_int da_nil))) de_non)))))
    (dss_cons (ds_setLc (i := 10) rfl sc_law.nd rfl rfl (sw_true rfl rfl rfl (by decide +kernel)) (di_rng1 (by rfl) T.z_range (da_cons de_int da_nil)) (blkOk_by (own := [("_law_k", 13)]) (N := n_law) (sc := defScope s_law) (by first | decide +kernel | kernel_rfl)) (fun _ _ _ _ _ => (dg_name (i := 13) sc_law.nd rfl (Or.inl rfl))) (fun _ _ _ _ _ => dts_nil) (fun _ _ _ _ _ => (de_op o_add de_int (de_call (ok_l_long T) (hr.mono (by decide)) hgd (by rfl) T.a_l_long.gl (da_cons (dv 1) da_nil)))))
    (dss_cons (ds_set (i := 11) sc_law.nd rfl (Or.inl rfl) (de_call (ok_fellow T).df (hr.mono (by decide)) hgd (by rfl) T.a_fellow.gl (da_cons (dv 4) (da_cons (de_ix (dv 10) de_int) (da_cons (de_ix (dv 10) de_int) (da_cons (de_ix (dv 10) de_int) da_nil))))))
    (dss_cons (ds_set (i := 9) sc_law.nd rfl (Or.inl rfl) (de_call (ok_table T).df (hr.mono (by decide)) hgd (by rfl) T.a_table.gl (da_cons (dv 4) (da_cons (de_ix (dv 10) de_int) (da_cons (de_ix (dv 10) de_int) (da_cons (de_ix (dv 10) de_int) da_nil))))))
    (dss_cons (ds_if (dt_not (dt_val (de_call (ok_l_alike T) (hr.mono (by decide)) hgd (by rfl) T.a_l_alike.gl (da_cons (dv 9) (da_cons (de_call (ok_table T).df (hr.mono (by decide)) hgd (by rfl) T.a_table.gl (da_cons (dv 4) (da_cons (de_ix (dv 11) de_int) (da_cons (de_ix (dv 11) de_int) (da_cons (de_ix (dv 11) de_int) da_nil))))) da_nil)))))
      (dss_one (ds_ret de_bl))
      dss_nil)
    (dss_one (ds_if (dt_not (dt_val (de_call (ok_l_alike T) (hr.mono (by decide)) hgd (by rfl) T.a_l_alike.gl (da_cons (dv 9) (da_cons (de_call (ok_l_due T) (hr.mono (by decide)) hgd (by rfl) T.a_l_due.gl (da_cons (dv 3) (da_cons (dv 5) (da_cons (dv 11) da_nil)))) da_nil)))))
      (dss_one (ds_ret de_bl))
      dss_nil)))))))))))))
    (dss_one (ds_ret de_bl)))), by
    obtain ⟨ns, rfl, hl, h0, h⟩ := h
    rw [st_law]
    repeat' decreasing_trivial_pre_omega
    refine c_bag hl fun n c hn hc => ?_
    repeat' decreasing_trivial_pre_omega
    refine p_rng1 ?_
    repeat' decreasing_trivial_pre_omega
    refine ⟨3, rfl, by decide, by decide, ?_⟩
    refine loop_ind' (fun xs r m => ∃ o2 o3 o4 o5 o6 o7 o8 o9 o10 o11 o12 o13, r = [some (.scr ns), some (.ref n), o2, o3, o4, o5, o6, o7, o8, o9, o10, o11, o12, o13] ∧ BagAt m n) ?_ ?_ _ _ _ ⟨_, _, _, _, _, _, _, _, _, _, _, _, rfl, bagAt_set hc⟩
    · rintro r m ⟨o2, o3, o4, o5, o6, o7, o8, o9, o10, o11, o12, o13, rfl, hb⟩
      refine ⟨trivial, ?_⟩
      repeat' decreasing_trivial_pre_omega
      exact h _
    · rintro x xs r m ⟨o2, o3, o4, o5, o6, o7, o8, o9, o10, o11, o12, o13, rfl, c', hm, hc'⟩ ih
      refine loop_c' trivial ?_
      repeat' decreasing_trivial_pre_omega
      refine ⟨rfl, n, c', rfl, hm, hc', fun p0 c1 L0 l0 l1 a1 a2 a3 a4 hc1 => ?_⟩
      repeat' (with_reducible first | refine u_name ?_ | refine u_seq' ?_)
      refine cut_nx (fun r' m' => ∃ (p : Pt) (L : Nat) (c2 : Cell), p.Ok L ∧ 1 ≤ L ∧ L ≤ 6 ∧ p.lead + p.per ≤ 7 ∧ p.Sm 20 100 ∧ p.dp ≤ 6 ∧ p.words.length ≤ 4 ∧ BagC c2 ∧ m' = m.set n c2 ∧ r' = [some (.scr ns), some (.ref n), some x, some p.dat, o4, o5, o6, o7, o8, o9, o10, o11, o12, o13]) ?_ ?_
      · rintro r' m' ⟨p, L, c2, hp, hL0, hL, h7, hps, hpd, hpw, hc2, rfl, rfl⟩
        have hP : POk L p := ⟨hp, by omega, by omega, by omega, by omega⟩
        have hS : PSm L p := ⟨hP, fun w hw => ⟨Nat.le_trans (hps w hw).1 (by decide), Nat.le_trans (hps w hw).2 (by decide)⟩, by omega⟩
        repeat' decreasing_trivial_pre_omega
        refine ⟨rfl, p, L, rfl, hP, ?_⟩
        repeat' decreasing_trivial_pre_omega
        refine ⟨rfl, p, L, rfl, hP, by omega, ?_⟩
        repeat' decreasing_trivial_pre_omega
        refine ⟨by rw [sizeLine_eq]; exact (by decide : 3 < 16777216), ?_⟩
        refine comp_c trivial ?_
        repeat' decreasing_trivial_pre_omega
        refine comp_c trivial ?_
        repeat' decreasing_trivial_pre_omega
        refine comp_c trivial ?_
        repeat' decreasing_trivial_pre_omega
        refine ⟨trivial, ?_⟩
        rename_i va ca va0 va1 hca vb cb vb0 vb1 hcb vc cc vc0 vc1 hcc
        repeat' decreasing_trivial_pre_omega
        refine ⟨rfl, p, L, 1 + va, 1 + vb, 1 + vc, _, rfl, .inl rfl, hS, by omega, by omega, by omega, by omega, by omega, by omega, h7, fun q y f hf hq => ?_⟩
        have nf : n ≠ f := fun z => by rw [← z, DL.Mu.set_same] at hf; cases hf
        have nq : n ≠ q := fun z => by rw [← z, DL.Mu.set_ne _ _ nf, DL.Mu.set_same] at hq; cases hq
        have hbag : (((m.set n cc).set f y).set q (.dcT (tbL p (1 + va) (1 + vb) (many p (1 + vc)) (many p (1 + va)) (many p (1 + vb))))) n = some cc := by rw [DL.Mu.set_ne _ _ nq, DL.Mu.set_ne _ _ nf, DL.Mu.set_same]
        have hdue : (((m.set n cc).set f y).set q (.dcT (tbL p (1 + va) (1 + vb) (many p (1 + vc)) (many p (1 + va)) (many p (1 + vb))))) q = some (.dcT (tbL p (1 + va) (1 + vb) (many p (1 + vc)) (many p (1 + va)) (many p (1 + vb)))) := DL.Mu.set_same ..
        generalize ((m.set n cc).set f y).set q (.dcT (tbL p (1 + va) (1 + vb) (many p (1 + vc)) (many p (1 + va)) (many p (1 + vb)))) = M1 at hbag hdue ⊢
        clear nf hf hq
        have tbk := tb_ok (n := 1 + va) (k := 1 + vb) (R := many p (1 + vc)) h7
        have tbl := tbk.len
        repeat' decreasing_trivial_pre_omega
        refine p_rng1 ?_
        repeat' decreasing_trivial_pre_omega
        refine ⟨2, rfl, by decide, by decide, ?_⟩
        refine loop_ind' (fun xs r' m' => (∃ o8 o9, r' = [some (.scr ns), some (.ref n), some x, some p.dat, some (RuleD T.C_Rule p), some (.tup [.int (p.lead : Nat), .int (p.per : Nat)]), some (.lst [.int (1 + va), .int (1 + vb), .int (1 + vc)]), some (.ref q), o8, o9, o10, o11, o12, o13]) ∧ m' n = some cc ∧ m' q = some (.dcT (tbL p (1 + va) (1 + vb) (many p (1 + vc)) (many p (1 + va)) (many p (1 + vb))))) ?_ ?_ _ _ _ ⟨⟨_, _, rfl⟩, hbag, hdue⟩
        · rintro r' m' ⟨⟨o8', o9', rfl⟩, hb', hd'⟩
          refine ⟨trivial, ?_⟩
          repeat' decreasing_trivial_pre_omega
          refine p_rng1 ?_
          repeat' decreasing_trivial_pre_omega
          refine ⟨3, rfl, by decide, by decide, by rw [sizeLine_eq]; exact (by decide : 3 < 16777216), ?_⟩
          refine ints_comp' (fun i => 1 ≤ i ∧ i ≤ 10000000000000000000000000000000000000101) hb' hcc (fun x c' k hb hk => ?_) 3 fun is c4 his hlen hc4 => ?_
          · repeat' decreasing_trivial_pre_omega
            refine ⟨rfl, n, _, rfl, DL.Mu.set_same .., hb, fun w c6 w0 w1 hc6 => ?_⟩
            rw [DL.Mu.set_set]
            repeat' decreasing_trivial_pre_omega
            exact hk _ _ ⟨by omega, by omega⟩ hc6
          obtain ⟨x1, y1, z1, rfl⟩ := len3 hlen
          obtain ⟨x2, x3⟩ := his x1 (by simp)
          obtain ⟨y2, y3⟩ := his y1 (by simp)
          obtain ⟨z2, z3⟩ := his z1 (by simp)
          have hb4 : (m'.set n c4) n = some c4 := DL.Mu.set_same ..
          generalize m'.set n c4 = M2 at hb4 ⊢
          repeat' decreasing_trivial_pre_omega
          have big : ∀ v : Int, 1 ≤ v → v ≤ 10000000000000000000000000000000000000101 → Big v := fun v h1 h2 => .of (by omega) (by omega)
          have hpp := per_pos hp
          have fb : ∀ v : Int, 1 ≤ v → 1 ≤ fellowI p.lead p.per v ∧ fellowI p.lead p.per v ≤ 50 := fun v hv => by
            unfold fellowI
            split
            · omega
            · have := placeI_lt (l := p.lead) (x := v) hpp.1 (by omega)
              omega
          obtain ⟨fx1, fx2⟩ := fb x1 x2
          obtain ⟨fy1, fy2⟩ := fb y1 y2
          have tbg := tb_ok (n := x1) (k := y1) (R := many p z1) h7
          have tf := tb_fellow hp (n := x1) (k := y1) (c := z1) x2 y2
          refine ⟨rfl, p, L, x1, y1, z1, rfl, hP, ?_⟩
          repeat' decreasing_trivial_pre_omega
          refine ⟨rfl, p, L, x1, y1, z1, rfl, hS, x2, y2, z2, big _ x2 x3, big _ y2 y3, fun q3 hq3 => ?_⟩
          have n3 : n ≠ q3 := fun z => by rw [← z, hb4] at hq3; cases hq3
          have hb5 : (M2.set q3 (.dcT (tbL p x1 y1 (many p z1) (many p x1) (many p y1)))) n = some c4 := by rw [DL.Mu.set_ne _ _ n3]; exact hb4
          have hd5 : (M2.set q3 (.dcT (tbL p x1 y1 (many p z1) (many p x1) (many p y1)))) q3 = some (.dcT (tbL p x1 y1 (many p z1) (many p x1) (many p y1))) := DL.Mu.set_same ..
          generalize M2.set q3 (.dcT (tbL p x1 y1 (many p z1) (many p x1) (many p y1))) = M3 at hb5 hd5 ⊢
          repeat' decreasing_trivial_pre_omega
          refine ⟨rfl, p, L, fellowI p.lead p.per x1, fellowI p.lead p.per y1, min z1 (p.lead + p.per), rfl, hS, fx1, fy1, by omega, .of (by omega) (by omega), .of (by omega) (by omega), fun q4 hq4 => ?_⟩
          rw [tf]
          have n4 : n ≠ q4 := fun z => by rw [← z, hb5] at hq4; cases hq4
          have nq4 : q3 ≠ q4 := fun z => by rw [← z, hd5] at hq4; cases hq4
          repeat' decreasing_trivial_pre_omega
          refine ⟨rfl, .ref q3, .ref q4, _, rfl, dTs_ref (by rw [DL.Mu.set_ne _ _ nq4]; exact hd5), dTs_ref (DL.Mu.set_same ..), tbg, ?_⟩
          have hb6 : (M3.set q4 (.dcT (tbL p x1 y1 (many p z1) (many p x1) (many p y1)))) n = some c4 := by rw [DL.Mu.set_ne _ _ n4]; exact hb5
          have hd6 : (M3.set q4 (.dcT (tbL p x1 y1 (many p z1) (many p x1) (many p y1)))) q3 = some (.dcT (tbL p x1 y1 (many p z1) (many p x1) (many p y1))) := by rw [DL.Mu.set_ne _ _ nq4]; exact hd5
          generalize M3.set q4 (.dcT (tbL p x1 y1 (many p z1) (many p x1) (many p y1))) = M4 at hb6 hd6 ⊢
          repeat' decreasing_trivial_pre_omega
          refine ⟨rfl, p, L, fellowI p.lead p.per x1, fellowI p.lead p.per y1, min z1 (p.lead + p.per), _, rfl, .inr rfl, hS, fx1, fx2, fy1, fy2, by omega, by omega, h7, fun q5 y5 f5 hf5 hq5 => ?_⟩
          rw [tf]
          have nf5 : n ≠ f5 := fun z => by rw [← z, hb6] at hf5; cases hf5
          have qf5 : q3 ≠ f5 := fun z => by rw [← z, hd6] at hf5; cases hf5
          have n5 : n ≠ q5 := fun z => by rw [← z, DL.Mu.set_ne _ _ nf5, hb6] at hq5; cases hq5
          have q35 : q3 ≠ q5 := fun z => by rw [← z, DL.Mu.set_ne _ _ qf5, hd6] at hq5; cases hq5
          repeat' decreasing_trivial_pre_omega
          refine ⟨rfl, .ref q3, .ref q5, _, rfl, dTs_ref (by rw [DL.Mu.set_ne _ _ q35, DL.Mu.set_ne _ _ qf5]; exact hd6), dTs_ref (DL.Mu.set_same ..), tbg, ?_⟩
          repeat' decreasing_trivial_pre_omega
          exact ih _ _ ⟨_, _, _, _, _, _, _, _, _, _, _, _, rfl, c4, by rw [DL.Mu.set_ne _ _ n5, DL.Mu.set_ne _ _ nf5]; exact hb6, hc4⟩
        · rintro y' ys r' m' ⟨⟨o8', o9', rfl⟩, hb', hd'⟩ ih2
          refine loop_c' trivial ?_
          repeat' decreasing_trivial_pre_omega
          refine ⟨rfl, p, L, 1 + va, 1 + vb, 1 + vc, rfl, hS, by omega, by omega, by omega, .of (by omega) (by omega), .of (by omega) (by omega), fun q2 hq2 => ?_⟩
          have n2 : n ≠ q2 := fun z => by rw [← z, hb'] at hq2; cases hq2
          have nq2 : q ≠ q2 := fun z => by rw [← z, hd'] at hq2; cases hq2
          repeat' decreasing_trivial_pre_omega
          refine ⟨rfl, .ref q2, .ref q, _, rfl, dTs_ref (DL.Mu.set_same ..), dTs_ref (by rw [DL.Mu.set_ne _ _ nq2]; exact hd'), tbk, ?_⟩
          repeat' decreasing_trivial_pre_omega
          refine p_putT1 (DL.Mu.set_same ..) (ks := [.inl 0, .inl 0]) rfl (by rw [sizeLine_eq]; omega) ?_
          rw [DL.Mu.set_set]
          repeat' decreasing_trivial_pre_omega
          exact ih2 _ _ ⟨⟨_, _, rfl⟩, by rw [DL.Mu.set_ne _ _ n2]; exact hb', by rw [DL.Mu.set_ne _ _ nq2]; exact hd'⟩
      · intro nx hnx
        repeat' decreasing_trivial_pre_omega
        · refine ⟨rfl, n, _, 1, [2, 3], 6, rfl, DL.Mu.set_same .., by assumption, by decide, by decide, by decide, by decide, by decide, fun p c3 b1 b2 b3 b4 _ _ b7 => ?_⟩
          rw [DL.Mu.set_set]
          repeat' decreasing_trivial_pre_omega
          have ll : p.lead ≤ 1 := leadW_le fun w hw => (b2 w hw).1
          have pl : p.per ≤ 6 := Nat.le_of_dvd (by decide) (per_pos b1).2
          exact hnx _ _ ⟨p, 6, c3, b1, by decide, by decide, by omega, fun w hw => ⟨Nat.le_trans (b2 w hw).1 (by decide), (b2 w hw).2⟩, b3, b4, b7, rfl, rfl⟩
        · have ll : p0.lead ≤ 2 := leadW_le fun w hw => (a2 w hw).1
          have pl : p0.per ≤ L0 := Nat.le_of_dvd l0 (per_pos a1).2
          exact hnx _ _ ⟨p0, L0, _, a1, l0, by omega, by omega, fun w hw => ⟨Nat.le_trans (a2 w hw).1 (by decide), (a2 w hw).2⟩, a3, a4, by assumption, rfl, rfl⟩⟩


end
theorem fin {P : Program} {wd : World} {K : PySem.W.Frag} {mg : Str → Option Value} {fa f_law : Addr} (hmg : mg "law" = some (.ref fa))
    (h : ∃ T : Txt K mg, T.f_law = f_law ∧ ∃ fd : FuncData, (∀ (s : Shared) (v : Value), BindsTo s fd ⟨[v], []⟩ [("_law_script", v)]) ∧ Fun K "law" "law" s_law f_law fd) :
    ∃ fd : FuncData, (∀ (s : Shared) (u : Value), BindsTo s fd ⟨[u], []⟩ [("_law_script", u)]) ∧ ∀ base : Heap, K.In base → base.Ns mainGlobals mg → DFn P wd K mg base CX0 k_law fa fd ["_law_script"] lawSp := by
  obtain ⟨T, e, fd, hb, F⟩ := h
  have e2 : fa = T.f_law := by
    have := T.a_law.gl
    rw [hmg] at this
    cases this; rfl
  subst e2
  subst e
  exact ⟨fd, hb, fun base _ _ => ok_law T F⟩
theorem mkT {K : PySem.W.Frag} {h : Heap} {mg : Str → Option Value} {f_is_truth f_are_bits f_is_reader f_are_again f_place_of f_bit_at f_joined f_digit f_first_bits f_bits_from f_joined_word f_are_parts f_inner f_written f_numbers_at f_told f_Rule___init__ f_Rule_of f_Rule_lead f_Rule_period f_Rule_parts f_word_grid f_number_of_grid f_grid f_class_of f_classes f_fellow_number f_fellow f_class_crossings f_table f_l_bag f_l_take f_l_alike f_l_pick f_l_parts f_l_drawn_parts f_l_small_parts f_l_leaves f_l_reach f_l_bit f_l_truth f_l_long f_l_class f_l_due f_law : Addr} (X : K.In h) (G : h.Ns mainGlobals mg)
    {od_is_truth an_is_truth : Option Addr} {sl_is_truth : Array (Option Value)} {oc_is_truth kV_is_truth dc_is_truth pm_is_truth cd_is_truth ct_is_truth : Value}
    {od_are_bits an_are_bits : Option Addr} {sl_are_bits : Array (Option Value)} {oc_are_bits kV_are_bits dc_are_bits pm_are_bits cd_are_bits ct_are_bits : Value}
    {od_is_reader an_is_reader : Option Addr} {sl_is_reader : Array (Option Value)} {oc_is_reader kV_is_reader dc_is_reader pm_is_reader cd_is_reader ct_is_reader : Value}
    {od_are_again an_are_again : Option Addr} {sl_are_again : Array (Option Value)} {oc_are_again kV_are_again dc_are_again pm_are_again cd_are_again ct_are_again : Value}
    {od_place_of an_place_of : Option Addr} {sl_place_of : Array (Option Value)} {oc_place_of kV_place_of dc_place_of pm_place_of cd_place_of ct_place_of : Value}
    {od_bit_at an_bit_at : Option Addr} {sl_bit_at : Array (Option Value)} {oc_bit_at kV_bit_at dc_bit_at pm_bit_at cd_bit_at ct_bit_at : Value}
    {od_joined an_joined : Option Addr} {sl_joined : Array (Option Value)} {oc_joined kV_joined dc_joined pm_joined cd_joined ct_joined : Value}
    {od_digit an_digit : Option Addr} {sl_digit : Array (Option Value)} {oc_digit kV_digit dc_digit pm_digit cd_digit ct_digit : Value}
    {od_first_bits an_first_bits : Option Addr} {sl_first_bits : Array (Option Value)} {oc_first_bits kV_first_bits dc_first_bits pm_first_bits cd_first_bits ct_first_bits : Value}
    {od_bits_from an_bits_from : Option Addr} {sl_bits_from : Array (Option Value)} {oc_bits_from kV_bits_from dc_bits_from pm_bits_from cd_bits_from ct_bits_from : Value}
    {od_joined_word an_joined_word : Option Addr} {sl_joined_word : Array (Option Value)} {oc_joined_word kV_joined_word dc_joined_word pm_joined_word cd_joined_word ct_joined_word : Value}
    {od_are_parts an_are_parts : Option Addr} {sl_are_parts : Array (Option Value)} {oc_are_parts kV_are_parts dc_are_parts pm_are_parts cd_are_parts ct_are_parts : Value}
    {od_inner an_inner : Option Addr} {sl_inner : Array (Option Value)} {oc_inner kV_inner dc_inner pm_inner cd_inner ct_inner : Value}
    {od_written an_written : Option Addr} {sl_written : Array (Option Value)} {oc_written kV_written dc_written pm_written cd_written ct_written : Value}
    {od_numbers_at an_numbers_at : Option Addr} {sl_numbers_at : Array (Option Value)} {oc_numbers_at kV_numbers_at dc_numbers_at pm_numbers_at cd_numbers_at ct_numbers_at : Value}
    {od_told an_told : Option Addr} {sl_told : Array (Option Value)} {oc_told kV_told dc_told pm_told cd_told ct_told : Value}
    {od_Rule___init__ an_Rule___init__ : Option Addr} {sl_Rule___init__ : Array (Option Value)} {oc_Rule___init__ kV_Rule___init__ dc_Rule___init__ pm_Rule___init__ cd_Rule___init__ ct_Rule___init__ : Value}
    {od_Rule_of an_Rule_of : Option Addr} {sl_Rule_of : Array (Option Value)} {oc_Rule_of kV_Rule_of dc_Rule_of pm_Rule_of cd_Rule_of ct_Rule_of : Value}
    {od_Rule_lead an_Rule_lead : Option Addr} {sl_Rule_lead : Array (Option Value)} {oc_Rule_lead kV_Rule_lead dc_Rule_lead pm_Rule_lead cd_Rule_lead ct_Rule_lead : Value}
    {od_Rule_period an_Rule_period : Option Addr} {sl_Rule_period : Array (Option Value)} {oc_Rule_period kV_Rule_period dc_Rule_period pm_Rule_period cd_Rule_period ct_Rule_period : Value}
    {od_Rule_parts an_Rule_parts : Option Addr} {sl_Rule_parts : Array (Option Value)} {oc_Rule_parts kV_Rule_parts dc_Rule_parts pm_Rule_parts cd_Rule_parts ct_Rule_parts : Value}
    {od_word_grid an_word_grid : Option Addr} {sl_word_grid : Array (Option Value)} {oc_word_grid kV_word_grid dc_word_grid pm_word_grid cd_word_grid ct_word_grid : Value}
    {od_number_of_grid an_number_of_grid : Option Addr} {sl_number_of_grid : Array (Option Value)} {oc_number_of_grid kV_number_of_grid dc_number_of_grid pm_number_of_grid cd_number_of_grid ct_number_of_grid : Value}
    {od_grid an_grid : Option Addr} {sl_grid : Array (Option Value)} {oc_grid kV_grid dc_grid pm_grid cd_grid ct_grid : Value}
    {od_class_of an_class_of : Option Addr} {sl_class_of : Array (Option Value)} {oc_class_of kV_class_of dc_class_of pm_class_of cd_class_of ct_class_of : Value}
    {od_classes an_classes : Option Addr} {sl_classes : Array (Option Value)} {oc_classes kV_classes dc_classes pm_classes cd_classes ct_classes : Value}
    {od_fellow_number an_fellow_number : Option Addr} {sl_fellow_number : Array (Option Value)} {oc_fellow_number kV_fellow_number dc_fellow_number pm_fellow_number cd_fellow_number ct_fellow_number : Value}
    {od_fellow an_fellow : Option Addr} {sl_fellow : Array (Option Value)} {oc_fellow kV_fellow dc_fellow pm_fellow cd_fellow ct_fellow : Value}
    {od_class_crossings an_class_crossings : Option Addr} {sl_class_crossings : Array (Option Value)} {oc_class_crossings kV_class_crossings dc_class_crossings pm_class_crossings cd_class_crossings ct_class_crossings : Value}
    {od_table an_table : Option Addr} {sl_table : Array (Option Value)} {oc_table kV_table dc_table pm_table cd_table ct_table : Value}
    {od_l_bag an_l_bag : Option Addr} {sl_l_bag : Array (Option Value)} {oc_l_bag kV_l_bag dc_l_bag pm_l_bag cd_l_bag ct_l_bag : Value}
    {od_l_take an_l_take : Option Addr} {sl_l_take : Array (Option Value)} {oc_l_take kV_l_take dc_l_take pm_l_take cd_l_take ct_l_take : Value}
    {od_l_alike an_l_alike : Option Addr} {sl_l_alike : Array (Option Value)} {oc_l_alike kV_l_alike dc_l_alike pm_l_alike cd_l_alike ct_l_alike : Value}
    {od_l_pick an_l_pick : Option Addr} {sl_l_pick : Array (Option Value)} {oc_l_pick kV_l_pick dc_l_pick pm_l_pick cd_l_pick ct_l_pick : Value}
    {od_l_parts an_l_parts : Option Addr} {sl_l_parts : Array (Option Value)} {oc_l_parts kV_l_parts dc_l_parts pm_l_parts cd_l_parts ct_l_parts : Value}
    {od_l_drawn_parts an_l_drawn_parts : Option Addr} {sl_l_drawn_parts : Array (Option Value)} {oc_l_drawn_parts kV_l_drawn_parts dc_l_drawn_parts pm_l_drawn_parts cd_l_drawn_parts ct_l_drawn_parts : Value}
    {od_l_small_parts an_l_small_parts : Option Addr} {sl_l_small_parts : Array (Option Value)} {oc_l_small_parts kV_l_small_parts dc_l_small_parts pm_l_small_parts cd_l_small_parts ct_l_small_parts : Value}
    {od_l_leaves an_l_leaves : Option Addr} {sl_l_leaves : Array (Option Value)} {oc_l_leaves kV_l_leaves dc_l_leaves pm_l_leaves cd_l_leaves ct_l_leaves : Value}
    {od_l_reach an_l_reach : Option Addr} {sl_l_reach : Array (Option Value)} {oc_l_reach kV_l_reach dc_l_reach pm_l_reach cd_l_reach ct_l_reach : Value}
    {od_l_bit an_l_bit : Option Addr} {sl_l_bit : Array (Option Value)} {oc_l_bit kV_l_bit dc_l_bit pm_l_bit cd_l_bit ct_l_bit : Value}
    {od_l_truth an_l_truth : Option Addr} {sl_l_truth : Array (Option Value)} {oc_l_truth kV_l_truth dc_l_truth pm_l_truth cd_l_truth ct_l_truth : Value}
    {od_l_long an_l_long : Option Addr} {sl_l_long : Array (Option Value)} {oc_l_long kV_l_long dc_l_long pm_l_long cd_l_long ct_l_long : Value}
    {od_l_class an_l_class : Option Addr} {sl_l_class : Array (Option Value)} {oc_l_class kV_l_class dc_l_class pm_l_class cd_l_class ct_l_class : Value}
    {od_l_due an_l_due : Option Addr} {sl_l_due : Array (Option Value)} {oc_l_due kV_l_due dc_l_due pm_l_due cd_l_due ct_l_due : Value}
    {od_law an_law : Option Addr} {sl_law : Array (Option Value)} {oc_law kV_law dc_law pm_law cd_law ct_law : Value}
    {C_Rule : Addr} {p_Rule_lead : Addr} {q_Rule_lead : List Value} {p_Rule_period : Addr} {q_Rule_period : List Value} {p_Rule_of : Addr} {q_Rule_of : List Value}
    {o_READERS : Addr} {od_READERS : Option Addr} {it_READERS : Array Value} {n_READERS : Nat} {sl_READERS : Array (Option Value)}
    {o_JOINS : Addr} {od_JOINS : Option Addr} {it_JOINS : Array Value} {n_JOINS : Nat} {sl_JOINS : Array (Option Value)}
    {o_READ_BY_MOON : Addr} {od_READ_BY_MOON : Option Addr} {it_READ_BY_MOON : Array Value} {n_READ_BY_MOON : Nat} {sl_READ_BY_MOON : Array (Option Value)}
    (aC_Rule : PySem.W.nsIn K mainGlobals "Rule" = some (some (.ref C_Rule)))
    (pg_Rule : PySem.W.plainGet K C_Rule Str.empty = true)
    (hd_Rule : PySem.W.hasDictIn K C_Rule = true)
    (po_Rule : PySem.W.plainOver K C_Rule = true)
    (sa_Rule : PySem.W.findIn K (.ref C_Rule) "__setattr__" = some (some (.builtin "object.__setattr__")))
    (mi_Rule : PySem.W.makesIn K C_Rule = true)
    (kc_Rule : PySem.W.keepIn K (.ref C_Rule) = true)
    (nk_Rule__lead : PySem.W.findIn K (.ref C_Rule) "_lead" = some none)
    (nk_Rule__parts : PySem.W.findIn K (.ref C_Rule) "_parts" = some none)
    (nk_Rule__period : PySem.W.findIn K (.ref C_Rule) "_period" = some none)
    (at_Rule___init__ : PySem.W.findIn K (.ref C_Rule) "__init__" = some (some (.ref f_Rule___init__)))
    (if_Rule___init__ : PySem.W.isFn K (.ref f_Rule___init__) = true)
    (at_Rule_parts : PySem.W.findIn K (.ref C_Rule) "parts" = some (some (.ref f_Rule_parts)))
    (if_Rule_parts : PySem.W.isFn K (.ref f_Rule_parts) = true)
    (rd_Rule : PySem.W.readsIn K C_Rule (.type "type") = true)
    (gt_Rule : PySem.W.specialIn K (.ref C_Rule) "__getattribute__" = some (some (.builtin "type.__getattribute__")))
    (at_Rule_of : PySem.W.findCls K (.ref C_Rule) (.type "type") "of" = some (.get (.builtin "staticmethod.__get__") (.ref p_Rule_of) .none (.ref C_Rule)))
    (re_Rule_of : PySem.W.recIn K p_Rule_of "staticmethod" = some (.ref f_Rule_of :: q_Rule_of))
    (at_Rule_lead : PySem.W.findIn K (.ref C_Rule) "lead" = some (some (.ref p_Rule_lead)))
    (ge_Rule_lead : PySem.W.specialIn K (.ref p_Rule_lead) "__get__" = some (some (.builtin "property.__get__")))
    (tk_Rule_lead : PySem.W.takesIn K (.ref p_Rule_lead) = some true)
    (re_Rule_lead : PySem.W.recIn K p_Rule_lead "property" = some (.ref f_Rule_lead :: q_Rule_lead))
    (at_Rule_period : PySem.W.findIn K (.ref C_Rule) "period" = some (some (.ref p_Rule_period)))
    (ge_Rule_period : PySem.W.specialIn K (.ref p_Rule_period) "__get__" = some (some (.builtin "property.__get__")))
    (tk_Rule_period : PySem.W.takesIn K (.ref p_Rule_period) = some true)
    (re_Rule_period : PySem.W.recIn K p_Rule_period "property" = some (.ref f_Rule_period :: q_Rule_period))
    (a_is_truth : PySem.W.nsIn K mainGlobals "is_truth" = some (some (.ref f_is_truth)))
    (l_is_truth : K.lookup f_is_truth = some ⟨oc_is_truth, od_is_truth, .func (PySem.W.fnOf "is_truth" "is_truth" (defArgs s_is_truth) (defBody s_is_truth) (defScope s_is_truth) .none kV_is_truth dc_is_truth pm_is_truth an_is_truth cd_is_truth ct_is_truth), sl_is_truth⟩)
    (c_is_truth : PySem.W.codeIn K cd_is_truth "is_truth" = true)
    (k_is_truth : PySem.W.keepIn K (.ref f_is_truth) = true)
    (a_are_bits : PySem.W.nsIn K mainGlobals "are_bits" = some (some (.ref f_are_bits)))
    (l_are_bits : K.lookup f_are_bits = some ⟨oc_are_bits, od_are_bits, .func (PySem.W.fnOf "are_bits" "are_bits" (defArgs s_are_bits) (defBody s_are_bits) (defScope s_are_bits) .none kV_are_bits dc_are_bits pm_are_bits an_are_bits cd_are_bits ct_are_bits), sl_are_bits⟩)
    (c_are_bits : PySem.W.codeIn K cd_are_bits "are_bits" = true)
    (k_are_bits : PySem.W.keepIn K (.ref f_are_bits) = true)
    (a_is_reader : PySem.W.nsIn K mainGlobals "is_reader" = some (some (.ref f_is_reader)))
    (l_is_reader : K.lookup f_is_reader = some ⟨oc_is_reader, od_is_reader, .func (PySem.W.fnOf "is_reader" "is_reader" (defArgs s_is_reader) (defBody s_is_reader) (defScope s_is_reader) .none kV_is_reader dc_is_reader pm_is_reader an_is_reader cd_is_reader ct_is_reader), sl_is_reader⟩)
    (c_is_reader : PySem.W.codeIn K cd_is_reader "is_reader" = true)
    (k_is_reader : PySem.W.keepIn K (.ref f_is_reader) = true)
    (a_are_again : PySem.W.nsIn K mainGlobals "are_again" = some (some (.ref f_are_again)))
    (l_are_again : K.lookup f_are_again = some ⟨oc_are_again, od_are_again, .func (PySem.W.fnOf "are_again" "are_again" (defArgs s_are_again) (defBody s_are_again) (defScope s_are_again) .none kV_are_again dc_are_again pm_are_again an_are_again cd_are_again ct_are_again), sl_are_again⟩)
    (c_are_again : PySem.W.codeIn K cd_are_again "are_again" = true)
    (k_are_again : PySem.W.keepIn K (.ref f_are_again) = true)
    (a_place_of : PySem.W.nsIn K mainGlobals "place_of" = some (some (.ref f_place_of)))
    (l_place_of : K.lookup f_place_of = some ⟨oc_place_of, od_place_of, .func (PySem.W.fnOf "place_of" "place_of" (defArgs s_place_of) (defBody s_place_of) (defScope s_place_of) .none kV_place_of dc_place_of pm_place_of an_place_of cd_place_of ct_place_of), sl_place_of⟩)
    (c_place_of : PySem.W.codeIn K cd_place_of "place_of" = true)
    (k_place_of : PySem.W.keepIn K (.ref f_place_of) = true)
    (a_bit_at : PySem.W.nsIn K mainGlobals "bit_at" = some (some (.ref f_bit_at)))
    (l_bit_at : K.lookup f_bit_at = some ⟨oc_bit_at, od_bit_at, .func (PySem.W.fnOf "bit_at" "bit_at" (defArgs s_bit_at) (defBody s_bit_at) (defScope s_bit_at) .none kV_bit_at dc_bit_at pm_bit_at an_bit_at cd_bit_at ct_bit_at), sl_bit_at⟩)
    (c_bit_at : PySem.W.codeIn K cd_bit_at "bit_at" = true)
    (k_bit_at : PySem.W.keepIn K (.ref f_bit_at) = true)
    (a_joined : PySem.W.nsIn K mainGlobals "joined" = some (some (.ref f_joined)))
    (l_joined : K.lookup f_joined = some ⟨oc_joined, od_joined, .func (PySem.W.fnOf "joined" "joined" (defArgs s_joined) (defBody s_joined) (defScope s_joined) .none kV_joined dc_joined pm_joined an_joined cd_joined ct_joined), sl_joined⟩)
    (c_joined : PySem.W.codeIn K cd_joined "joined" = true)
    (k_joined : PySem.W.keepIn K (.ref f_joined) = true)
    (a_digit : PySem.W.nsIn K mainGlobals "_digit" = some (some (.ref f_digit)))
    (l_digit : K.lookup f_digit = some ⟨oc_digit, od_digit, .func (PySem.W.fnOf "_digit" "_digit" (defArgs s_digit) (defBody s_digit) (defScope s_digit) .none kV_digit dc_digit pm_digit an_digit cd_digit ct_digit), sl_digit⟩)
    (c_digit : PySem.W.codeIn K cd_digit "_digit" = true)
    (k_digit : PySem.W.keepIn K (.ref f_digit) = true)
    (a_first_bits : PySem.W.nsIn K mainGlobals "_first_bits" = some (some (.ref f_first_bits)))
    (l_first_bits : K.lookup f_first_bits = some ⟨oc_first_bits, od_first_bits, .func (PySem.W.fnOf "_first_bits" "_first_bits" (defArgs s_first_bits) (defBody s_first_bits) (defScope s_first_bits) .none kV_first_bits dc_first_bits pm_first_bits an_first_bits cd_first_bits ct_first_bits), sl_first_bits⟩)
    (c_first_bits : PySem.W.codeIn K cd_first_bits "_first_bits" = true)
    (k_first_bits : PySem.W.keepIn K (.ref f_first_bits) = true)
    (a_bits_from : PySem.W.nsIn K mainGlobals "bits_from" = some (some (.ref f_bits_from)))
    (l_bits_from : K.lookup f_bits_from = some ⟨oc_bits_from, od_bits_from, .func (PySem.W.fnOf "bits_from" "bits_from" (defArgs s_bits_from) (defBody s_bits_from) (defScope s_bits_from) .none kV_bits_from dc_bits_from pm_bits_from an_bits_from cd_bits_from ct_bits_from), sl_bits_from⟩)
    (c_bits_from : PySem.W.codeIn K cd_bits_from "bits_from" = true)
    (k_bits_from : PySem.W.keepIn K (.ref f_bits_from) = true)
    (a_joined_word : PySem.W.nsIn K mainGlobals "_joined_word" = some (some (.ref f_joined_word)))
    (l_joined_word : K.lookup f_joined_word = some ⟨oc_joined_word, od_joined_word, .func (PySem.W.fnOf "_joined_word" "_joined_word" (defArgs s_joined_word) (defBody s_joined_word) (defScope s_joined_word) .none kV_joined_word dc_joined_word pm_joined_word an_joined_word cd_joined_word ct_joined_word), sl_joined_word⟩)
    (c_joined_word : PySem.W.codeIn K cd_joined_word "_joined_word" = true)
    (k_joined_word : PySem.W.keepIn K (.ref f_joined_word) = true)
    (a_are_parts : PySem.W.nsIn K mainGlobals "are_parts" = some (some (.ref f_are_parts)))
    (l_are_parts : K.lookup f_are_parts = some ⟨oc_are_parts, od_are_parts, .func (PySem.W.fnOf "are_parts" "are_parts" (defArgs s_are_parts) (defBody s_are_parts) (defScope s_are_parts) .none kV_are_parts dc_are_parts pm_are_parts an_are_parts cd_are_parts ct_are_parts), sl_are_parts⟩)
    (c_are_parts : PySem.W.codeIn K cd_are_parts "are_parts" = true)
    (k_are_parts : PySem.W.keepIn K (.ref f_are_parts) = true)
    (a_inner : PySem.W.nsIn K mainGlobals "_inner" = some (some (.ref f_inner)))
    (l_inner : K.lookup f_inner = some ⟨oc_inner, od_inner, .func (PySem.W.fnOf "_inner" "_inner" (defArgs s_inner) (defBody s_inner) (defScope s_inner) .none kV_inner dc_inner pm_inner an_inner cd_inner ct_inner), sl_inner⟩)
    (c_inner : PySem.W.codeIn K cd_inner "_inner" = true)
    (k_inner : PySem.W.keepIn K (.ref f_inner) = true)
    (a_written : PySem.W.nsIn K mainGlobals "_written" = some (some (.ref f_written)))
    (l_written : K.lookup f_written = some ⟨oc_written, od_written, .func (PySem.W.fnOf "_written" "_written" (defArgs s_written) (defBody s_written) (defScope s_written) .none kV_written dc_written pm_written an_written cd_written ct_written), sl_written⟩)
    (c_written : PySem.W.codeIn K cd_written "_written" = true)
    (k_written : PySem.W.keepIn K (.ref f_written) = true)
    (a_numbers_at : PySem.W.nsIn K mainGlobals "numbers_at" = some (some (.ref f_numbers_at)))
    (l_numbers_at : K.lookup f_numbers_at = some ⟨oc_numbers_at, od_numbers_at, .func (PySem.W.fnOf "numbers_at" "numbers_at" (defArgs s_numbers_at) (defBody s_numbers_at) (defScope s_numbers_at) .none kV_numbers_at dc_numbers_at pm_numbers_at an_numbers_at cd_numbers_at ct_numbers_at), sl_numbers_at⟩)
    (c_numbers_at : PySem.W.codeIn K cd_numbers_at "numbers_at" = true)
    (k_numbers_at : PySem.W.keepIn K (.ref f_numbers_at) = true)
    (a_told : PySem.W.nsIn K mainGlobals "_told" = some (some (.ref f_told)))
    (l_told : K.lookup f_told = some ⟨oc_told, od_told, .func (PySem.W.fnOf "_told" "_told" (defArgs s_told) (defBody s_told) (defScope s_told) .none kV_told dc_told pm_told an_told cd_told ct_told), sl_told⟩)
    (c_told : PySem.W.codeIn K cd_told "_told" = true)
    (k_told : PySem.W.keepIn K (.ref f_told) = true)
    (l_Rule___init__ : K.lookup f_Rule___init__ = some ⟨oc_Rule___init__, od_Rule___init__, .func (PySem.W.fnOf "__init__" "Rule.__init__" (defArgs s_Rule___init__) (defBody s_Rule___init__) (defScope s_Rule___init__) .none kV_Rule___init__ dc_Rule___init__ pm_Rule___init__ an_Rule___init__ cd_Rule___init__ ct_Rule___init__), sl_Rule___init__⟩)
    (c_Rule___init__ : PySem.W.codeIn K cd_Rule___init__ "Rule.__init__" = true)
    (k_Rule___init__ : PySem.W.keepIn K (.ref f_Rule___init__) = true)
    (l_Rule_of : K.lookup f_Rule_of = some ⟨oc_Rule_of, od_Rule_of, .func (PySem.W.fnOf "of" "Rule.of" (defArgs s_Rule_of) (defBody s_Rule_of) (defScope s_Rule_of) .none kV_Rule_of dc_Rule_of pm_Rule_of an_Rule_of cd_Rule_of ct_Rule_of), sl_Rule_of⟩)
    (c_Rule_of : PySem.W.codeIn K cd_Rule_of "Rule.of" = true)
    (k_Rule_of : PySem.W.keepIn K (.ref f_Rule_of) = true)
    (l_Rule_lead : K.lookup f_Rule_lead = some ⟨oc_Rule_lead, od_Rule_lead, .func (PySem.W.fnOf "lead" "Rule.lead" (defArgs s_Rule_lead) (defBody s_Rule_lead) (defScope s_Rule_lead) .none kV_Rule_lead dc_Rule_lead pm_Rule_lead an_Rule_lead cd_Rule_lead ct_Rule_lead), sl_Rule_lead⟩)
    (c_Rule_lead : PySem.W.codeIn K cd_Rule_lead "Rule.lead" = true)
    (k_Rule_lead : PySem.W.keepIn K (.ref f_Rule_lead) = true)
    (l_Rule_period : K.lookup f_Rule_period = some ⟨oc_Rule_period, od_Rule_period, .func (PySem.W.fnOf "period" "Rule.period" (defArgs s_Rule_period) (defBody s_Rule_period) (defScope s_Rule_period) .none kV_Rule_period dc_Rule_period pm_Rule_period an_Rule_period cd_Rule_period ct_Rule_period), sl_Rule_period⟩)
    (c_Rule_period : PySem.W.codeIn K cd_Rule_period "Rule.period" = true)
    (k_Rule_period : PySem.W.keepIn K (.ref f_Rule_period) = true)
    (l_Rule_parts : K.lookup f_Rule_parts = some ⟨oc_Rule_parts, od_Rule_parts, .func (PySem.W.fnOf "parts" "Rule.parts" (defArgs s_Rule_parts) (defBody s_Rule_parts) (defScope s_Rule_parts) .none kV_Rule_parts dc_Rule_parts pm_Rule_parts an_Rule_parts cd_Rule_parts ct_Rule_parts), sl_Rule_parts⟩)
    (c_Rule_parts : PySem.W.codeIn K cd_Rule_parts "Rule.parts" = true)
    (k_Rule_parts : PySem.W.keepIn K (.ref f_Rule_parts) = true)
    (a_word_grid : PySem.W.nsIn K mainGlobals "_word_grid" = some (some (.ref f_word_grid)))
    (l_word_grid : K.lookup f_word_grid = some ⟨oc_word_grid, od_word_grid, .func (PySem.W.fnOf "_word_grid" "_word_grid" (defArgs s_word_grid) (defBody s_word_grid) (defScope s_word_grid) .none kV_word_grid dc_word_grid pm_word_grid an_word_grid cd_word_grid ct_word_grid), sl_word_grid⟩)
    (c_word_grid : PySem.W.codeIn K cd_word_grid "_word_grid" = true)
    (k_word_grid : PySem.W.keepIn K (.ref f_word_grid) = true)
    (a_number_of_grid : PySem.W.nsIn K mainGlobals "_number_of_grid" = some (some (.ref f_number_of_grid)))
    (l_number_of_grid : K.lookup f_number_of_grid = some ⟨oc_number_of_grid, od_number_of_grid, .func (PySem.W.fnOf "_number_of_grid" "_number_of_grid" (defArgs s_number_of_grid) (defBody s_number_of_grid) (defScope s_number_of_grid) .none kV_number_of_grid dc_number_of_grid pm_number_of_grid an_number_of_grid cd_number_of_grid ct_number_of_grid), sl_number_of_grid⟩)
    (c_number_of_grid : PySem.W.codeIn K cd_number_of_grid "_number_of_grid" = true)
    (k_number_of_grid : PySem.W.keepIn K (.ref f_number_of_grid) = true)
    (a_grid : PySem.W.nsIn K mainGlobals "grid" = some (some (.ref f_grid)))
    (l_grid : K.lookup f_grid = some ⟨oc_grid, od_grid, .func (PySem.W.fnOf "grid" "grid" (defArgs s_grid) (defBody s_grid) (defScope s_grid) .none kV_grid dc_grid pm_grid an_grid cd_grid ct_grid), sl_grid⟩)
    (c_grid : PySem.W.codeIn K cd_grid "grid" = true)
    (k_grid : PySem.W.keepIn K (.ref f_grid) = true)
    (a_class_of : PySem.W.nsIn K mainGlobals "class_of" = some (some (.ref f_class_of)))
    (l_class_of : K.lookup f_class_of = some ⟨oc_class_of, od_class_of, .func (PySem.W.fnOf "class_of" "class_of" (defArgs s_class_of) (defBody s_class_of) (defScope s_class_of) .none kV_class_of dc_class_of pm_class_of an_class_of cd_class_of ct_class_of), sl_class_of⟩)
    (c_class_of : PySem.W.codeIn K cd_class_of "class_of" = true)
    (k_class_of : PySem.W.keepIn K (.ref f_class_of) = true)
    (a_classes : PySem.W.nsIn K mainGlobals "classes" = some (some (.ref f_classes)))
    (l_classes : K.lookup f_classes = some ⟨oc_classes, od_classes, .func (PySem.W.fnOf "classes" "classes" (defArgs s_classes) (defBody s_classes) (defScope s_classes) .none kV_classes dc_classes pm_classes an_classes cd_classes ct_classes), sl_classes⟩)
    (c_classes : PySem.W.codeIn K cd_classes "classes" = true)
    (k_classes : PySem.W.keepIn K (.ref f_classes) = true)
    (a_fellow_number : PySem.W.nsIn K mainGlobals "_fellow_number" = some (some (.ref f_fellow_number)))
    (l_fellow_number : K.lookup f_fellow_number = some ⟨oc_fellow_number, od_fellow_number, .func (PySem.W.fnOf "_fellow_number" "_fellow_number" (defArgs s_fellow_number) (defBody s_fellow_number) (defScope s_fellow_number) .none kV_fellow_number dc_fellow_number pm_fellow_number an_fellow_number cd_fellow_number ct_fellow_number), sl_fellow_number⟩)
    (c_fellow_number : PySem.W.codeIn K cd_fellow_number "_fellow_number" = true)
    (k_fellow_number : PySem.W.keepIn K (.ref f_fellow_number) = true)
    (a_fellow : PySem.W.nsIn K mainGlobals "fellow" = some (some (.ref f_fellow)))
    (l_fellow : K.lookup f_fellow = some ⟨oc_fellow, od_fellow, .func (PySem.W.fnOf "fellow" "fellow" (defArgs s_fellow) (defBody s_fellow) (defScope s_fellow) .none kV_fellow dc_fellow pm_fellow an_fellow cd_fellow ct_fellow), sl_fellow⟩)
    (c_fellow : PySem.W.codeIn K cd_fellow "fellow" = true)
    (k_fellow : PySem.W.keepIn K (.ref f_fellow) = true)
    (a_class_crossings : PySem.W.nsIn K mainGlobals "class_crossings" = some (some (.ref f_class_crossings)))
    (l_class_crossings : K.lookup f_class_crossings = some ⟨oc_class_crossings, od_class_crossings, .func (PySem.W.fnOf "class_crossings" "class_crossings" (defArgs s_class_crossings) (defBody s_class_crossings) (defScope s_class_crossings) .none kV_class_crossings dc_class_crossings pm_class_crossings an_class_crossings cd_class_crossings ct_class_crossings), sl_class_crossings⟩)
    (c_class_crossings : PySem.W.codeIn K cd_class_crossings "class_crossings" = true)
    (k_class_crossings : PySem.W.keepIn K (.ref f_class_crossings) = true)
    (a_table : PySem.W.nsIn K mainGlobals "table" = some (some (.ref f_table)))
    (l_table : K.lookup f_table = some ⟨oc_table, od_table, .func (PySem.W.fnOf "table" "table" (defArgs s_table) (defBody s_table) (defScope s_table) .none kV_table dc_table pm_table an_table cd_table ct_table), sl_table⟩)
    (c_table : PySem.W.codeIn K cd_table "table" = true)
    (k_table : PySem.W.keepIn K (.ref f_table) = true)
    (a_l_bag : PySem.W.nsIn K mainGlobals "_law_bag" = some (some (.ref f_l_bag)))
    (l_l_bag : K.lookup f_l_bag = some ⟨oc_l_bag, od_l_bag, .func (PySem.W.fnOf "_law_bag" "_law_bag" (defArgs s_l_bag) (defBody s_l_bag) (defScope s_l_bag) .none kV_l_bag dc_l_bag pm_l_bag an_l_bag cd_l_bag ct_l_bag), sl_l_bag⟩)
    (c_l_bag : PySem.W.codeIn K cd_l_bag "_law_bag" = true)
    (k_l_bag : PySem.W.keepIn K (.ref f_l_bag) = true)
    (a_l_take : PySem.W.nsIn K mainGlobals "_law_take" = some (some (.ref f_l_take)))
    (l_l_take : K.lookup f_l_take = some ⟨oc_l_take, od_l_take, .func (PySem.W.fnOf "_law_take" "_law_take" (defArgs s_l_take) (defBody s_l_take) (defScope s_l_take) .none kV_l_take dc_l_take pm_l_take an_l_take cd_l_take ct_l_take), sl_l_take⟩)
    (c_l_take : PySem.W.codeIn K cd_l_take "_law_take" = true)
    (k_l_take : PySem.W.keepIn K (.ref f_l_take) = true)
    (a_l_alike : PySem.W.nsIn K mainGlobals "_law_alike" = some (some (.ref f_l_alike)))
    (l_l_alike : K.lookup f_l_alike = some ⟨oc_l_alike, od_l_alike, .func (PySem.W.fnOf "_law_alike" "_law_alike" (defArgs s_l_alike) (defBody s_l_alike) (defScope s_l_alike) .none kV_l_alike dc_l_alike pm_l_alike an_l_alike cd_l_alike ct_l_alike), sl_l_alike⟩)
    (c_l_alike : PySem.W.codeIn K cd_l_alike "_law_alike" = true)
    (k_l_alike : PySem.W.keepIn K (.ref f_l_alike) = true)
    (a_l_pick : PySem.W.nsIn K mainGlobals "_law_pick" = some (some (.ref f_l_pick)))
    (l_l_pick : K.lookup f_l_pick = some ⟨oc_l_pick, od_l_pick, .func (PySem.W.fnOf "_law_pick" "_law_pick" (defArgs s_l_pick) (defBody s_l_pick) (defScope s_l_pick) .none kV_l_pick dc_l_pick pm_l_pick an_l_pick cd_l_pick ct_l_pick), sl_l_pick⟩)
    (c_l_pick : PySem.W.codeIn K cd_l_pick "_law_pick" = true)
    (k_l_pick : PySem.W.keepIn K (.ref f_l_pick) = true)
    (a_l_parts : PySem.W.nsIn K mainGlobals "_law_parts" = some (some (.ref f_l_parts)))
    (l_l_parts : K.lookup f_l_parts = some ⟨oc_l_parts, od_l_parts, .func (PySem.W.fnOf "_law_parts" "_law_parts" (defArgs s_l_parts) (defBody s_l_parts) (defScope s_l_parts) .none kV_l_parts dc_l_parts pm_l_parts an_l_parts cd_l_parts ct_l_parts), sl_l_parts⟩)
    (c_l_parts : PySem.W.codeIn K cd_l_parts "_law_parts" = true)
    (k_l_parts : PySem.W.keepIn K (.ref f_l_parts) = true)
    (a_l_drawn_parts : PySem.W.nsIn K mainGlobals "_law_drawn_parts" = some (some (.ref f_l_drawn_parts)))
    (l_l_drawn_parts : K.lookup f_l_drawn_parts = some ⟨oc_l_drawn_parts, od_l_drawn_parts, .func (PySem.W.fnOf "_law_drawn_parts" "_law_drawn_parts" (defArgs s_l_drawn_parts) (defBody s_l_drawn_parts) (defScope s_l_drawn_parts) .none kV_l_drawn_parts dc_l_drawn_parts pm_l_drawn_parts an_l_drawn_parts cd_l_drawn_parts ct_l_drawn_parts), sl_l_drawn_parts⟩)
    (c_l_drawn_parts : PySem.W.codeIn K cd_l_drawn_parts "_law_drawn_parts" = true)
    (k_l_drawn_parts : PySem.W.keepIn K (.ref f_l_drawn_parts) = true)
    (a_l_small_parts : PySem.W.nsIn K mainGlobals "_law_small_parts" = some (some (.ref f_l_small_parts)))
    (l_l_small_parts : K.lookup f_l_small_parts = some ⟨oc_l_small_parts, od_l_small_parts, .func (PySem.W.fnOf "_law_small_parts" "_law_small_parts" (defArgs s_l_small_parts) (defBody s_l_small_parts) (defScope s_l_small_parts) .none kV_l_small_parts dc_l_small_parts pm_l_small_parts an_l_small_parts cd_l_small_parts ct_l_small_parts), sl_l_small_parts⟩)
    (c_l_small_parts : PySem.W.codeIn K cd_l_small_parts "_law_small_parts" = true)
    (k_l_small_parts : PySem.W.keepIn K (.ref f_l_small_parts) = true)
    (a_l_leaves : PySem.W.nsIn K mainGlobals "_law_leaves" = some (some (.ref f_l_leaves)))
    (l_l_leaves : K.lookup f_l_leaves = some ⟨oc_l_leaves, od_l_leaves, .func (PySem.W.fnOf "_law_leaves" "_law_leaves" (defArgs s_l_leaves) (defBody s_l_leaves) (defScope s_l_leaves) .none kV_l_leaves dc_l_leaves pm_l_leaves an_l_leaves cd_l_leaves ct_l_leaves), sl_l_leaves⟩)
    (c_l_leaves : PySem.W.codeIn K cd_l_leaves "_law_leaves" = true)
    (k_l_leaves : PySem.W.keepIn K (.ref f_l_leaves) = true)
    (a_l_reach : PySem.W.nsIn K mainGlobals "_law_reach" = some (some (.ref f_l_reach)))
    (l_l_reach : K.lookup f_l_reach = some ⟨oc_l_reach, od_l_reach, .func (PySem.W.fnOf "_law_reach" "_law_reach" (defArgs s_l_reach) (defBody s_l_reach) (defScope s_l_reach) .none kV_l_reach dc_l_reach pm_l_reach an_l_reach cd_l_reach ct_l_reach), sl_l_reach⟩)
    (c_l_reach : PySem.W.codeIn K cd_l_reach "_law_reach" = true)
    (k_l_reach : PySem.W.keepIn K (.ref f_l_reach) = true)
    (a_l_bit : PySem.W.nsIn K mainGlobals "_law_bit" = some (some (.ref f_l_bit)))
    (l_l_bit : K.lookup f_l_bit = some ⟨oc_l_bit, od_l_bit, .func (PySem.W.fnOf "_law_bit" "_law_bit" (defArgs s_l_bit) (defBody s_l_bit) (defScope s_l_bit) .none kV_l_bit dc_l_bit pm_l_bit an_l_bit cd_l_bit ct_l_bit), sl_l_bit⟩)
    (c_l_bit : PySem.W.codeIn K cd_l_bit "_law_bit" = true)
    (k_l_bit : PySem.W.keepIn K (.ref f_l_bit) = true)
    (a_l_truth : PySem.W.nsIn K mainGlobals "_law_truth" = some (some (.ref f_l_truth)))
    (l_l_truth : K.lookup f_l_truth = some ⟨oc_l_truth, od_l_truth, .func (PySem.W.fnOf "_law_truth" "_law_truth" (defArgs s_l_truth) (defBody s_l_truth) (defScope s_l_truth) .none kV_l_truth dc_l_truth pm_l_truth an_l_truth cd_l_truth ct_l_truth), sl_l_truth⟩)
    (c_l_truth : PySem.W.codeIn K cd_l_truth "_law_truth" = true)
    (k_l_truth : PySem.W.keepIn K (.ref f_l_truth) = true)
    (a_l_long : PySem.W.nsIn K mainGlobals "_law_long" = some (some (.ref f_l_long)))
    (l_l_long : K.lookup f_l_long = some ⟨oc_l_long, od_l_long, .func (PySem.W.fnOf "_law_long" "_law_long" (defArgs s_l_long) (defBody s_l_long) (defScope s_l_long) .none kV_l_long dc_l_long pm_l_long an_l_long cd_l_long ct_l_long), sl_l_long⟩)
    (c_l_long : PySem.W.codeIn K cd_l_long "_law_long" = true)
    (k_l_long : PySem.W.keepIn K (.ref f_l_long) = true)
    (a_l_class : PySem.W.nsIn K mainGlobals "_law_class" = some (some (.ref f_l_class)))
    (l_l_class : K.lookup f_l_class = some ⟨oc_l_class, od_l_class, .func (PySem.W.fnOf "_law_class" "_law_class" (defArgs s_l_class) (defBody s_l_class) (defScope s_l_class) .none kV_l_class dc_l_class pm_l_class an_l_class cd_l_class ct_l_class), sl_l_class⟩)
    (c_l_class : PySem.W.codeIn K cd_l_class "_law_class" = true)
    (k_l_class : PySem.W.keepIn K (.ref f_l_class) = true)
    (a_l_due : PySem.W.nsIn K mainGlobals "_law_due" = some (some (.ref f_l_due)))
    (l_l_due : K.lookup f_l_due = some ⟨oc_l_due, od_l_due, .func (PySem.W.fnOf "_law_due" "_law_due" (defArgs s_l_due) (defBody s_l_due) (defScope s_l_due) .none kV_l_due dc_l_due pm_l_due an_l_due cd_l_due ct_l_due), sl_l_due⟩)
    (c_l_due : PySem.W.codeIn K cd_l_due "_law_due" = true)
    (k_l_due : PySem.W.keepIn K (.ref f_l_due) = true)
    (a_law : PySem.W.nsIn K mainGlobals "law" = some (some (.ref f_law)))
    (l_law : K.lookup f_law = some ⟨oc_law, od_law, .func (PySem.W.fnOf "law" "law" (defArgs s_law) (defBody s_law) (defScope s_law) .none kV_law dc_law pm_law an_law cd_law ct_law), sl_law⟩)
    (c_law : PySem.W.codeIn K cd_law "law" = true)
    (k_law : PySem.W.keepIn K (.ref f_law) = true)
    (z_abs : PySem.W.nsIn K mainGlobals "abs" = some none)
    (z_bool : PySem.W.nsIn K mainGlobals "bool" = some none)
    (z_dict : PySem.W.nsIn K mainGlobals "dict" = some none)
    (z_int : PySem.W.nsIn K mainGlobals "int" = some none)
    (z_isinstance : PySem.W.nsIn K mainGlobals "isinstance" = some none)
    (b_lcm : PySem.W.nsIn K mainGlobals "lcm" = some (some (.builtin "math.lcm")))
    (z_len : PySem.W.nsIn K mainGlobals "len" = some none)
    (z_list : PySem.W.nsIn K mainGlobals "list" = some none)
    (z_max : PySem.W.nsIn K mainGlobals "max" = some none)
    (z_min : PySem.W.nsIn K mainGlobals "min" = some none)
    (z_range : PySem.W.nsIn K mainGlobals "range" = some none)
    (z_repr : PySem.W.nsIn K mainGlobals "repr" = some none)
    (z_sorted : PySem.W.nsIn K mainGlobals "sorted" = some none)
    (z_str : PySem.W.nsIn K mainGlobals "str" = some none)
    (z_sum : PySem.W.nsIn K mainGlobals "sum" = some none)
    (z_tuple : PySem.W.nsIn K mainGlobals "tuple" = some none)
    (m_READERS : PySem.W.nsIn K mainGlobals "READERS" = some (some (.ref o_READERS)))
    (l_READERS : K.lookup o_READERS = some ⟨.type "tuple", od_READERS, .seq it_READERS n_READERS, sl_READERS⟩)
    (v_READERS : (it_READERS.map absV).toList = (["turns", "others", "rounds", "suns", "moons"] : List Str).map (fun z => some (V.str z)))
    (m_JOINS : PySem.W.nsIn K mainGlobals "JOINS" = some (some (.ref o_JOINS)))
    (l_JOINS : K.lookup o_JOINS = some ⟨.type "tuple", od_JOINS, .seq it_JOINS n_JOINS, sl_JOINS⟩)
    (v_JOINS : (it_JOINS.map absV).toList = (["and", "or", "unlike"] : List Str).map (fun z => some (V.str z)))
    (m_READ_BY_MOON : PySem.W.nsIn K mainGlobals "READ_BY_MOON" = some (some (.ref o_READ_BY_MOON)))
    (l_READ_BY_MOON : K.lookup o_READ_BY_MOON = some ⟨.type "tuple", od_READ_BY_MOON, .seq it_READ_BY_MOON n_READ_BY_MOON, sl_READ_BY_MOON⟩)
    (v_READ_BY_MOON : (it_READ_BY_MOON.map absV).toList = (["turns", "moons"] : List Str).map (fun z => some (V.str z)))
    : ∃ T : Txt K mg, T.f_law = f_law ∧ ∃ fd : FuncData, (∀ (s : Shared) (v : Value), BindsTo s fd ⟨[v], []⟩ [("_law_script", v)]) ∧ Fun K "law" "law" s_law f_law fd := by
  have F_is_truth := fun_mk (st := s_is_truth) l_is_truth c_is_truth k_is_truth
  have B_is_truth := F_is_truth.binds (ps := ["thing"]) fun _ _ _ _ _ _ us hl => match us, hl with | [_], _ => rfl
  have F_are_bits := fun_mk (st := s_are_bits) l_are_bits c_are_bits k_are_bits
  have B_are_bits := F_are_bits.binds (ps := ["thing"]) fun _ _ _ _ _ _ us hl => match us, hl with | [_], _ => rfl
  have F_is_reader := fun_mk (st := s_is_reader) l_is_reader c_is_reader k_is_reader
  have B_is_reader := F_is_reader.binds (ps := ["thing"]) fun _ _ _ _ _ _ us hl => match us, hl with | [_], _ => rfl
  have F_are_again := fun_mk (st := s_are_again) l_are_again c_are_again k_are_again
  have B_are_again := F_are_again.binds (ps := ["thing"]) fun _ _ _ _ _ _ us hl => match us, hl with | [_], _ => rfl
  have F_place_of := fun_mk (st := s_place_of) l_place_of c_place_of k_place_of
  have B_place_of := F_place_of.binds (ps := ["lead", "period", "x"]) fun _ _ _ _ _ _ us hl => match us, hl with | [_, _, _], _ => rfl
  have F_bit_at := fun_mk (st := s_bit_at) l_bit_at c_bit_at k_bit_at
  have B_bit_at := F_bit_at.binds (ps := ["early", "again", "x"]) fun _ _ _ _ _ _ us hl => match us, hl with | [_, _, _], _ => rfl
  have F_joined := fun_mk (st := s_joined) l_joined c_joined k_joined
  have B_joined := F_joined.binds (ps := ["how", "one", "other"]) fun _ _ _ _ _ _ us hl => match us, hl with | [_, _, _], _ => rfl
  have F_digit := fun_mk (st := s_digit) l_digit c_digit k_digit
  have B_digit := F_digit.binds (ps := ["truth"]) fun _ _ _ _ _ _ us hl => match us, hl with | [_], _ => rfl
  have F_first_bits := fun_mk (st := s_first_bits) l_first_bits c_first_bits k_first_bits
  have B_first_bits := F_first_bits.binds (ps := ["early", "again", "many"]) fun _ _ _ _ _ _ us hl => match us, hl with | [_, _, _], _ => rfl
  have F_bits_from := fun_mk (st := s_bits_from) l_bits_from c_bits_from k_bits_from
  have B_bits_from := F_bits_from.binds (ps := ["early", "again", "start", "many"]) fun _ _ _ _ _ _ us hl => match us, hl with | [_, _, _, _], _ => rfl
  have F_joined_word := fun_mk (st := s_joined_word) l_joined_word c_joined_word k_joined_word
  have B_joined_word := F_joined_word.binds (ps := ["how", "one", "other"]) fun _ _ _ _ _ _ us hl => match us, hl with | [_, _, _], _ => rfl
  have F_are_parts := fun_mk (st := s_are_parts) l_are_parts c_are_parts k_are_parts
  have B_are_parts := F_are_parts.binds (ps := ["thing"]) fun _ _ _ _ _ _ us hl => match us, hl with | [_], _ => rfl
  have F_inner := fun_mk (st := s_inner) l_inner c_inner k_inner
  have B_inner := F_inner.binds (ps := ["parts"]) fun _ _ _ _ _ _ us hl => match us, hl with | [_], _ => rfl
  have F_written := fun_mk (st := s_written) l_written c_written k_written
  have B_written := F_written.binds (ps := ["parts"]) fun _ _ _ _ _ _ us hl => match us, hl with | [_], _ => rfl
  have F_numbers_at := fun_mk (st := s_numbers_at) l_numbers_at c_numbers_at k_numbers_at
  have B_numbers_at := F_numbers_at.binds (ps := ["r", "i", "j", "suns", "moons"]) fun _ _ _ _ _ _ us hl => match us, hl with | [_, _, _, _, _], _ => rfl
  have F_told := fun_mk (st := s_told) l_told c_told k_told
  have B_told := F_told.binds (ps := ["parts", "numbers"]) fun _ _ _ _ _ _ us hl => match us, hl with | [_, _], _ => rfl
  have F_Rule___init__ := fun_mk (st := s_Rule___init__) l_Rule___init__ c_Rule___init__ k_Rule___init__
  have B_Rule___init__ := F_Rule___init__.binds (ps := ["self", "parts"]) fun _ _ _ _ _ _ us hl => match us, hl with | [_, _], _ => rfl
  have F_Rule_of := fun_mk (st := s_Rule_of) l_Rule_of c_Rule_of k_Rule_of
  have B_Rule_of := F_Rule_of.binds (ps := ["parts"]) fun _ _ _ _ _ _ us hl => match us, hl with | [_], _ => rfl
  have F_Rule_lead := fun_mk (st := s_Rule_lead) l_Rule_lead c_Rule_lead k_Rule_lead
  have B_Rule_lead := F_Rule_lead.binds (ps := ["self"]) fun _ _ _ _ _ _ us hl => match us, hl with | [_], _ => rfl
  have F_Rule_period := fun_mk (st := s_Rule_period) l_Rule_period c_Rule_period k_Rule_period
  have B_Rule_period := F_Rule_period.binds (ps := ["self"]) fun _ _ _ _ _ _ us hl => match us, hl with | [_], _ => rfl
  have F_Rule_parts := fun_mk (st := s_Rule_parts) l_Rule_parts c_Rule_parts k_Rule_parts
  have B_Rule_parts := F_Rule_parts.binds (ps := ["self"]) fun _ _ _ _ _ _ us hl => match us, hl with | [_], _ => rfl
  have F_word_grid := fun_mk (st := s_word_grid) l_word_grid c_word_grid k_word_grid
  have B_word_grid := F_word_grid.binds (ps := ["written", "starts", "rows", "columns"]) fun _ _ _ _ _ _ us hl => match us, hl with | [_, _, _, _], _ => rfl
  have F_number_of_grid := fun_mk (st := s_number_of_grid) l_number_of_grid c_number_of_grid k_number_of_grid
  have B_number_of_grid := F_number_of_grid.binds (ps := ["parts", "starts", "rows", "columns"]) fun _ _ _ _ _ _ us hl => match us, hl with | [_, _, _, _], _ => rfl
  have F_grid := fun_mk (st := s_grid) l_grid c_grid k_grid
  have B_grid := F_grid.binds (ps := ["rule", "r", "suns", "moons", "rows", "columns"]) fun _ _ _ _ _ _ us hl => match us, hl with | [_, _, _, _, _, _], _ => rfl
  have F_class_of := fun_mk (st := s_class_of) l_class_of c_class_of k_class_of
  have B_class_of := F_class_of.binds (ps := ["rule", "number"]) fun _ _ _ _ _ _ us hl => match us, hl with | [_, _], _ => rfl
  have F_classes := fun_mk (st := s_classes) l_classes c_classes k_classes
  have B_classes := F_classes.binds (ps := ["rule", "many"]) fun _ _ _ _ _ _ us hl => match us, hl with | [_, _], _ => rfl
  have F_fellow_number := fun_mk (st := s_fellow_number) l_fellow_number c_fellow_number k_fellow_number
  have B_fellow_number := F_fellow_number.binds (ps := ["rule", "many"]) fun _ _ _ _ _ _ us hl => match us, hl with | [_, _], _ => rfl
  have F_fellow := fun_mk (st := s_fellow) l_fellow c_fellow k_fellow
  have B_fellow := F_fellow.binds (ps := ["rule", "suns", "moons", "rounds"]) fun _ _ _ _ _ _ us hl => match us, hl with | [_, _, _, _], _ => rfl
  have F_class_crossings := fun_mk (st := s_class_crossings) l_class_crossings c_class_crossings k_class_crossings
  have B_class_crossings := F_class_crossings.binds (ps := ["rule", "suns", "moons", "rounds"]) fun _ _ _ _ _ _ us hl => match us, hl with | [_, _, _, _], _ => rfl
  have F_table := fun_mk (st := s_table) l_table c_table k_table
  have B_table := F_table.binds (ps := ["rule", "suns", "moons", "rounds"]) fun _ _ _ _ _ _ us hl => match us, hl with | [_, _, _, _], _ => rfl
  have F_l_bag := fun_mk (st := s_l_bag) l_l_bag c_l_bag k_l_bag
  have B_l_bag := F_l_bag.binds (ps := ["_law_script"]) fun _ _ _ _ _ _ us hl => match us, hl with | [_], _ => rfl
  have F_l_take := fun_mk (st := s_l_take) l_l_take c_l_take k_l_take
  have B_l_take := F_l_take.binds (ps := ["_law_bag_here", "_law_many"]) fun _ _ _ _ _ _ us hl => match us, hl with | [_, _], _ => rfl
  have F_l_alike := fun_mk (st := s_l_alike) l_l_alike c_l_alike k_l_alike
  have B_l_alike := F_l_alike.binds (ps := ["_law_found", "_law_due_here"]) fun _ _ _ _ _ _ us hl => match us, hl with | [_, _], _ => rfl
  have F_l_pick := fun_mk (st := s_l_pick) l_l_pick c_l_pick k_l_pick
  have B_l_pick := F_l_pick.binds (ps := ["_law_bag_here", "_law_things"]) fun _ _ _ _ _ _ us hl => match us, hl with | [_, _], _ => rfl
  have F_l_parts := fun_mk (st := s_l_parts) l_l_parts c_l_parts k_l_parts
  have B_l_parts := F_l_parts.binds (ps := ["_law_bag_here", "_law_deep", "_law_lead", "_law_periods"]) fun _ _ _ _ _ _ us hl => match us, hl with | [_, _, _, _], _ => rfl
  have F_l_drawn_parts := fun_mk (st := s_l_drawn_parts) l_l_drawn_parts c_l_drawn_parts k_l_drawn_parts
  have B_l_drawn_parts := F_l_drawn_parts.binds (ps := ["_law_bag_here", "_law_lead", "_law_periods"]) fun _ _ _ _ _ _ us hl => match us, hl with | [_, _, _], _ => rfl
  have F_l_small_parts := fun_mk (st := s_l_small_parts) l_l_small_parts c_l_small_parts k_l_small_parts
  have B_l_small_parts := F_l_small_parts.binds (ps := ["_law_bag_here"]) fun _ _ _ _ _ _ us hl => match us, hl with | [_], _ => rfl
  have F_l_leaves := fun_mk (st := s_l_leaves) l_l_leaves c_l_leaves k_l_leaves
  have B_l_leaves := F_l_leaves.binds (ps := ["_law_parts_here"]) fun _ _ _ _ _ _ us hl => match us, hl with | [_], _ => rfl
  have F_l_reach := fun_mk (st := s_l_reach) l_l_reach c_l_reach k_l_reach
  have B_l_reach := F_l_reach.binds (ps := ["_law_parts_here"]) fun _ _ _ _ _ _ us hl => match us, hl with | [_], _ => rfl
  have F_l_bit := fun_mk (st := s_l_bit) l_l_bit c_l_bit k_l_bit
  have B_l_bit := F_l_bit.binds (ps := ["_law_word", "_law_x"]) fun _ _ _ _ _ _ us hl => match us, hl with | [_, _], _ => rfl
  have F_l_truth := fun_mk (st := s_l_truth) l_l_truth c_l_truth k_l_truth
  have B_l_truth := F_l_truth.binds (ps := ["_law_parts_here", "_law_r", "_law_i", "_law_j", "_law_n", "_law_m"]) fun _ _ _ _ _ _ us hl => match us, hl with | [_, _, _, _, _, _], _ => rfl
  have F_l_long := fun_mk (st := s_l_long) l_l_long c_l_long k_l_long
  have B_l_long := F_l_long.binds (ps := ["_law_bag_here"]) fun _ _ _ _ _ _ us hl => match us, hl with | [_], _ => rfl
  have F_l_class := fun_mk (st := s_l_class) l_l_class c_l_class k_l_class
  have B_l_class := F_l_class.binds (ps := ["_law_reach_here", "_law_x"]) fun _ _ _ _ _ _ us hl => match us, hl with | [_, _], _ => rfl
  have F_l_due := fun_mk (st := s_l_due) l_l_due c_l_due k_l_due
  have B_l_due := F_l_due.binds (ps := ["_law_parts_here", "_law_reach_here", "_law_numbers"]) fun _ _ _ _ _ _ us hl => match us, hl with | [_, _, _], _ => rfl
  have F_law := fun_mk (st := s_law) l_law c_law k_law
  have B_law := F_law.binds (ps := ["_law_script"]) fun _ _ _ _ _ _ us hl => match us, hl with | [_], _ => rfl
  exact ⟨{ f_is_truth := f_is_truth, a_is_truth := ⟨⟨_, F_is_truth, B_is_truth⟩, PySem.W.mg_of X G a_is_truth⟩, f_are_bits := f_are_bits, a_are_bits := ⟨⟨_, F_are_bits, B_are_bits⟩, PySem.W.mg_of X G a_are_bits⟩, f_is_reader := f_is_reader, a_is_reader := ⟨⟨_, F_is_reader, B_is_reader⟩, PySem.W.mg_of X G a_is_reader⟩, f_are_again := f_are_again, a_are_again := ⟨⟨_, F_are_again, B_are_again⟩, PySem.W.mg_of X G a_are_again⟩, f_place_of := f_place_of, a_place_of := ⟨⟨_, F_place_of, B_place_of⟩, PySem.W.mg_of X G a_place_of⟩, f_bit_at := f_bit_at, a_bit_at := ⟨⟨_, F_bit_at, B_bit_at⟩, PySem.W.mg_of X G a_bit_at⟩, f_joined := f_joined, a_joined := ⟨⟨_, F_joined, B_joined⟩, PySem.W.mg_of X G a_joined⟩, f_digit := f_digit, a_digit := ⟨⟨_, F_digit, B_digit⟩, PySem.W.mg_of X G a_digit⟩, f_first_bits := f_first_bits, a_first_bits := ⟨⟨_, F_first_bits, B_first_bits⟩, PySem.W.mg_of X G a_first_bits⟩, f_bits_from := f_bits_from, a_bits_from := ⟨⟨_, F_bits_from, B_bits_from⟩, PySem.W.mg_of X G a_bits_from⟩, f_joined_word := f_joined_word, a_joined_word := ⟨⟨_, F_joined_word, B_joined_word⟩, PySem.W.mg_of X G a_joined_word⟩, f_are_parts := f_are_parts, a_are_parts := ⟨⟨_, F_are_parts, B_are_parts⟩, PySem.W.mg_of X G a_are_parts⟩, f_inner := f_inner, a_inner := ⟨⟨_, F_inner, B_inner⟩, PySem.W.mg_of X G a_inner⟩, f_written := f_written, a_written := ⟨⟨_, F_written, B_written⟩, PySem.W.mg_of X G a_written⟩, f_numbers_at := f_numbers_at, a_numbers_at := ⟨⟨_, F_numbers_at, B_numbers_at⟩, PySem.W.mg_of X G a_numbers_at⟩, f_told := f_told, a_told := ⟨⟨_, F_told, B_told⟩, PySem.W.mg_of X G a_told⟩, f_Rule___init__ := f_Rule___init__, a_Rule___init__ := ⟨_, F_Rule___init__, B_Rule___init__⟩, f_Rule_of := f_Rule_of, a_Rule_of := ⟨_, F_Rule_of, B_Rule_of⟩, f_Rule_lead := f_Rule_lead, a_Rule_lead := ⟨_, F_Rule_lead, B_Rule_lead⟩, f_Rule_period := f_Rule_period, a_Rule_period := ⟨_, F_Rule_period, B_Rule_period⟩, f_Rule_parts := f_Rule_parts, a_Rule_parts := ⟨_, F_Rule_parts, B_Rule_parts⟩, f_word_grid := f_word_grid, a_word_grid := ⟨⟨_, F_word_grid, B_word_grid⟩, PySem.W.mg_of X G a_word_grid⟩, f_number_of_grid := f_number_of_grid, a_number_of_grid := ⟨⟨_, F_number_of_grid, B_number_of_grid⟩, PySem.W.mg_of X G a_number_of_grid⟩, f_grid := f_grid, a_grid := ⟨⟨_, F_grid, B_grid⟩, PySem.W.mg_of X G a_grid⟩, f_class_of := f_class_of, a_class_of := ⟨⟨_, F_class_of, B_class_of⟩, PySem.W.mg_of X G a_class_of⟩, f_classes := f_classes, a_classes := ⟨⟨_, F_classes, B_classes⟩, PySem.W.mg_of X G a_classes⟩, f_fellow_number := f_fellow_number, a_fellow_number := ⟨⟨_, F_fellow_number, B_fellow_number⟩, PySem.W.mg_of X G a_fellow_number⟩, f_fellow := f_fellow, a_fellow := ⟨⟨_, F_fellow, B_fellow⟩, PySem.W.mg_of X G a_fellow⟩, f_class_crossings := f_class_crossings, a_class_crossings := ⟨⟨_, F_class_crossings, B_class_crossings⟩, PySem.W.mg_of X G a_class_crossings⟩, f_table := f_table, a_table := ⟨⟨_, F_table, B_table⟩, PySem.W.mg_of X G a_table⟩, f_l_bag := f_l_bag, a_l_bag := ⟨⟨_, F_l_bag, B_l_bag⟩, PySem.W.mg_of X G a_l_bag⟩, f_l_take := f_l_take, a_l_take := ⟨⟨_, F_l_take, B_l_take⟩, PySem.W.mg_of X G a_l_take⟩, f_l_alike := f_l_alike, a_l_alike := ⟨⟨_, F_l_alike, B_l_alike⟩, PySem.W.mg_of X G a_l_alike⟩, f_l_pick := f_l_pick, a_l_pick := ⟨⟨_, F_l_pick, B_l_pick⟩, PySem.W.mg_of X G a_l_pick⟩, f_l_parts := f_l_parts, a_l_parts := ⟨⟨_, F_l_parts, B_l_parts⟩, PySem.W.mg_of X G a_l_parts⟩, f_l_drawn_parts := f_l_drawn_parts, a_l_drawn_parts := ⟨⟨_, F_l_drawn_parts, B_l_drawn_parts⟩, PySem.W.mg_of X G a_l_drawn_parts⟩, f_l_small_parts := f_l_small_parts, a_l_small_parts := ⟨⟨_, F_l_small_parts, B_l_small_parts⟩, PySem.W.mg_of X G a_l_small_parts⟩, f_l_leaves := f_l_leaves, a_l_leaves := ⟨⟨_, F_l_leaves, B_l_leaves⟩, PySem.W.mg_of X G a_l_leaves⟩, f_l_reach := f_l_reach, a_l_reach := ⟨⟨_, F_l_reach, B_l_reach⟩, PySem.W.mg_of X G a_l_reach⟩, f_l_bit := f_l_bit, a_l_bit := ⟨⟨_, F_l_bit, B_l_bit⟩, PySem.W.mg_of X G a_l_bit⟩, f_l_truth := f_l_truth, a_l_truth := ⟨⟨_, F_l_truth, B_l_truth⟩, PySem.W.mg_of X G a_l_truth⟩, f_l_long := f_l_long, a_l_long := ⟨⟨_, F_l_long, B_l_long⟩, PySem.W.mg_of X G a_l_long⟩, f_l_class := f_l_class, a_l_class := ⟨⟨_, F_l_class, B_l_class⟩, PySem.W.mg_of X G a_l_class⟩, f_l_due := f_l_due, a_l_due := ⟨⟨_, F_l_due, B_l_due⟩, PySem.W.mg_of X G a_l_due⟩, f_law := f_law, a_law := ⟨⟨_, F_law, B_law⟩, PySem.W.mg_of X G a_law⟩, C_Rule := C_Rule, cl_Rule := ⟨pg_Rule, hd_Rule, po_Rule, sa_Rule⟩, mg_Rule := PySem.W.mg_of X G aC_Rule, mk_Rule := ⟨mi_Rule, at_Rule___init__, if_Rule___init__, kc_Rule⟩, nk_Rule__lead := nk_Rule__lead, nk_Rule__parts := nk_Rule__parts, nk_Rule__period := nk_Rule__period, p_Rule_lead := p_Rule_lead, pr_Rule_lead := ⟨at_Rule_lead, ge_Rule_lead, tk_Rule_lead, _, re_Rule_lead⟩, p_Rule_period := p_Rule_period, pr_Rule_period := ⟨at_Rule_period, ge_Rule_period, tk_Rule_period, _, re_Rule_period⟩, sm_Rule_of := ⟨rd_Rule, gt_Rule, ⟨_, _, at_Rule_of, re_Rule_of⟩⟩, me_Rule_parts := ⟨at_Rule_parts, if_Rule_parts, k_Rule_parts⟩, z_abs := PySem.W.mg_none_of X G z_abs, z_bool := PySem.W.mg_none_of X G z_bool, z_dict := PySem.W.mg_none_of X G z_dict, z_int := PySem.W.mg_none_of X G z_int, z_isinstance := PySem.W.mg_none_of X G z_isinstance, b_lcm := PySem.W.mg_of X G b_lcm, z_len := PySem.W.mg_none_of X G z_len, z_list := PySem.W.mg_none_of X G z_list, z_max := PySem.W.mg_none_of X G z_max, z_min := PySem.W.mg_none_of X G z_min, z_range := PySem.W.mg_none_of X G z_range, z_repr := PySem.W.mg_none_of X G z_repr, z_sorted := PySem.W.mg_none_of X G z_sorted, z_str := PySem.W.mg_none_of X G z_str, z_sum := PySem.W.mg_none_of X G z_sum, z_tuple := PySem.W.mg_none_of X G z_tuple, o_READERS := o_READERS, m_READERS := PySem.W.mg_of X G m_READERS, d_READERS := ktup_abs l_READERS v_READERS, o_JOINS := o_JOINS, m_JOINS := PySem.W.mg_of X G m_JOINS, d_JOINS := ktup_abs l_JOINS v_JOINS, o_READ_BY_MOON := o_READ_BY_MOON, m_READ_BY_MOON := PySem.W.mg_of X G m_READ_BY_MOON, d_READ_BY_MOON := ktup_abs l_READ_BY_MOON v_READ_BY_MOON }, rfl, _, fun s v => .of_eq rfl, F_law⟩
end L
def PySem.W.Fast.tw11032272499478830720 : Nat := 0
def PySem.W.Fast.tw4700947908089732064 : Nat := 0
def PySem.W.Fast.tw9083552820450092193 : Nat := 0
def PySem.W.Fast.tw8115198718905177473 : Nat := 0
def PySem.W.Fast.tw15008119800650610113 : Nat := 0
def PySem.W.Fast.tw6790330717154837185 : Nat := 0
def PySem.W.Fast.tw15755527323098854145 : Nat := 0
def PySem.W.Fast.tw6160504237409490114 : Nat := 0
def PySem.W.Fast.tw3325616848547458531 : Nat := 0
def PySem.W.Fast.tw11731485418867220451 : Nat := 0
def PySem.W.Fast.tw15955529344586830148 : Nat := 0
def PySem.W.Fast.tw8801201331830242692 : Nat := 0
def PySem.W.Fast.tw15059880287362149188 : Nat := 0
def PySem.W.Fast.tw3468571360704133285 : Nat := 0
def PySem.W.Fast.tw638172335850860294 : Nat := 0
def PySem.W.Fast.tw7761565539165270087 : Nat := 0
def PySem.W.Fast.tw8883110062560481545 : Nat := 0
def PySem.W.Fast.tw12110722240662463305 : Nat := 0
def PySem.W.Fast.tw6856594690813156618 : Nat := 0
def PySem.W.Fast.tw16531148030376791626 : Nat := 0
def PySem.W.Fast.tw6373021954925957485 : Nat := 0
def PySem.W.Fast.tw7838135958927984109 : Nat := 0
def PySem.W.Fast.tw16733037011271725901 : Nat := 0
def PySem.W.Fast.tw13719256038489801358 : Nat := 0
def PySem.W.Fast.tw4186573627604918545 : Nat := 0
def PySem.W.Fast.tw17775795696594275857 : Nat := 0
def PySem.W.Fast.tw11397126593354102451 : Nat := 0
def PySem.W.Fast.tw30562222843890772 : Nat := 0
def PySem.W.Fast.tw7098222217114458484 : Nat := 0
def PySem.W.Fast.tw12927016718361751317 : Nat := 0
def PySem.W.Fast.tw16502177965603011926 : Nat := 0
def PySem.W.Fast.tw14475311759777150902 : Nat := 0
def PySem.W.Fast.tw14154214173390853944 : Nat := 0
def PySem.W.Fast.tw16091045288402080377 : Nat := 0
def PySem.W.Fast.tw13667683469699026042 : Nat := 0
def PySem.W.Fast.tw12972722005521779642 : Nat := 0
def PySem.W.Fast.tw13847459212347805851 : Nat := 0
def PySem.W.Fast.tw15181115793625969819 : Nat := 0
def PySem.W.Fast.tw5822003586446367291 : Nat := 0
def PySem.W.Fast.tw15604133164327453371 : Nat := 0
def PySem.W.Fast.tw17170841419767381276 : Nat := 0
def PySem.W.Fast.tw4248200211320748924 : Nat := 0
def PySem.W.Fast.tw6534863924986369916 : Nat := 0
def PySem.W.Fast.tw13225445778678156029 : Nat := 0
def PySem.W.Fast.tw196577300665798494 : Nat := 0
open PySem PySem.W PyProof.Rows
set_option maxRecDepth 100000 in
set_option maxHeartbeats 0 in
theorem PySem.Challenge.cw_poleribbons_k42_tables_told_holds : PySem.Challenge.rw_poleribbons_k42_tables_told.Holds := by
  w_on; o_law; k_head; (case hw => w_witness2)
  k_fill
  refine DL.walk (l := PySem.Challenge.rw_poleribbons_k42_tables_told) (k := L.k_law) (x := "_law_script") rfl rfl ⟨rfl, by decide, by decide⟩ (fun w h Y => PySem.W.kIn_of Y) ?F
  case F =>
    intro w mg fa h KX G hmg
    refine' L.fin hmg (L.mkT (h := h) (mg := mg) KX G ?aC_Rule ?pg_Rule ?hd_Rule ?po_Rule ?sa_Rule ?mi_Rule ?kc_Rule ?nk_Rule__lead ?nk_Rule__parts ?nk_Rule__period ?at_Rule___init__ ?if_Rule___init__ ?at_Rule_parts ?if_Rule_parts ?rd_Rule ?gt_Rule ?at_Rule_of ?re_Rule_of ?at_Rule_lead ?ge_Rule_lead ?tk_Rule_lead ?re_Rule_lead ?at_Rule_period ?ge_Rule_period ?tk_Rule_period ?re_Rule_period ?a_is_truth ?l_is_truth ?c_is_truth ?k_is_truth ?a_are_bits ?l_are_bits ?c_are_bits ?k_are_bits ?a_is_reader ?l_is_reader ?c_is_reader ?k_is_reader ?a_are_again ?l_are_again ?c_are_again ?k_are_again ?a_place_of ?l_place_of ?c_place_of ?k_place_of ?a_bit_at ?l_bit_at ?c_bit_at ?k_bit_at ?a_joined ?l_joined ?c_joined ?k_joined ?a_digit ?l_digit ?c_digit ?k_digit ?a_first_bits ?l_first_bits ?c_first_bits ?k_first_bits ?a_bits_from ?l_bits_from ?c_bits_from ?k_bits_from ?a_joined_word ?l_joined_word ?c_joined_word ?k_joined_word ?a_are_parts ?l_are_parts ?c_are_parts ?k_are_parts ?a_inner ?l_inner ?c_inner ?k_inner ?a_written ?l_written ?c_written ?k_written ?a_numbers_at ?l_numbers_at ?c_numbers_at ?k_numbers_at ?a_told ?l_told ?c_told ?k_told ?l_Rule___init__ ?c_Rule___init__ ?k_Rule___init__ ?l_Rule_of ?c_Rule_of ?k_Rule_of ?l_Rule_lead ?c_Rule_lead ?k_Rule_lead ?l_Rule_period ?c_Rule_period ?k_Rule_period ?l_Rule_parts ?c_Rule_parts ?k_Rule_parts ?a_word_grid ?l_word_grid ?c_word_grid ?k_word_grid ?a_number_of_grid ?l_number_of_grid ?c_number_of_grid ?k_number_of_grid ?a_grid ?l_grid ?c_grid ?k_grid ?a_class_of ?l_class_of ?c_class_of ?k_class_of ?a_classes ?l_classes ?c_classes ?k_classes ?a_fellow_number ?l_fellow_number ?c_fellow_number ?k_fellow_number ?a_fellow ?l_fellow ?c_fellow ?k_fellow ?a_class_crossings ?l_class_crossings ?c_class_crossings ?k_class_crossings ?a_table ?l_table ?c_table ?k_table ?a_l_bag ?l_l_bag ?c_l_bag ?k_l_bag ?a_l_take ?l_l_take ?c_l_take ?k_l_take ?a_l_alike ?l_l_alike ?c_l_alike ?k_l_alike ?a_l_pick ?l_l_pick ?c_l_pick ?k_l_pick ?a_l_parts ?l_l_parts ?c_l_parts ?k_l_parts ?a_l_drawn_parts ?l_l_drawn_parts ?c_l_drawn_parts ?k_l_drawn_parts ?a_l_small_parts ?l_l_small_parts ?c_l_small_parts ?k_l_small_parts ?a_l_leaves ?l_l_leaves ?c_l_leaves ?k_l_leaves ?a_l_reach ?l_l_reach ?c_l_reach ?k_l_reach ?a_l_bit ?l_l_bit ?c_l_bit ?k_l_bit ?a_l_truth ?l_l_truth ?c_l_truth ?k_l_truth ?a_l_long ?l_l_long ?c_l_long ?k_l_long ?a_l_class ?l_l_class ?c_l_class ?k_l_class ?a_l_due ?l_l_due ?c_l_due ?k_l_due ?a_law ?l_law ?c_law ?k_law ?z_abs ?z_bool ?z_dict ?z_int ?z_isinstance ?b_lcm ?z_len ?z_list ?z_max ?z_min ?z_range ?z_repr ?z_sorted ?z_str ?z_sum ?z_tuple ?m_READERS ?l_READERS ?v_READERS ?m_JOINS ?l_JOINS ?v_JOINS ?m_READ_BY_MOON ?l_READ_BY_MOON ?v_READ_BY_MOON)
    (case aC_Rule => k_is)
    (case pg_Rule => k_is)
    (case hd_Rule => k_is)
    (case po_Rule => k_is)
    (case sa_Rule => k_is)
    (case mi_Rule => k_is)
    (case kc_Rule => k_is)
    (case nk_Rule__lead => k_is)
    (case nk_Rule__parts => k_is)
    (case nk_Rule__period => k_is)
    (case at_Rule___init__ => k_is)
    (case if_Rule___init__ => k_is)
    (case at_Rule_parts => k_is)
    (case if_Rule_parts => k_is)
    (case rd_Rule => k_is)
    (case gt_Rule => k_is)
    (case at_Rule_of => k_is)
    (case re_Rule_of => k_is)
    (case at_Rule_lead => k_is)
    (case ge_Rule_lead => k_is)
    (case tk_Rule_lead => k_is)
    (case re_Rule_lead => k_is)
    (case at_Rule_period => k_is)
    (case ge_Rule_period => k_is)
    (case tk_Rule_period => k_is)
    (case re_Rule_period => k_is)
    (case a_is_truth => k_is)
    (case l_is_truth => k_is)
    (case c_is_truth => k_is)
    (case k_is_truth => k_is)
    (case a_are_bits => k_is)
    (case l_are_bits => k_is)
    (case c_are_bits => k_is)
    (case k_are_bits => k_is)
    (case a_is_reader => k_is)
    (case l_is_reader => k_is)
    (case c_is_reader => k_is)
    (case k_is_reader => k_is)
    (case a_are_again => k_is)
    (case l_are_again => k_is)
    (case c_are_again => k_is)
    (case k_are_again => k_is)
    (case a_place_of => k_is)
    (case l_place_of => k_is)
    (case c_place_of => k_is)
    (case k_place_of => k_is)
    (case a_bit_at => k_is)
    (case l_bit_at => k_is)
    (case c_bit_at => k_is)
    (case k_bit_at => k_is)
    (case a_joined => k_is)
    (case l_joined => k_is)
    (case c_joined => k_is)
    (case k_joined => k_is)
    (case a_digit => k_is)
    (case l_digit => k_is)
    (case c_digit => k_is)
    (case k_digit => k_is)
    (case a_first_bits => k_is)
    (case l_first_bits => k_is)
    (case c_first_bits => k_is)
    (case k_first_bits => k_is)
    (case a_bits_from => k_is)
    (case l_bits_from => k_is)
    (case c_bits_from => k_is)
    (case k_bits_from => k_is)
    (case a_joined_word => k_is)
    (case l_joined_word => k_is)
    (case c_joined_word => k_is)
    (case k_joined_word => k_is)
    (case a_are_parts => k_is)
    (case l_are_parts => k_is)
    (case c_are_parts => k_is)
    (case k_are_parts => k_is)
    (case a_inner => k_is)
    (case l_inner => k_is)
    (case c_inner => k_is)
    (case k_inner => k_is)
    (case a_written => k_is)
    (case l_written => k_is)
    (case c_written => k_is)
    (case k_written => k_is)
    (case a_numbers_at => k_is)
    (case l_numbers_at => k_is)
    (case c_numbers_at => k_is)
    (case k_numbers_at => k_is)
    (case a_told => k_is)
    (case l_told => k_is)
    (case c_told => k_is)
    (case k_told => k_is)
    (case l_Rule___init__ => k_is)
    (case c_Rule___init__ => k_is)
    (case k_Rule___init__ => k_is)
    (case l_Rule_of => k_is)
    (case c_Rule_of => k_is)
    (case k_Rule_of => k_is)
    (case l_Rule_lead => k_is)
    (case c_Rule_lead => k_is)
    (case k_Rule_lead => k_is)
    (case l_Rule_period => k_is)
    (case c_Rule_period => k_is)
    (case k_Rule_period => k_is)
    (case l_Rule_parts => k_is)
    (case c_Rule_parts => k_is)
    (case k_Rule_parts => k_is)
    (case a_word_grid => k_is)
    (case l_word_grid => k_is)
    (case c_word_grid => k_is)
    (case k_word_grid => k_is)
    (case a_number_of_grid => k_is)
    (case l_number_of_grid => k_is)
    (case c_number_of_grid => k_is)
    (case k_number_of_grid => k_is)
    (case a_grid => k_is)
    (case l_grid => k_is)
    (case c_grid => k_is)
    (case k_grid => k_is)
    (case a_class_of => k_is)
    (case l_class_of => k_is)
    (case c_class_of => k_is)
    (case k_class_of => k_is)
    (case a_classes => k_is)
    (case l_classes => k_is)
    (case c_classes => k_is)
    (case k_classes => k_is)
    (case a_fellow_number => k_is)
    (case l_fellow_number => k_is)
    (case c_fellow_number => k_is)
    (case k_fellow_number => k_is)
    (case a_fellow => k_is)
    (case l_fellow => k_is)
    (case c_fellow => k_is)
    (case k_fellow => k_is)
    (case a_class_crossings => k_is)
    (case l_class_crossings => k_is)
    (case c_class_crossings => k_is)
    (case k_class_crossings => k_is)
    (case a_table => k_is)
    (case l_table => k_is)
    (case c_table => k_is)
    (case k_table => k_is)
    (case a_l_bag => k_is)
    (case l_l_bag => k_is)
    (case c_l_bag => k_is)
    (case k_l_bag => k_is)
    (case a_l_take => k_is)
    (case l_l_take => k_is)
    (case c_l_take => k_is)
    (case k_l_take => k_is)
    (case a_l_alike => k_is)
    (case l_l_alike => k_is)
    (case c_l_alike => k_is)
    (case k_l_alike => k_is)
    (case a_l_pick => k_is)
    (case l_l_pick => k_is)
    (case c_l_pick => k_is)
    (case k_l_pick => k_is)
    (case a_l_parts => k_is)
    (case l_l_parts => k_is)
    (case c_l_parts => k_is)
    (case k_l_parts => k_is)
    (case a_l_drawn_parts => k_is)
    (case l_l_drawn_parts => k_is)
    (case c_l_drawn_parts => k_is)
    (case k_l_drawn_parts => k_is)
    (case a_l_small_parts => k_is)
    (case l_l_small_parts => k_is)
    (case c_l_small_parts => k_is)
    (case k_l_small_parts => k_is)
    (case a_l_leaves => k_is)
    (case l_l_leaves => k_is)
    (case c_l_leaves => k_is)
    (case k_l_leaves => k_is)
    (case a_l_reach => k_is)
    (case l_l_reach => k_is)
    (case c_l_reach => k_is)
    (case k_l_reach => k_is)
    (case a_l_bit => k_is)
    (case l_l_bit => k_is)
    (case c_l_bit => k_is)
    (case k_l_bit => k_is)
    (case a_l_truth => k_is)
    (case l_l_truth => k_is)
    (case c_l_truth => k_is)
    (case k_l_truth => k_is)
    (case a_l_long => k_is)
    (case l_l_long => k_is)
    (case c_l_long => k_is)
    (case k_l_long => k_is)
    (case a_l_class => k_is)
    (case l_l_class => k_is)
    (case c_l_class => k_is)
    (case k_l_class => k_is)
    (case a_l_due => k_is)
    (case l_l_due => k_is)
    (case c_l_due => k_is)
    (case k_l_due => k_is)
    (case a_law => k_is)
    (case l_law => k_is)
    (case c_law => k_is)
    (case k_law => k_is)
    (case z_abs => k_is)
    (case z_bool => k_is)
    (case z_dict => k_is)
    (case z_int => k_is)
    (case z_isinstance => k_is)
    (case b_lcm => k_is)
    (case z_len => k_is)
    (case z_list => k_is)
    (case z_max => k_is)
    (case z_min => k_is)
    (case z_range => k_is)
    (case z_repr => k_is)
    (case z_sorted => k_is)
    (case z_str => k_is)
    (case z_sum => k_is)
    (case z_tuple => k_is)
    (case m_READERS => k_is)
    (case l_READERS => k_is)
    (case v_READERS => simp [L2.absV])
    (case m_JOINS => k_is)
    (case l_JOINS => k_is)
    (case v_JOINS => simp [L2.absV])
    (case m_READ_BY_MOON => k_is)
    (case l_READ_BY_MOON => k_is)
    (case v_READ_BY_MOON => simp [L2.absV])



