import PyProof.Rows.All
import Wide.All
import OpenK.AllK
import Wide.FinOn
import HandS.ForExc
import HandS.CallSlots
import HandS.Comp
import HandS.Wide
import HandS.WideBits
import HandS.Lambda
import HandS.Gcd
import HandS.IsInst
import HandS.RaiseMore
import HandS.Iter
import HandS.Flow
import HandS.Defaults
import HandS.NoneIn
import HandS.Deep
import HandS.TupAny
import HandS.EndTab
import HandS.EndOwn
import Flt.RightSqrt
import HandS.SetFor
import HandS.SortInts
import HandS.Strs
import HandS.Style
import PyProof.Rows.BitMore
import KE.DataMinMax
import HandS.Property
import HandS.OwnEq
import PyProof.InstEq
import HandS.Zip
import HandS.More
import HandS.Conv
import HandS.DictComp
import HandS.Small
import KE.GoesMore
import KE.GoesEnum
import KE.GoesZip
import HandS.StrMore
import HandS.FStr
import HandS.Text
import PyProof.StrOps2
import PyProof.ListStr
import PyProof.ReprRoads
import HandS.HotCalls
import HandS.ExcIs
import HandS.TryMany
import KE.KTryMore
import KE.KCallOwn
import HandS.SetBool
import HandS.TupMul
import PyProof.RowDictHeap
import KE.KDflt
import PyProof.Rows.RuleIs
import HandS.ClsMeth
import PySem.Challenge.RW_purepowers_k35_whole_texts_of_roots
set_option Elab.async false
set_option linter.all false
set_option maxRecDepth 100000
set_option maxHeartbeats 4000000
/-! HD1: a data layer over the hand layer: data (tuples by value), a store of what changes, rules that speak of data and store alone. -/
namespace HD
open PySem PySem.Spec PyProof.Rows L2

/-- data: tuples by value; ref k is the k-th thing of the store; ro a list that is only read; adr an object of the written part -/
inductive D where
  | non | bl (b : Bool) | int (i : Int) | str (x : Str) | ty (n : String) | adr (a : Addr) | ref (k : Nat) | tup (xs : List D) | ro (xs : List D)
  | exc (a C dx : Addr) (ns : List Str) (ds : List D)
  /-- a lambda at f, of a code object at c named q, made where the slots were σ -/
  | lam (f c : Addr) (q : Str) (σ : L2.St) (ks : List Bool) (ds : List D)
/-- what may change -/
inductive O where
  | lst (xs : List D)
  /-- a table of code objects, all of the name q -/
  | tab (p : Addr) (q : Str)
  /-- an instance of the class at C -/
  | ins (C : Addr) (fs : List (Str × D))
  /-- a dict whose keys are ints and texts -/
  | dct (kvs : List (Key × D))
abbrev Sto := List O
abbrev En := List (Option D)

def slot : En → Nat → Option D
  | [], _ => none
  | d :: _, 0 => d
  | _ :: r, n + 1 => slot r n
def put : En → Nat → Option D → En
  | [], _, _ => []
  | _ :: r, 0, d => d :: r
  | x :: r, n + 1, d => x :: put r n d
theorem put_length : ∀ (δ : En) (n : Nat) (d : Option D), (put δ n d).length = δ.length
  | [], _, _ => rfl
  | _ :: _, 0, _ => rfl
  | _ :: r, n + 1, d => by
    show (put r n d).length + 1 = r.length + 1
    rw [put_length r n d]
theorem slot_put : ∀ (δ : En) (n m : Nat) (d : Option D) (e : D), slot (put δ n d) m = some e → (m = n ∧ d = some e) ∨ (m ≠ n ∧ slot δ m = some e)
  | [], _, _, _, _, h => by cases h
  | _ :: _, 0, 0, _, _, h => .inl ⟨rfl, h⟩
  | _ :: _, 0, m + 1, _, _, h => .inr ⟨by omega, h⟩
  | _ :: _, n + 1, 0, _, _, h => .inr ⟨by omega, h⟩
  | _ :: r, n + 1, m + 1, d, e, h => by
    rcases slot_put r n m d e h with ⟨a, b⟩ | ⟨a, b⟩
    · exact .inl ⟨by omega, b⟩
    · exact .inr ⟨by omega, b⟩
def cell : Sto → Nat → Option O
  | [], _ => none
  | o :: _, 0 => some o
  | _ :: r, n + 1 => cell r n
theorem cell_lt : ∀ {μ : Sto} {k : Nat} {o : O}, cell μ k = some o → k < μ.length
  | [], _, _, h => by cases h
  | _ :: _, 0, _, _ => Nat.zero_lt_succ _
  | _ :: r, k + 1, _, h => Nat.succ_lt_succ (cell_lt (μ := r) h)
theorem cell_app : ∀ {μ : Sto} {k : Nat} {o : O} (ν : Sto), cell μ k = some o → cell (μ ++ ν) k = some o
  | [], _, _, _, h => by cases h
  | _ :: _, 0, _, _, h => h
  | _ :: r, k + 1, _, ν, h => cell_app (μ := r) ν h
theorem cell_new : ∀ (μ : Sto) (o : O) (ν : Sto), cell (μ ++ o :: ν) μ.length = some o
  | [], _, _ => rfl
  | _ :: r, o, ν => cell_new r o ν
theorem cell_app_iff : ∀ {μ : Sto} {k : Nat} {o u : O}, cell (μ ++ [u]) k = some o → cell μ k = some o ∨ (k = μ.length ∧ o = u)
  | [], 0, _, _, h => .inr ⟨rfl, (Option.some.inj h).symm⟩
  | [], k + 1, _, _, h => by cases h
  | _ :: _, 0, _, _, h => .inl h
  | _ :: r, k + 1, _, _, h => by
    rcases cell_app_iff (μ := r) (k := k) h with a | ⟨a, b⟩
    · exact .inl a
    · exact .inr ⟨by rw [a]; rfl, b⟩
theorem cell_set : ∀ {μ : Sto} {k j : Nat} {o u : O}, cell (μ.set k u) j = some o → (j = k ∧ o = u) ∨ (j ≠ k ∧ cell μ j = some o)
  | [], _, _, _, _, h => by cases h
  | _ :: _, 0, 0, _, _, h => .inl ⟨rfl, (Option.some.inj h).symm⟩
  | _ :: _, 0, j + 1, _, _, h => .inr ⟨by omega, h⟩
  | _ :: _, k + 1, 0, _, _, h => .inr ⟨by omega, h⟩
  | _ :: r, k + 1, j + 1, _, _, h => by
    rcases cell_set (μ := r) (k := k) (j := j) h with ⟨a, b⟩ | ⟨a, b⟩
    · exact .inl ⟨by omega, b⟩
    · exact .inr ⟨by omega, b⟩
theorem cell_set_same : ∀ {μ : Sto} {k : Nat} {u : O}, k < μ.length → cell (μ.set k u) k = some u
  | [], _, _, h => absurd h (Nat.not_lt_zero _)
  | _ :: _, 0, _, _ => rfl
  | _ :: r, k + 1, _, h => cell_set_same (μ := r) (Nat.lt_of_succ_lt_succ h)
theorem cell_set_ne : ∀ {μ : Sto} {k j : Nat} {u : O}, j ≠ k → cell (μ.set k u) j = cell μ j
  | [], _, _, _, _ => rfl
  | _ :: _, 0, 0, _, h => absurd rfl h
  | _ :: _, 0, j + 1, _, _ => rfl
  | _ :: _, k + 1, 0, _, _ => rfl
  | _ :: r, k + 1, j + 1, _, h => cell_set_ne (μ := r) (by omega)
/-- the list at k -/
def lstAt (μ : Sto) (k : Nat) : Option (List D) := match cell μ k with
  | some (.lst xs) => some xs
  | _ => none
theorem lstAt_cell {μ : Sto} {k : Nat} {xs : List D} (h : lstAt μ k = some xs) : cell μ k = some (.lst xs) := by
  unfold lstAt at h
  split at h
  · rename_i ys e
    rw [e]
    rw [Option.some.inj h]
  · cases h
theorem lstAt_of {μ : Sto} {k : Nat} {xs : List D} (h : cell μ k = some (.lst xs)) : lstAt μ k = some xs := by
  unfold lstAt
  rw [h]

/-! ### data and the heap -/
/-- a list that never changes: frozen, or of the written part -/
def Fz (K : PySem.W.Frag) (H : Hp) (a : Addr) (xs : List V) : Prop := (∃ o, H a = some (.frz o (.lst xs))) ∨
  ∃ (o : Obj) (its : Array Value) (n : Nat), K.lookup a = some o ∧ o.cls = .type "list" ∧ o.dict = none ∧ o.data = .seq its n ∧ its.size ≤ sizeLine ∧ Vals xs its.toList
theorem Fz.seq {K : PySem.W.Frag} {H : Hp} {a : Addr} {xs : List V} (h : Fz K H a xs) : SqL K H a xs := by
  rcases h with h | h
  · exact .inl (.inr h)
  · exact .inr h
mutual
def Is (K : PySem.W.Frag) (ι : List Addr) (H : Hp) : D → V → Prop
  | .non, v => v = .non
  | .bl b, v => v = .bl b
  | .int i, v => v = .int i
  | .str x, v => v = .str x
  | .ty n, v => v = .ty n
  | .adr a, v => v = .ref a
  | .ref k, v => ∃ a, ι[k]? = some a ∧ v = .ref a
  | .tup ds, v => ∃ a xs, v = .ref a ∧ SqT K H a xs ∧ IsAll K ι H ds xs
  | .ro ds, v => ∃ a xs, v = .ref a ∧ Fz K H a xs ∧ IsAll K ι H ds xs
  | .exc a _ dx ns ds, v => v = .ref a ∧ ∃ vs, H dx = some (.xd (ns.zip vs)) ∧ vs.length = ns.length ∧ IsAll K ι H ds vs
  | .lam f c q σ ks ds, v => v = .ref f ∧ H c = some (LamX.CodeO c q) ∧ ks.length = σ.length ∧ ds.length = σ.length ∧ ∃ vs, IsAll K ι H ds vs ∧ ∀ (i : Nat) (u : V), ks[i]? = some true → vs[i]? = some u → σ[i]? = some (some u)
def IsAll (K : PySem.W.Frag) (ι : List Addr) (H : Hp) : List D → List V → Prop
  | [], xs => xs = []
  | d :: ds, xs => ∃ v r, xs = v :: r ∧ Is K ι H d v ∧ IsAll K ι H ds r
end
/-- tuples and what is frozen stay -/
structure HX (H H' : Hp) : Prop where
  tup : ∀ b xs, H b = some (.tup xs) → H' b = some (.tup xs)
  frz : ∀ b o u, H b = some (.frz o u) → H' b = some (.frz o u)
  xd : ∀ b gs, H b = some (.xd gs) → H' b = some (.xd gs)
  ext : ∀ b z, H b = some (.ext z) → H' b = some (.ext z)
theorem HX.refl (H : Hp) : HX H H := ⟨fun _ _ e => e, fun _ _ _ e => e, fun _ _ e => e, fun _ _ e => e⟩
theorem HX.trans {H H1 H2 : Hp} (a : HX H H1) (b : HX H1 H2) : HX H H2 := ⟨fun c xs e => b.tup c xs (a.tup c xs e), fun c o u e => b.frz c o u (a.frz c o u e), fun c o e => b.xd c o (a.xd c o e), fun c o e => b.ext c o (a.ext c o e)⟩
theorem HX.new {H : Hp} {p : Addr} {o : HO} (h : H p = none) : HX H (upd H p o) :=
  ⟨fun b xs e => by rw [upd_ne (ne_of_none e h)]; exact e, fun b o' u e => by rw [upd_ne (ne_of_none e h)]; exact e, fun b xs e => by rw [upd_ne (ne_of_none e h)]; exact e, fun b xs e => by rw [upd_ne (ne_of_none e h)]; exact e⟩
theorem HX.lst {H : Hp} {p : Addr} {o : HO} {xs : List V} (h : H p = some (.lst xs)) : HX H (upd H p o) :=
  ⟨fun b ys e => by rw [upd_ne (ne_of e h (fun q => by cases q))]; exact e, fun b o' u e => by rw [upd_ne (ne_of e h (fun q => by cases q))]; exact e, fun b ys e => by rw [upd_ne (ne_of e h (fun q => by cases q))]; exact e, fun b ys e => by rw [upd_ne (ne_of e h (fun q => by cases q))]; exact e⟩
/-- what may be written in its place -/
def mutO : HO → Bool
  | .tup _ => false
  | .frz _ _ => false
  | .xd _ => false
  | .ext _ => false
  | _ => true
theorem HX.mut {H : Hp} {p : Addr} {o u : HO} (h : H p = some u) (m : mutO u = true) : HX H (upd H p o) :=
  ⟨fun b ys e => by rw [upd_ne (ne_of e h (fun q => by subst q; cases m))]; exact e, fun b o' u e => by rw [upd_ne (ne_of e h (fun q => by subst q; cases m))]; exact e, fun b ys e => by rw [upd_ne (ne_of e h (fun q => by subst q; cases m))]; exact e, fun b ys e => by rw [upd_ne (ne_of e h (fun q => by subst q; cases m))]; exact e⟩
theorem sqT_hx {K : PySem.W.Frag} {H H' : Hp} {a : Addr} {xs : List V} (h : SqT K H a xs) (x : HX H H') : SqT K H' a xs := by
  rcases h with (h | ⟨o, h⟩) | h
  · exact .inl (.inl (x.tup _ _ h))
  · exact .inl (.inr ⟨o, x.frz _ _ _ h⟩)
  · exact .inr h
theorem fz_hx {K : PySem.W.Frag} {H H' : Hp} {a : Addr} {xs : List V} (h : Fz K H a xs) (x : HX H H') : Fz K H' a xs := by
  rcases h with ⟨o, h⟩ | h
  · exact .inl ⟨o, x.frz _ _ _ h⟩
  · exact .inr h
structure Stp (ι : List Addr) (H : Hp) (ι' : List Addr) (H' : Hp) : Prop where
  ext : ∀ (k : Nat) (a : Addr), ι[k]? = some a → ι'[k]? = some a
  hx : HX H H'
theorem Stp.refl (ι : List Addr) (H : Hp) : Stp ι H ι H := ⟨fun _ _ e => e, HX.refl H⟩
theorem Stp.trans {ι ι1 ι2 : List Addr} {H H1 H2 : Hp} (a : Stp ι H ι1 H1) (b : Stp ι1 H1 ι2 H2) : Stp ι H ι2 H2 := ⟨fun k x e => b.ext k x (a.ext k x e), a.hx.trans b.hx⟩
section
variable {K : PySem.W.Frag} {ι ι' : List Addr} {H H' : Hp}
mutual
theorem Is.stp (s : Stp ι H ι' H') : ∀ (d : D) (v : V), Is K ι H d v → Is K ι' H' d v
  | .non, _, h => h
  | .bl _, _, h => h
  | .int _, _, h => h
  | .str _, _, h => h
  | .ty _, _, h => h
  | .adr _, _, h => h
  | .ref k, _, h => by
    obtain ⟨a, e, q⟩ := h
    exact ⟨a, s.ext k a e, q⟩
  | .tup ds, _, h => by
    obtain ⟨a, xs, e, q, r⟩ := h
    exact ⟨a, xs, e, sqT_hx q s.hx, IsAll.stp s ds xs r⟩
  | .ro ds, _, h => by
    obtain ⟨a, xs, e, q, r⟩ := h
    exact ⟨a, xs, e, fz_hx q s.hx, IsAll.stp s ds xs r⟩
  | .exc _ _ _ _ ds, _, h => by
    obtain ⟨e, vs, q, l, r⟩ := h
    exact ⟨e, vs, s.hx.xd _ _ q, l, IsAll.stp s ds vs r⟩
  | .lam _ _ _ _ _ ds, _, h => by
    obtain ⟨e, q, l1, l2, vs, r, t⟩ := h
    exact ⟨e, s.hx.ext _ _ q, l1, l2, vs, IsAll.stp s ds vs r, t⟩
theorem IsAll.stp (s : Stp ι H ι' H') : ∀ (ds : List D) (xs : List V), IsAll K ι H ds xs → IsAll K ι' H' ds xs
  | [], _, h => h
  | d :: ds, _, h => by
    obtain ⟨v, r, e, q, t⟩ := h
    exact ⟨v, r, e, Is.stp s d v q, IsAll.stp s ds r t⟩
end
theorem IsAll.length : ∀ {ds : List D} {xs : List V}, IsAll K ι H ds xs → xs.length = ds.length
  | [], _, h => by
    have h' : _ = [] := h
    rw [h'] <;> rfl
  | d :: ds, _, h => by
    obtain ⟨v, r, e, _, t⟩ := h
    rw [e, List.length_cons, List.length_cons, IsAll.length t]
theorem IsAll.get : ∀ {ds : List D} {xs : List V} {i : Nat} {d : D}, IsAll K ι H ds xs → ds[i]? = some d → ∃ v, xs[i]? = some v ∧ Is K ι H d v
  | [], _, _, _, _, e => by simp at e
  | d :: ds, _, 0, _, h, e => by
    obtain ⟨v, r, e1, q, _⟩ := h
    have e' : d = _ := Option.some.inj e
    subst e'
    exact ⟨v, by rw [e1] <;> rfl, q⟩
  | _ :: ds, _, i + 1, _, h, e => by
    obtain ⟨v, r, e1, _, t⟩ := h
    obtain ⟨w, e2, q⟩ := IsAll.get (i := i) t (by simpa using e)
    exact ⟨w, by rw [e1]; simpa using e2, q⟩
theorem IsAll.app : ∀ {ds es : List D} {xs ys : List V}, IsAll K ι H ds xs → IsAll K ι H es ys → IsAll K ι H (ds ++ es) (xs ++ ys)
  | [], _, _, _, h, g => by
    have h' : _ = [] := h
    rw [h']
    exact g
  | _ :: ds, _, _, _, h, g => by
    obtain ⟨v, r, e1, q, t⟩ := h
    rw [e1]
    exact ⟨v, _, rfl, q, IsAll.app t g⟩
theorem IsAll.drop : ∀ {ds : List D} {xs : List V} (n : Nat), IsAll K ι H ds xs → IsAll K ι H (ds.drop n) (xs.drop n)
  | _, _, 0, h => h
  | [], _, n + 1, h => by
    have h' : _ = [] := h
    rw [h']
    exact rfl
  | _ :: ds, _, n + 1, h => by
    obtain ⟨v, r, e1, q, t⟩ := h
    rw [e1]
    exact IsAll.drop n t
theorem IsAll.take : ∀ {ds : List D} {xs : List V} (n : Nat), IsAll K ι H ds xs → IsAll K ι H (ds.take n) (xs.take n)
  | [], _, n, h => by
    have h' : _ = [] := h
    rw [h', List.take_nil, List.take_nil]
    exact rfl
  | _ :: ds, _, 0, h => rfl
  | _ :: ds, _, n + 1, h => by
    obtain ⟨v, r, e1, q, t⟩ := h
    rw [e1]
    exact ⟨v, _, rfl, q, IsAll.take n t⟩
theorem IsAll.set : ∀ {ds : List D} {xs : List V} (n : Nat) {d : D} {v : V}, IsAll K ι H ds xs → Is K ι H d v → IsAll K ι H (ds.set n d) (xs.set n v)
  | [], _, n, _, _, h, _ => by
    have h' : _ = [] := h
    rw [h']
    exact rfl
  | _ :: ds, _, 0, d, v, h, g => by
    obtain ⟨w, r, e1, q, t⟩ := h
    rw [e1]
    exact ⟨v, r, rfl, g, t⟩
  | _ :: ds, _, n + 1, d, v, h, g => by
    obtain ⟨w, r, e1, q, t⟩ := h
    rw [e1]
    exact ⟨w, _, rfl, q, IsAll.set n t g⟩
theorem IsAll.rep {ds : List D} {xs : List V} (h : IsAll K ι H ds xs) : ∀ n : Nat, IsAll K ι H (List.replicate n ds).flatten (List.replicate n xs).flatten
  | 0 => rfl
  | n + 1 => by
    rw [List.replicate_succ, List.replicate_succ, List.flatten_cons, List.flatten_cons]
    exact h.app (IsAll.rep h n)
theorem isAll_ints : ∀ ns : List Int, IsAll K ι H (ns.map D.int) (ns.map V.int)
  | [] => rfl
  | n :: ns => ⟨_, _, rfl, rfl, isAll_ints ns⟩
end

/-- the store and the heap -/
def OIs (K : PySem.W.Frag) (ι : List Addr) (H : Hp) : O → Addr → Prop
  | .lst ds, a => ∃ xs, H a = some (.lst xs) ∧ IsAll K ι H ds xs
  | .tab p q, a => a = p ∧ LamX.TabS H p q
  | .ins C fs, a => ∃ dx vs, H a = some (.ins C dx ((fs.map (·.1)).zip vs)) ∧ IsAll K ι H (fs.map (·.2)) vs
  | .dct kvs, a => ∃ vs, H a = some (.dK ((kvs.map (·.1)).zip vs)) ∧ IsAll K ι H (kvs.map (·.2)) vs
theorem tabS_hx {H H' : Hp} {p : Addr} {q : Str} (t : LamX.TabS H p q) (x : HX H H') (e : H' p = H p) : LamX.TabS H' p q := by
  obtain ⟨ps, h1, h2, h3⟩ := t
  refine ⟨ps, by rw [e]; exact h1, h2, fun pos cv hc => ?_⟩
  obtain ⟨c, e1, e2⟩ := h3 pos cv hc
  exact ⟨c, e1, x.ext _ _ e2⟩
structure Rel (K : PySem.W.Frag) (ι : List Addr) (μ : Sto) (H : Hp) : Prop where
  len : ι.length = μ.length
  inj : ∀ (i j : Nat) (a : Addr), ι[i]? = some a → ι[j]? = some a → i = j
  at_ : ∀ (k : Nat) (o : O), cell μ k = some o → ∃ a, ι[k]? = some a ∧ OIs K ι H o a
theorem Rel.lst {K : PySem.W.Frag} {ι : List Addr} {μ : Sto} {H : Hp} (r : Rel K ι μ H) {k : Nat} {ds : List D} (h : lstAt μ k = some ds) : ∃ a xs, ι[k]? = some a ∧ H a = some (.lst xs) ∧ IsAll K ι H ds xs := by
  obtain ⟨a, e, xs, h1, h2⟩ := r.at_ k _ (lstAt_cell h)
  exact ⟨a, xs, e, h1, h2⟩
section
variable {K : PySem.W.Frag} {ι ι' : List Addr} {μ : Sto} {H H' : Hp}
theorem OIs.tracked {o : O} {a : Addr} (h : OIs K ι H o a) : ∃ u, H a = some u := by
  cases o with
  | lst ds =>
    obtain ⟨xs, e, _⟩ := h
    exact ⟨_, e⟩
  | tab p q =>
    obtain ⟨rfl, ps, e, _⟩ := h
    exact ⟨_, e⟩
  | ins C fs =>
    obtain ⟨dx, vs, e, _⟩ := h
    exact ⟨_, e⟩
  | dct kvs =>
    obtain ⟨vs, e, _⟩ := h
    exact ⟨_, e⟩
theorem OIs.stp {o : O} {a : Addr} (h : OIs K ι H o a) (s : Stp ι H ι' H') (e : H' a = H a) : OIs K ι' H' o a := by
  cases o with
  | lst ds =>
    obtain ⟨xs, e1, q⟩ := h
    exact ⟨xs, by rw [e]; exact e1, IsAll.stp s _ _ q⟩
  | tab p q =>
    obtain ⟨rfl, t⟩ := h
    exact ⟨rfl, tabS_hx t s.hx e⟩
  | ins C fs =>
    obtain ⟨dx, vs, e1, q⟩ := h
    exact ⟨dx, vs, by rw [e]; exact e1, IsAll.stp s _ _ q⟩
  | dct kvs =>
    obtain ⟨vs, e1, q⟩ := h
    exact ⟨vs, by rw [e]; exact e1, IsAll.stp s _ _ q⟩
theorem Stp.new {p : Addr} {o : HO} (h : H p = none) : Stp ι H ι (upd H p o) := ⟨fun _ _ e => e, HX.new h⟩
theorem Stp.push {p : Addr} {o : HO} (h : H p = none) : Stp ι H (ι ++ [p]) (upd H p o) :=
  ⟨fun k a e => by rw [List.getElem?_append_left (List.getElem?_eq_some_iff.mp e).1]; exact e, HX.new h⟩
/-- a new thing that the store does not know -/
theorem Rel.new (r : Rel K ι μ H) {p : Addr} {o : HO} (h : H p = none) : Rel K ι μ (upd H p o) :=
  ⟨r.len, r.inj, fun k u e => by
    obtain ⟨a, e1, q⟩ := r.at_ k u e
    obtain ⟨w, e2⟩ := q.tracked
    exact ⟨a, e1, q.stp (Stp.new h) (upd_ne (ne_of_none e2 h))⟩⟩
/-- a new thing of the store -/
theorem Rel.push (r : Rel K ι μ H) {p : Addr} {o : HO} {u : O} (h : H p = none) (hu : OIs K (ι ++ [p]) (upd H p o) u p) : Rel K (ι ++ [p]) (μ ++ [u]) (upd H p o) := by
  have nin : ∀ k : Nat, ι[k]? = some p → False := fun k e => by
    have hk : k < μ.length := by rw [← r.len]; exact (List.getElem?_eq_some_iff.mp e).1
    have ex : ∃ w, cell μ k = some w := by
      have gen : ∀ (μ : Sto) (k : Nat), k < μ.length → ∃ w, cell μ k = some w := by
        intro μ
        induction μ with
        | nil => intro k h; exact absurd h (Nat.not_lt_zero _)
        | cons w t ih =>
          intro k h
          cases k with
          | zero => exact ⟨w, rfl⟩
          | succ k => exact ih k (Nat.lt_of_succ_lt_succ h)
      exact gen μ k hk
    obtain ⟨w, ew⟩ := ex
    obtain ⟨a, e1, q⟩ := r.at_ k w ew
    rw [e] at e1
    have e1' : p = a := Option.some.inj e1
    subst e1'
    obtain ⟨z, ez⟩ := q.tracked
    rw [h] at ez
    cases ez
  have app : ∀ (i : Nat) (a : Addr), (ι ++ [p])[i]? = some a → ι[i]? = some a ∨ (i = ι.length ∧ a = p) := fun i a e => by
    by_cases hi : i < ι.length
    · rw [List.getElem?_append_left hi] at e
      exact .inl e
    · rw [List.getElem?_append_right (by omega)] at e
      have hz : i - ι.length = 0 := by
        cases hq : i - ι.length with
        | zero => rfl
        | succ n => rw [hq] at e; simp at e
      rw [hz] at e
      exact .inr ⟨by omega, (Option.some.inj e).symm⟩
  refine ⟨by rw [List.length_append, List.length_append, r.len] <;> rfl, fun i j a e1 e2 => ?_, fun k w e => ?_⟩
  · rcases app i a e1 with a1 | ⟨a1, b1⟩
    · rcases app j a e2 with a2 | ⟨a2, b2⟩
      · exact r.inj i j a a1 a2
      · subst b2
        exact (nin i a1).elim
    · subst b1
      rcases app j a e2 with a2 | ⟨a2, b2⟩
      · exact (nin j a2).elim
      · rw [a1, a2]
  · rcases cell_app_iff e with e | ⟨ek, rfl⟩
    · obtain ⟨a, e1, q⟩ := r.at_ k w e
      obtain ⟨z, e2⟩ := q.tracked
      exact ⟨a, (Stp.push (o := o) h).ext k a e1, q.stp (Stp.push h) (upd_ne (ne_of_none e2 h))⟩
    · refine ⟨p, ?_, hu⟩
      rw [ek, ← r.len, List.getElem?_append_right (Nat.le_refl _), Nat.sub_self]
      rfl
theorem Rel.pushLst (r : Rel K ι μ H) {p : Addr} {ds : List D} {xs : List V} (h : H p = none) (hx : IsAll K ι H ds xs) : Rel K (ι ++ [p]) (μ ++ [.lst ds]) (upd H p (.lst xs)) :=
  r.push h ⟨xs, upd_same, IsAll.stp (Stp.push h) _ _ hx⟩
theorem is_pushed (r : Rel K ι μ H) {p : Addr} {H' : Hp} : Is K (ι ++ [p]) H' (.ref μ.length) (.ref p) := by
  refine ⟨p, ?_, rfl⟩
  rw [← r.len, List.getElem?_append_right (Nat.le_refl _), Nat.sub_self]
  rfl
/-- a list of the store is written -/
theorem Rel.write (r : Rel K ι μ H) {k : Nat} {p : Addr} {ds ds' : List D} {xs xs' : List V} (hk : cell μ k = some (.lst ds)) (e : ι[k]? = some p) (hp : H p = some (.lst xs)) (hx : IsAll K ι H ds' xs') : Rel K ι (μ.set k (.lst ds')) (upd H p (.lst xs')) := by
  have s : Stp ι H ι (upd H p (.lst xs')) := ⟨fun _ _ e => e, HX.lst hp⟩
  refine ⟨by rw [List.length_set]; exact r.len, r.inj, fun j w ej => ?_⟩
  rcases cell_set ej with ⟨rfl, rfl⟩ | ⟨hne, ej⟩
  · exact ⟨p, e, xs', upd_same, IsAll.stp s _ _ hx⟩
  · obtain ⟨a, e1, q⟩ := r.at_ j w ej
    refine ⟨a, e1, q.stp s (upd_ne fun z => hne ?_)⟩
    rw [z] at e1
    exact r.inj j k p e1 e
/-- any thing of the store is written -/
theorem Rel.writeO (r : Rel K ι μ H) {k : Nat} {p : Addr} {u0 u : O} {o o' : HO} (hk : cell μ k = some u0) (e : ι[k]? = some p) (hp : H p = some o) (m : mutO o = true) (hu : OIs K ι (upd H p o') u p) : Rel K ι (μ.set k u) (upd H p o') := by
  have s : Stp ι H ι (upd H p o') := ⟨fun _ _ e => e, HX.mut hp m⟩
  refine ⟨by rw [List.length_set]; exact r.len, r.inj, fun j w ej => ?_⟩
  rcases cell_set ej with ⟨rfl, rfl⟩ | ⟨hne, ej⟩
  · exact ⟨p, e, hu⟩
  · obtain ⟨a, e1, q⟩ := r.at_ j w ej
    refine ⟨a, e1, q.stp s (upd_ne fun z => hne ?_)⟩
    rw [z] at e1
    exact r.inj j k p e1 e
theorem Stp.mut {p : Addr} {o u : HO} (h : H p = some u) (m : mutO u = true) : Stp ι H ι (upd H p o) := ⟨fun _ _ e => e, HX.mut h m⟩
theorem Stp.wr {p : Addr} {o : HO} {xs : List V} (h : H p = some (.lst xs)) : Stp ι H ι (upd H p o) := ⟨fun _ _ e => e, HX.lst h⟩
end

/-! ### the slots -/
structure EnvIs (K : PySem.W.Frag) (ι : List Addr) (H : Hp) (δ : En) (σ : L2.St) : Prop where
  len : δ.length = σ.length
  at_ : ∀ (i : Nat) (d : D), slot δ i = some d → ∃ v, σ[i]? = some (some v) ∧ Is K ι H d v
theorem slot_lt : ∀ {δ : En} {i : Nat} {d : D}, slot δ i = some d → i < δ.length
  | [], _, _, h => by cases h
  | _ :: _, 0, _, _ => Nat.zero_lt_succ _
  | _ :: r, i + 1, _, h => Nat.succ_lt_succ (slot_lt (δ := r) h)
section
variable {K : PySem.W.Frag} {ι ι' : List Addr} {H H' : Hp} {δ : En} {σ : L2.St}
theorem EnvIs.stp (e : EnvIs K ι H δ σ) (s : Stp ι H ι' H') : EnvIs K ι' H' δ σ := ⟨e.len, fun i d h => by
  obtain ⟨v, e1, q⟩ := e.at_ i d h
  exact ⟨v, e1, Is.stp s d v q⟩⟩
theorem EnvIs.put (e : EnvIs K ι H δ σ) {i : Nat} {d : D} {v : V} (h : Is K ι H d v) : EnvIs K ι H (put δ i (some d)) (σ.set i (some v)) :=
  ⟨by rw [put_length, List.length_set]; exact e.len, fun j f hj => by
    rcases slot_put δ i j (some d) f hj with ⟨rfl, q⟩ | ⟨hne, q⟩
    · cases q
      have hl : j < (HD.put δ j (some d)).length := slot_lt hj
      rw [put_length, e.len] at hl
      exact ⟨v, List.getElem?_set_self hl, h⟩
    · obtain ⟨w, e1, q2⟩ := e.at_ j f q
      exact ⟨w, by rw [List.getElem?_set_ne (Ne.symm hne)]; exact e1, q2⟩⟩
theorem EnvIs.drop (e : EnvIs K ι H δ σ) {i : Nat} (u : Option V) : EnvIs K ι H (HD.put δ i none) (σ.set i u) :=
  ⟨by rw [put_length, List.length_set]; exact e.len, fun j f hj => by
    rcases slot_put δ i j none f hj with ⟨rfl, q⟩ | ⟨hne, q⟩
    · cases q
    · obtain ⟨w, e1, q2⟩ := e.at_ j f q
      exact ⟨w, by rw [List.getElem?_set_ne (Ne.symm hne)]; exact e1, q2⟩⟩
end

/-! ### what is wished -/
/-- of an exception: the slots, its class, its fields, the store -/
abbrev XD := En → Addr → List (Str × D) → Sto → Prop
def FsIs (K : PySem.W.Frag) (ι : List Addr) (H : Hp) (fs : List (Str × D)) (gs : List (Str × V)) : Prop := gs.map (·.1) = fs.map (·.1) ∧ IsAll K ι H (fs.map (·.2)) (gs.map (·.2))
/-- the dict of an exception, perhaps none -/
def DxIs (K : PySem.W.Frag) (ι : List Addr) (H : Hp) (fs : List (Str × D)) (d : Option Addr) : Prop := match d with
  | some dx => ∃ gs, H dx = some (.xd gs) ∧ FsIs K ι H fs gs
  | none => fs = []
def XL (K : PySem.W.Frag) (W : WX) (ι : List Addr) (H : Hp) (R : XD) : Prop := ∀ ι' μ' δ' σ' H' C fs d, Stp ι H ι' H' → Rel K ι' μ' H' → EnvIs K ι' H' δ' σ' → DxIs K ι' H' fs d → R δ' C fs μ' → W (.ref C) d σ' H'
theorem XL.stp {K : PySem.W.Frag} {W : WX} {ι ι' : List Addr} {H H' : Hp} {R : XD} (x : XL K W ι H R) (s : Stp ι H ι' H') : XL K W ι' H' R :=
  fun ι2 μ2 δ2 σ2 H2 C fs d s2 r e f q => x ι2 μ2 δ2 σ2 H2 C fs d (s.trans s2) r e f q
abbrev WE := XD → En → Sto → (D → Sto → Prop) → Prop
abbrev WT := XD → En → Sto → (Bool → Sto → Prop) → Prop
abbrev WA := XD → En → Sto → (List D → Sto → Prop) → Prop
/-- where one stands -/
structure Cn (K : PySem.W.Frag) (W : WX) (ι : List Addr) (μ : Sto) (H : Hp) (δ : En) (σ : L2.St) (R : XD) : Prop where
  rel : Rel K ι μ H
  env : EnvIs K ι H δ σ
  xl : XL K W ι H R
theorem Cn.stp {K : PySem.W.Frag} {W : WX} {ι ι' : List Addr} {μ μ' : Sto} {H H' : Hp} {δ : En} {σ : L2.St} {R : XD} (c : Cn K W ι μ H δ σ R) (s : Stp ι H ι' H') (r : Rel K ι' μ' H') : Cn K W ι' μ' H' δ σ R := ⟨r, c.env.stp s, c.xl.stp s⟩
def Kt (K : PySem.W.Frag) (ι : List Addr) (H : Hp) (P : D → Sto → Prop) (Q : VK) : Prop := ∀ v d ι' μ' H', Stp ι H ι' H' → Rel K ι' μ' H' → Is K ι' H' d v → P d μ' → Q v H'
def KtB (K : PySem.W.Frag) (ι : List Addr) (H : Hp) (P : Bool → Sto → Prop) (Q : Bool → Hp → Prop) : Prop := ∀ b ι' μ' H', Stp ι H ι' H' → Rel K ι' μ' H' → P b μ' → Q b H'
def KtA (K : PySem.W.Frag) (ι : List Addr) (H : Hp) (P : List D → Sto → Prop) (Q : List V → Hp → Prop) : Prop := ∀ vs ds ι' μ' H', Stp ι H ι' H' → Rel K ι' μ' H' → IsAll K ι' H' ds vs → P ds μ' → Q vs H'
theorem Kt.stp {K : PySem.W.Frag} {ι ι' : List Addr} {H H' : Hp} {P : D → Sto → Prop} {Q : VK} (k : Kt K ι H P Q) (s : Stp ι H ι' H') : Kt K ι' H' P Q := fun v d ι2 μ2 H2 s2 r i q => k v d ι2 μ2 H2 (s.trans s2) r i q
theorem KtB.stp {K : PySem.W.Frag} {ι ι' : List Addr} {H H' : Hp} {P : Bool → Sto → Prop} {Q : Bool → Hp → Prop} (k : KtB K ι H P Q) (s : Stp ι H ι' H') : KtB K ι' H' P Q := fun v ι2 μ2 H2 s2 r q => k v ι2 μ2 H2 (s.trans s2) r q
theorem KtA.stp {K : PySem.W.Frag} {ι ι' : List Addr} {H H' : Hp} {P : List D → Sto → Prop} {Q : List V → Hp → Prop} (k : KtA K ι H P Q) (s : Stp ι H ι' H') : KtA K ι' H' P Q := fun v d ι2 μ2 H2 s2 r i q => k v d ι2 μ2 H2 (s.trans s2) r i q
/-- the value itself, nothing has changed -/
theorem Kt.at {K : PySem.W.Frag} {ι : List Addr} {μ : Sto} {H : Hp} {P : D → Sto → Prop} {Q : VK} (k : Kt K ι H P Q) (r : Rel K ι μ H) {d : D} {v : V} (i : Is K ι H d v) (p : P d μ) : Q v H := k v d ι μ H (Stp.refl ι H) r i p

def RE (K : PySem.W.Frag) (W : WX) (t : TE) (w : WE) : Prop := ∀ R ι μ δ σ H P Q, Cn K W ι μ H δ σ R → w R δ μ P → Kt K ι H P Q → t σ H Q
def RT (K : PySem.W.Frag) (W : WX) (t : TT) (w : WT) : Prop := ∀ R ι μ δ σ H P Q, Cn K W ι μ H δ σ R → w R δ μ P → KtB K ι H P Q → t σ H Q
def RA (K : PySem.W.Frag) (W : WX) (t : TA) (w : WA) : Prop := ∀ R ι μ δ σ H P Q, Cn K W ι μ H δ σ R → w R δ μ P → KtA K ι H P Q → t σ H Q
def QE (X : Cx) (W : WX) (e : Expr) (w : WE) : Prop := ∃ t, PE X e t ∧ RE X.K W t w
def QT (X : Cx) (W : WX) (e : Expr) (w : WT) : Prop := ∃ t, PT X e t ∧ RT X.K W t w
def QW (X : Cx) (W : WX) (e : Expr) (w : WT) : Prop := ∃ t, PW X e t ∧ RT X.K W t w
def QA (X : Cx) (W : WX) (es : List Expr) (w : WA) : Prop := ∃ t, PA X es t ∧ RA X.K W t w
def QK (X : Cx) (W : WX) (ks : List Keyword) (w : WA) : Prop := ∃ t, PK X ks t ∧ RA X.K W t w

/-! ### expressions -/
section
variable {X : Cx} {W : WX} {e a b c : Expr} {es : List Expr} {wa wb wc : WE} {pos p : Pos}
def wVar (i : Nat) : WE := fun _ δ μ P => match slot δ i with
  | some d => P d μ
  | none => False
theorem q_var (i : Nat) {x : Str} (hN : X.N[i]? = some x) (hv : Vis X.env.scope x) (hd : (x == ("__debug__" : Str)) = false := by decide) (hcd : (x == ("__classdict__" : Str)) = false := by decide) : QE X W (.Name x pos) (wVar i) := by
  refine ⟨_, pe_var hN hv hd hcd, fun R ι μ δ σ H P Q c h k => ?_⟩
  unfold wVar at h
  split at h
  · rename_i d e
    obtain ⟨v, e1, q⟩ := c.env.at_ i d e
    exact ⟨v, e1, k.at c.rel q h⟩
  · exact h.elim
def wC (d : D) : WE := fun _ _ μ P => P d μ
theorem q_int {i j} : QE X W (.Constant (.int i) j pos) (wC (.int i)) := ⟨_, pe_int, fun _ _ _ _ _ _ _ _ c h k => k.at c.rel (d := .int i) rfl h⟩
theorem q_bl {i j} : QE X W (.Constant (.bool i) j pos) (wC (.bl i)) := ⟨_, pe_bl, fun _ _ _ _ _ _ _ _ c h k => k.at c.rel (d := .bl i) rfl h⟩
theorem q_non {j} : QE X W (.Constant .none j pos) (wC .non) := ⟨_, pe_non, fun _ _ _ _ _ _ _ _ c h k => k.at c.rel (d := .non) rfl h⟩
theorem q_str {x j} : QE X W (.Constant (.str x) j pos) (wC (.str x)) := ⟨_, pe_str, fun _ _ _ _ _ _ _ _ c h k => k.at c.rel (d := .str x) rfl h⟩
/-- a constant of the module: an int -/
theorem q_globI {x : Str} {i : Int} {t : Tok} (hg : Gl X x) (hm : X.mg x = some (.int i t)) (hd : (x == ("__debug__" : Str)) = false := by decide) : QE X W (.Name x pos) (wC (.int i)) :=
  ⟨_, pe_glob (v := .int i) hg hm ⟨t, rfl⟩ hd, fun _ _ _ _ _ _ _ _ c h k => k.at c.rel (d := .int i) rfl h⟩
theorem q_globA {x : Str} {f : Addr} (hg : Gl X x) (hm : X.mg x = some (.ref f)) (hd : (x == ("__debug__" : Str)) = false := by decide) : QE X W (.Name x pos) (wC (.adr f)) :=
  ⟨_, pe_glob (v := .ref f) hg hm rfl hd, fun _ _ _ _ _ _ _ _ c h k => k.at c.rel (d := .adr f) rfl h⟩

/-- two-place operations on data -/
abbrev WO := D → D → Sto → (D → Sto → Prop) → Prop
def RO (K : PySem.W.Frag) (r : R2) (w : WO) : Prop := ∀ ι μ H x y d e P Q, Rel K ι μ H → Is K ι H d x → Is K ι H e y → w d e μ P → Kt K ι H P Q → r x y H Q
def QO (X : Cx) (f : Value → Value → Sem Value) (w : WO) : Prop := ∃ r, OpR X f r ∧ RO X.K r w
def wOp (w : WO) (wa wb : WE) : WE := fun R δ μ P => wa R δ μ fun d μ1 => wb R δ μ1 fun e μ2 => w d e μ2 P
theorem re_op {K : PySem.W.Frag} {ta tb : TE} {r : R2} {w : WO} (ha : RE K W ta wa) (hb : RE K W tb wb) (hr : RO K r w) : RE K W (tOp r ta tb) (wOp w wa wb) := fun R ι μ δ σ H P Q c h k =>
  ha R ι μ δ σ H _ _ c h fun v d ι1 μ1 H1 s1 r1 i1 h1 =>
    hb R ι1 μ1 δ σ H1 _ _ (c.stp s1 r1) h1 fun u e ι2 μ2 H2 s2 r2 i2 h2 =>
      hr ι2 μ2 H2 v u d e P Q r2 (Is.stp s2 d v i1) i2 h2 (k.stp (s1.trans s2))
theorem q_op {op : Operator} {w : WO} (ho : QO X (binaryOp op) w) (ha : QE X W a wa) (hb : QE X W b wb) : QE X W (.BinOp a op b pos) (wOp w wa wb) := by
  obtain ⟨r, h1, h2⟩ := ho
  obtain ⟨ta, a1, a2⟩ := ha
  obtain ⟨tb, b1, b2⟩ := hb
  exact ⟨_, pe_op h1 a1 b1, re_op a2 b2 h2⟩
theorem q_cmp {op : CmpOp} {w : WO} (ho : QO X (compareOp op) w) (ha : QE X W a wa) (hb : QE X W b wb) (hm : behindInMarks op b = false) : QE X W (.Compare a [op] [b] pos) (wOp w wa wb) := by
  obtain ⟨r, h1, h2⟩ := ho
  obtain ⟨ta, a1, a2⟩ := ha
  obtain ⟨tb, b1, b2⟩ := hb
  exact ⟨_, pe_cmpR h1 a1 b1 hm, re_op a2 b2 h2⟩
/-- a truth value as a test -/
def wB (w : WE) : WT := fun R δ μ P => w R δ μ fun d μ1 => match d with
  | .bl k => P k μ1
  | _ => False
theorem rt_test {K : PySem.W.Frag} {t : TE} {w : WE} (h : RE K W t w) : RT K W (tTest t) (wB w) := fun R ι μ δ σ H P Q c hw k =>
  h R ι μ δ σ H _ _ c hw fun v d ι1 μ1 H1 s1 r1 i1 h1 => by
    cases d with
    | bl b =>
      have e : v = .bl b := i1
      exact ⟨b, e, k b ι1 μ1 H1 s1 r1 h1⟩
    | _ => exact h1.elim
theorem qt_cmp {op : CmpOp} {w : WO} (ho : QO X (compareOp op) w) (ha : QE X W a wa) (hb : QE X W b wb) (hm : behindInMarks op b = false) : QT X W (.Compare a [op] [b] pos) (wB (wOp w wa wb)) := by
  obtain ⟨r, h1, h2⟩ := ho
  obtain ⟨ta, a1, a2⟩ := ha
  obtain ⟨tb, b1, b2⟩ := hb
  exact ⟨_, pt_cmpR h1 a1 b1 hm, rt_test (re_op a2 b2 h2)⟩
/-- a op b op' c -/
def wChain (w w' : WO) (wa wb wc : WE) : WE := fun R δ μ P => wa R δ μ fun d μ1 => wb R δ μ1 fun e μ2 => w d e μ2 fun z μ3 => match z with
  | .bl true => wc R δ μ3 fun f μ4 => w' e f μ4 P
  | .bl false => P (.bl false) μ3
  | _ => False
theorem re_chain {K : PySem.W.Frag} {ta tb tc : TE} {r r' : R2} {w w' : WO} (ha : RE K W ta wa) (hb : RE K W tb wb) (hc : RE K W tc wc) (hr : RO K r w) (hr' : RO K r' w') : RE K W (tChain r r' ta tb tc) (wChain w w' wa wb wc) := fun R ι μ δ σ H P Q c h k =>
  ha R ι μ δ σ H _ _ c h fun v d ι1 μ1 H1 s1 r1 i1 h1 =>
    hb R ι1 μ1 δ σ H1 _ _ (c.stp s1 r1) h1 fun u e ι2 μ2 H2 s2 r2 i2 h2 =>
      hr ι2 μ2 H2 v u d e _ _ r2 (Is.stp s2 d v i1) i2 h2 fun z f ι3 μ3 H3 s3 r3 i3 h3 => by
        cases f with
        | bl b =>
          have ez : z = .bl b := i3
          subst ez
          cases b with
          | true =>
            refine ⟨true, rfl, ?_⟩
            rw [if_pos rfl]
            exact hc R ι3 μ3 δ σ H3 _ _ (c.stp ((s1.trans s2).trans s3) r3) h3 fun y g ι4 μ4 H4 s4 r4 i4 h4 =>
              hr' ι4 μ4 H4 u y e g P Q r4 (Is.stp (s3.trans s4) e u i2) i4 h4 (k.stp (((s1.trans s2).trans s3).trans s4))
          | false =>
            refine ⟨false, rfl, ?_⟩
            rw [if_neg Bool.false_ne_true]
            exact k (.bl false) (.bl false) ι3 μ3 H3 ((s1.trans s2).trans s3) r3 rfl h3
        | _ => exact h3.elim
theorem q_chain {op op' : CmpOp} {w w' : WO} (ho : QO X (compareOp op) w) (ho' : QO X (compareOp op') w') (ha : QE X W a wa) (hb : QE X W b wb) (hc : QE X W c wc)
    (hm : lastMarks [op, op'] [b, c] = false := by with_unfolding_all rfl) : QE X W (.Compare a [op, op'] [b, c] pos) (wChain w w' wa wb wc) := by
  obtain ⟨r, h1, h2⟩ := ho
  obtain ⟨r', h3, h4⟩ := ho'
  obtain ⟨ta, a1, a2⟩ := ha
  obtain ⟨tb, b1, b2⟩ := hb
  obtain ⟨tc, c1, c2⟩ := hc
  exact ⟨_, pe_chain h1 h3 a1 b1 c1 hm, re_chain a2 b2 c2 h2 h4⟩
theorem qt_chain {op op' : CmpOp} {w w' : WO} (ho : QO X (compareOp op) w) (ho' : QO X (compareOp op') w') (ha : QE X W a wa) (hb : QE X W b wb) (hc : QE X W c wc)
    (hm : lastMarks [op, op'] [b, c] = false := by with_unfolding_all rfl) : QT X W (.Compare a [op, op'] [b, c] pos) (wB (wChain w w' wa wb wc)) := by
  obtain ⟨r, h1, h2⟩ := ho
  obtain ⟨r', h3, h4⟩ := ho'
  obtain ⟨ta, a1, a2⟩ := ha
  obtain ⟨tb, b1, b2⟩ := hb
  obtain ⟨tc, c1, c2⟩ := hc
  exact ⟨_, pt_chain h1 h3 a1 b1 c1 hm, rt_test (re_chain a2 b2 c2 h2 h4)⟩
/-- and, or, not of tests -/
def wAnd (u v : WT) : WT := fun R δ μ P => u R δ μ fun k μ1 => match k with
  | true => v R δ μ1 P
  | false => P false μ1
def wOr (u v : WT) : WT := fun R δ μ P => u R δ μ fun k μ1 => match k with
  | true => P true μ1
  | false => v R δ μ1 P
def wNot (u : WT) : WT := fun R δ μ P => u R δ μ fun k μ1 => P (!k) μ1
theorem rt_and {K : PySem.W.Frag} {t u : TT} {w v : WT} (h1 : RT K W t w) (h2 : RT K W u v) : RT K W (tAnd t u) (wAnd w v) := fun R ι μ δ σ H P Q c h k =>
  h1 R ι μ δ σ H _ _ c h fun b ι1 μ1 H1 s1 r1 q1 => by
    cases b with
    | true =>
      show u σ H1 Q
      exact h2 R ι1 μ1 δ σ H1 P Q (c.stp s1 r1) q1 (k.stp s1)
    | false =>
      show Q false H1
      exact k false ι1 μ1 H1 s1 r1 q1
theorem rt_or {K : PySem.W.Frag} {t u : TT} {w v : WT} (h1 : RT K W t w) (h2 : RT K W u v) : RT K W (tOr t u) (wOr w v) := fun R ι μ δ σ H P Q c h k =>
  h1 R ι μ δ σ H _ _ c h fun b ι1 μ1 H1 s1 r1 q1 => by
    cases b with
    | false =>
      show u σ H1 Q
      exact h2 R ι1 μ1 δ σ H1 P Q (c.stp s1 r1) q1 (k.stp s1)
    | true =>
      show Q true H1
      exact k true ι1 μ1 H1 s1 r1 q1
theorem rt_not {K : PySem.W.Frag} {t : TT} {w : WT} (h1 : RT K W t w) : RT K W (tNot t) (wNot w) := fun R ι μ δ σ H P Q c h k =>
  h1 R ι μ δ σ H _ _ c h fun b ι1 μ1 H1 s1 r1 q1 => k (!b) ι1 μ1 H1 s1 r1 q1
theorem qw_and1 {w : WT} (h : QT X W a w) : QW X W (.BoolOp .And [a] pos) w := by
  obtain ⟨t, h1, h2⟩ := h
  exact ⟨_, pw_and1 h1, h2⟩
theorem qw_or1 {w : WT} (h : QT X W a w) : QW X W (.BoolOp .Or [a] pos) w := by
  obtain ⟨t, h1, h2⟩ := h
  exact ⟨_, pw_or1 h1, h2⟩
theorem qw_and {w v : WT} {rest : List Expr} (h : QT X W a w) (h' : QW X W (.BoolOp .And (b :: rest) pos) v) : QW X W (.BoolOp .And (a :: b :: rest) pos) (wAnd w v) := by
  obtain ⟨t, h1, h2⟩ := h
  obtain ⟨t', h3, h4⟩ := h'
  exact ⟨_, pw_and h1 h3, rt_and h2 h4⟩
theorem qw_or {w v : WT} {rest : List Expr} (h : QT X W a w) (h' : QW X W (.BoolOp .Or (b :: rest) pos) v) : QW X W (.BoolOp .Or (a :: b :: rest) pos) (wOr w v) := by
  obtain ⟨t, h1, h2⟩ := h
  obtain ⟨t', h3, h4⟩ := h'
  exact ⟨_, pw_or h1 h3, rt_or h2 h4⟩
theorem qt_bool {w : WT} (h : QW X W a w) : QT X W a w := by
  obtain ⟨t, h1, h2⟩ := h
  exact ⟨_, h1.pt, h2⟩
theorem qt_not {w : WT} (h : QT X W a w) : QT X W (.UnaryOp .Not a pos) (wNot w) := by
  obtain ⟨t, h1, h2⟩ := h
  exact ⟨_, pt_not h1, rt_not h2⟩
/-- .. as values (truth values) -/
def wAndV (u v : WE) : WE := fun R δ μ P => u R δ μ fun d μ1 => match d with
  | .bl true => v R δ μ1 P
  | .bl false => P (.bl false) μ1
  | _ => False
def wOrV (u v : WE) : WE := fun R δ μ P => u R δ μ fun d μ1 => match d with
  | .bl true => P (.bl true) μ1
  | .bl false => v R δ μ1 P
  | _ => False
def wNotV (u : WE) : WE := fun R δ μ P => u R δ μ fun d μ1 => match d with
  | .bl k => P (.bl (!k)) μ1
  | _ => False
theorem q_one {op} (h : QE X W a wa) : QE X W (.BoolOp op [a] pos) wa := by
  obtain ⟨t, h1, h2⟩ := h
  exact ⟨_, pe_one h1, h2⟩
theorem q_and {rest : List Expr} (h : QE X W a wa) (h' : QE X W (.BoolOp .And (b :: rest) pos) wb) : QE X W (.BoolOp .And (a :: b :: rest) pos) (wAndV wa wb) := by
  obtain ⟨t, h1, h2⟩ := h
  obtain ⟨t', h3, h4⟩ := h'
  refine ⟨_, pe_and h1 h3, fun R ι μ δ σ H P Q c hw k => h2 R ι μ δ σ H _ _ c hw fun v d ι1 μ1 H1 s1 r1 i1 q1 => ?_⟩
  cases d with
  | bl z =>
    have ez : v = .bl z := i1
    subst ez
    refine ⟨z, rfl, ?_⟩
    cases z with
    | true =>
      rw [if_pos rfl]
      exact h4 R ι1 μ1 δ σ H1 P Q (c.stp s1 r1) q1 (k.stp s1)
    | false =>
      rw [if_neg Bool.false_ne_true]
      exact k _ (.bl false) ι1 μ1 H1 s1 r1 rfl q1
  | _ => exact q1.elim
/-- a if t else b -/
def wIf (t : WT) (u v : WE) : WE := fun R δ μ P => t R δ μ fun k μ1 => match k with
  | true => u R δ μ1 P
  | false => v R δ μ1 P
theorem q_if {t : WT} (hc : QT X W c t) (ha : QE X W a wa) (hb : QE X W b wb) : QE X W (.IfExp c a b pos) (wIf t wa wb) := by
  obtain ⟨tc, c1, c2⟩ := hc
  obtain ⟨ta, a1, a2⟩ := ha
  obtain ⟨tb, b1, b2⟩ := hb
  refine ⟨_, pe_ifExp c1 a1 b1, fun R ι μ δ σ H P Q c hw k => c2 R ι μ δ σ H _ _ c hw fun z ι1 μ1 H1 s1 r1 q1 => ?_⟩
  cases z with
  | true =>
    show ta σ H1 Q
    exact a2 R ι1 μ1 δ σ H1 P Q (c.stp s1 r1) q1 (k.stp s1)
  | false =>
    show tb σ H1 Q
    exact b2 R ι1 μ1 δ σ H1 P Q (c.stp s1 r1) q1 (k.stp s1)

/-! ### arguments, displays -/
def wNil : WA := fun _ _ μ P => P [] μ
def wCons (w : WE) (ws : WA) : WA := fun R δ μ P => w R δ μ fun d μ1 => ws R δ μ1 fun ds μ2 => P (d :: ds) μ2
theorem ra_nil {K : PySem.W.Frag} : RA K W tNil wNil := fun R ι μ δ σ H P Q c h k => k [] [] ι μ H (Stp.refl ι H) c.rel rfl h
theorem ra_cons {K : PySem.W.Frag} {t : TE} {ts : TA} {w : WE} {ws : WA} (h1 : RE K W t w) (h2 : RA K W ts ws) : RA K W (tCons t ts) (wCons w ws) := fun R ι μ δ σ H P Q c h k =>
  h1 R ι μ δ σ H _ _ c h fun v d ι1 μ1 H1 s1 r1 i1 q1 =>
    h2 R ι1 μ1 δ σ H1 _ _ (c.stp s1 r1) q1 fun vs ds ι2 μ2 H2 s2 r2 i2 q2 =>
      k (v :: vs) (d :: ds) ι2 μ2 H2 (s1.trans s2) r2 ⟨v, vs, rfl, Is.stp s2 d v i1, i2⟩ q2
theorem qa_nil : QA X W [] wNil := ⟨_, pa_nil, ra_nil⟩
theorem qa_cons {ws : WA} (h : QE X W e wa) (h' : QA X W es ws) (hs : starEach (e :: es) X.env = (false, eval e X.env) :: starEach es X.env := by rfl) : QA X W (e :: es) (wCons wa ws) := by
  obtain ⟨t, h1, h2⟩ := h
  obtain ⟨t', h3, h4⟩ := h'
  exact ⟨_, pa_cons h1 h3 hs, ra_cons h2 h4⟩
theorem qk_nil : QK X W [] wNil := ⟨_, pk_nil, ra_nil⟩
theorem qk_cons {ws : WA} {nm : Option Str} {kpos : Pos} {kws : List Keyword} (h : QE X W e wa) (h' : QK X W kws ws) : QK X W (⟨nm, e, kpos⟩ :: kws) (wCons wa ws) := by
  obtain ⟨t, h1, h2⟩ := h
  obtain ⟨t', h3, h4⟩ := h'
  exact ⟨_, pk_cons h1 h3, ra_cons h2 h4⟩
def wTup (ws : WA) : WE := fun R δ μ P => ws R δ μ fun ds μ1 => ds.length ≤ 1000 ∧ P (.tup ds) μ1
def wLst (ws : WA) : WE := fun R δ μ P => ws R δ μ fun ds μ1 => ds.length ≤ 1000 ∧ P (.ref μ1.length) (μ1 ++ [.lst ds])
theorem le_line {n : Nat} (h : n ≤ 1000) : n ≤ sizeLine := Nat.le_of_lt (small1000 h)
theorem q_tup {ws : WA} {x1} (h : QA X W es ws) : QE X W (.Tuple es x1 pos) (wTup ws) := by
  obtain ⟨t, h1, h2⟩ := h
  refine ⟨_, pe_tup h1, fun R ι μ δ σ H P Q c hw k => h2 R ι μ δ σ H _ _ c hw fun vs ds ι1 μ1 H1 s1 r1 i1 q1 => ?_⟩
  refine ⟨by rw [i1.length]; exact le_line q1.1, fun p hp => ?_⟩
  exact k (.ref p) (.tup ds) ι1 μ1 _ (s1.trans (Stp.new hp)) (r1.new hp) ⟨p, vs, rfl, SqT.of upd_same, IsAll.stp (Stp.new hp) _ _ i1⟩ q1.2
theorem q_lst {ws : WA} (h : QA X W es ws) : QE X W (.List es pos) (wLst ws) := by
  obtain ⟨t, h1, h2⟩ := h
  refine ⟨_, pe_lst h1, fun R ι μ δ σ H P Q c hw k => h2 R ι μ δ σ H _ _ c hw fun vs ds ι1 μ1 H1 s1 r1 i1 q1 => ?_⟩
  refine ⟨by rw [i1.length]; exact le_line q1.1, fun p hp => ?_⟩
  exact k (.ref p) (.ref μ1.length) (ι1 ++ [p]) _ _ (s1.trans (Stp.push hp)) (r1.pushLst hp i1) (is_pushed r1) q1.2
end
end HD
/-! HD2: defs that know that nothing is being shown (guards), their calls; statements. -/
namespace HD
open PySem PySem.Spec PyProof.Rows L2

/-! ### defs -/
structure FnG (P : Program) (w : World) (K : PySem.W.Frag) (mg : Str → Option Value) (base : Heap) (k : Nat) (f : Addr) (fd : FuncData) (ps : List Str) (sp : Sp) : Prop where
  len : ∀ vs H Q E, sp vs H Q E → vs.length = ps.length
  run : ∀ (A : Around) (outer : List Env) (s : Shared) (H : Hp) (args : Args) (us : List Value) (vs : List V) (Q : VK) (E : XK), A.guards = some [] → Room k A →
    Env0 P w K mg base A outer s H → BindsTo s fd args (ps.zip us) → Vals vs us → sp vs H Q E → codeAny (model P w) A (.call (.ref f) args) (CR (L2.CX P w) outer P w H s Q E) s
theorem FnG.mono {P : Program} {w : World} {K : PySem.W.Frag} {mg : Str → Option Value} {base : Heap} {j k : Nat} {f : Addr} {fd : FuncData} {ps : List Str} {sp : Sp} (F : FnG P w K mg base j f fd ps sp) (h : j ≤ k) : FnG P w K mg base k f fd ps sp :=
  ⟨F.len, fun A outer s H args us vs Q E g hr => F.run A outer s H args us vs Q E g (hr.mono h)⟩
theorem fnG_of {P : Program} {w : World} {K : PySem.W.Frag} {mg : Str → Option Value} {base : Heap} {x qual : Str} {st : Stmt} {f : Addr} {fd : FuncData} {N ps : List Str} {k : Nat} {sp : Sp}
    (F : Fun K x qual st f fd) (S : FnScope N ps (defScope st)) (hn : ∀ vs H Q E, sp vs H Q E → vs.length = ps.length)
    (body : ∀ (cdv : Value) (A : Around) (outer : List Env) (s : Shared) (H : Hp) (vs : List V) (Q : VK) (E : XK), A.guards = some [] → Room k (A.deeper (envOfC qual (defScope st) s.heap.objs.size f cdv)) → sp vs H Q E →
      ∃ t, PSs (cxOf (L2.CX P w) P w K mg base N qual (defScope st) f cdv A outer s H E) (defBody st) t ∧ t { nx := fun _ H' => Q .non H', rt := Q } (start N vs) H) :
    FnG P w K mg base (k + 1) f fd ps sp := by
  obtain ⟨oc, od, kV, doc, pm, an, cdv, ct, osl, rfl, lk, hcd⟩ := F.ex
  refine ⟨hn, fun A outer s H args us vs Q E hgd hrm e0 hbind hvals hspec => ?_⟩
  have hlen : vs.length = ps.length := hn vs H Q E hspec
  have kin : K.In s.heap := Frag_keeps e0
  have nolim : s.heap.NoLimit := nolim_keeps e0
  have kinds : ∀ y ∈ ps.zip us, (defScope st).names.lookup y.1 = some .local ∨ ((defScope st).names.lookup y.1 = some .cell ∧
      ((cellsFrom (s.heap.objs.size + 1) (defScope st).names []).lookup y.1).isSome = true) := by
    intro y hy
    cases S.par y.1 (List.of_mem_zip (a := y.1) (b := y.2) hy).1 with
    | inl q => exact Or.inl q
    | inr q => exact Or.inr ⟨q, PySem.W.cellsFrom_some _ _ _ (Or.inl q)⟩
  have enter := hbind
  refine codeAny_call_function hrm.depth
    (kin _ _ lk) rfl S.co S.gen rfl
    (PySem.W.codeRec_of kin hcd) (enter _ _ _ _ ?_)
  refine wpAny_newFunctionEnv_cells S.kind kinds
    fun env' henv s' inC => ?_
  subst henv
  refine ⟨nolim.keeps inC.toInCall.keep, codeAny_func ?_⟩
  obtain ⟨t, hps, hstart⟩ := body cdv A outer s H vs Q E hgd (hrm.deeper _) hspec
  have inv0 := inv_start (CX := L2.CX P w) (P := P) (w := w) (K := K) (mg := mg) (base := base) (qual := qual) (f := f) (cd := cdv) (E := E) S hrm.hd e0 hlen hvals inC
  refine wpAny_mono (hps.run [] s' (start N vs) H _ inv0 hstart) (fun fl s2 hend => ?_) (fun _ _ z => z)
  match fl, hend with
  | .ret u, hend =>
    obtain ⟨v, σ2, H2, J, rv, q⟩ := hend
    exact ⟨v, H2, J.os, J.bare, J.base, J.hok, rv, q⟩
  | .next, hend =>
    obtain ⟨σ2, H2, J, q⟩ := hend
    exact ⟨.non, H2, J.os, J.bare, J.base, J.hok, (show RelV V.non Value.none from rfl), q⟩
  | .brk, hend =>
    obtain ⟨_, _, _, q⟩ := hend
    exact q.elim
  | .cont, hend =>
    obtain ⟨_, _, _, q⟩ := hend
    exact q.elim
where
  Frag_keeps {P : Program} {w : World} {K : PySem.W.Frag} {mg : Str → Option Value} {base : Heap} {A : Around} {outer : List Env} {s : Shared} {H : Hp} (e0 : Env0 P w K mg base A outer s H) : K.In s.heap :=
    e0.mod.kin.keeps (fun b o e => (e0.bs b o e).1)
  nolim_keeps {P : Program} {w : World} {K : PySem.W.Frag} {mg : Str → Option Value} {base : Heap} {A : Around} {outer : List Env} {s : Shared} {H : Hp} (e0 : Env0 P w K mg base A outer s H) : s.heap.NoLimit :=
    e0.mod.nolimit.keeps (fun b o e => (e0.bs b o e).1)

section
variable {X : Cx} {k : Nat} {f : Addr} {fd : FuncData} {ps : List Str} {sp : Sp}
/-- such a def is called -/
theorem runG {pins : List (Addr × Obj)} {σ : L2.St} {H : Hp} {s : Shared} {Q : VK} {us xs : List Value} {kw : List (Str × Value)} {vs : List V} {E : XK}
    (F : FnG X.prog X.w X.K X.mg X.base k f fd ps sp) (gd : X.A.guards = some []) (hr : Room k X.A) (hx : PassesAt (L2.CX X.prog X.w) X σ E) (I : Inv X pins σ H s)
    (hb : BindsTo s fd ⟨us, kw⟩ (ps.zip xs)) (r : Vals vs xs) (h : sp vs H Q E) : wpAny (model X.prog X.w) X.A (call (.ref f) us kw) (EP X pins σ Q) X.xe s := by
  have go := F.run X.A X.stack s H ⟨us, kw⟩ xs vs Q E gd hr I.env0 hb r h
  refine wpAny_call (codeAny_mono go ?_)
  intro res s' hres
  match res, hres with
  | .error e, hres => exact hx pins H s e s' I hres
  | .ok (.ret u), hres => exact I.after hres
  | .ok .next, hres => exact False.elim hres
  | .ok .brk, hres => exact False.elim hres
  | .ok .cont, hres => exact False.elim hres
variable {x : Str} {p pos : Pos} {e : Expr} {es : List Expr} {t tk : TA} {E : L2.St → XK}
theorem pe_callG (F : FnG X.prog X.w X.K X.mg X.base k f fd ps sp) (gd : X.A.guards = some []) (hr : Room k X.A) (hg : Gl X x) (hm : X.mg x = some (.ref f)) (hk : PySem.W.keepIn X.K (.ref f) = true) (hb : Binds X.K fd ps [])
    (hx : ∀ σ, PassesAt (L2.CX X.prog X.w) X σ (E σ)) (ha : PA X (e :: es) t) (hdb : (x == ("__debug__" : Str)) = false := by decide)
    (he : starEach (e :: es) X.env = (false, eval e X.env) :: starEach es X.env := by rfl) (hpl : (backTo pos (starEach es X.env)).any (·.1) = false := by rfl) :
    PE X (.Call (.Name x p) (e :: es) [] pos) (tCallS sp E t) := by
  refine ⟨fun pins s σ H Q I h => ?_⟩
  refine wpAny_Call_Name_kw (ld_glob I hg hm ?_ hdb)
  have args := ha.run pos pins s σ H _ I h
  refine PySem.W.callWith_K (h₀ := X.base) I.ok.mod.kin hk (thn args ?_) he hpl
  intro us s1 hq
  obtain ⟨vs, H1, I1, r, q⟩ := hq
  refine ⟨I1.kIn, ?_⟩
  have hl : us.length = ps.length := r.length.symm.trans (F.len _ _ _ _ q)
  have b := hb s1 us I1.kIn (by rw [List.append_nil]; exact hl)
  rw [List.append_nil] at b
  exact runG F gd hr (hx σ) I1 b r q
theorem pe_callG0 (F : FnG X.prog X.w X.K X.mg X.base k f fd ps sp) (gd : X.A.guards = some []) (hr : Room k X.A) (hg : Gl X x) (hm : X.mg x = some (.ref f)) (hk : PySem.W.keepIn X.K (.ref f) = true) (hb : Binds X.K fd ps [])
    (hx : ∀ σ, PassesAt (L2.CX X.prog X.w) X σ (E σ)) (hdb : (x == ("__debug__" : Str)) = false := by decide) : PE X (.Call (.Name x p) [] [] pos) (tCallS sp E tNil) := by
  refine ⟨fun pins s σ H Q I h => ?_⟩
  refine wpAny_Call_Name_kw (ld_glob I hg hm ?_ hdb)
  have hl : ([] : List Value).length = ps.length := F.len _ _ _ _ h
  have b := hb s [] I.kIn (by rw [List.append_nil]; exact hl)
  rw [List.append_nil] at b
  exact PySem.W.callWith_K0 I.kIn hk (runG F gd hr (hx σ) I b .nil h)
/-- how keywords bind: n positional values, keywords named ks -/
structure KBd (K : PySem.W.Frag) (fd : FuncData) (ps ks : List Str) (n : Nat) (g : {α : Type} → List α → List α → List α) : Prop where
  to : ∀ (s : Shared) (us ws : List Value), us.length = n → ws.length = ks.length → BindsTo s fd ⟨us, ks.zip ws⟩ (ps.zip (g us ws))
  rel : ∀ {vs : List V} {us : List Value} {zs : List V} {ws : List Value}, vs.length = n → zs.length = ks.length → Vals vs us → Vals zs ws → Vals (g vs zs) (g us ws)
variable {kws : List Keyword} {ks : List Str} {n : Nat} {g : {α : Type} → List α → List α → List α}
end

/-! ### promises that speak of data -/
abbrev SpD := List D → Sto → (D → Sto → Prop) → (Addr → List (Str × D) → Sto → Prop) → Prop
def KtX (K : PySem.W.Frag) (ι : List Addr) (H : Hp) (R : Addr → List (Str × D) → Sto → Prop) (E : XK) : Prop :=
  ∀ C fs d ι' μ' H', Stp ι H ι' H' → Rel K ι' μ' H' → DxIs K ι' H' fs d → R C fs μ' → E (.ref C) d H'
def spOf (K : PySem.W.Frag) (sp : SpD) : Sp := fun vs H Q E => ∃ ι μ ds P R, Rel K ι μ H ∧ IsAll K ι H ds vs ∧ sp ds μ P R ∧ Kt K ι H P Q ∧ KtX K ι H R E
section
variable {X : Cx} {W : WX} {k : Nat} {f : Addr} {fd : FuncData} {ps : List Str} {sp : SpD} {x : Str} {p pos : Pos} {e : Expr} {es : List Expr} {wa wk : WA}
def wCall (sp : SpD) (wa : WA) : WE := fun R δ μ P => wa R δ μ fun ds μ1 => sp ds μ1 P fun C fs μ2 => R δ C fs μ2
theorem ktx_of {K : PySem.W.Frag} {ι ι' : List Addr} {μ' : Sto} {H H' : Hp} {δ : En} {σ : L2.St} {R : XD} (x : XL K W ι H R) (ev : EnvIs K ι H δ σ) (s : Stp ι H ι' H') : KtX K ι' H' (fun C fs μ2 => R δ C fs μ2) (L2.WE W σ) :=
  fun C fs d ι2 μ2 H2 s2 r2 f2 q => x ι2 μ2 δ σ H2 C fs d (s.trans s2) r2 (ev.stp (s.trans s2)) f2 q
theorem q_call (F : FnG X.prog X.w X.K X.mg X.base k f fd ps (spOf X.K sp)) (gd : X.A.guards = some []) (hr : Room k X.A) (hg : Gl X x) (hm : X.mg x = some (.ref f)) (hk : PySem.W.keepIn X.K (.ref f) = true) (hb : Binds X.K fd ps [])
    (tk : Takes X W) (ha : QA X W (e :: es) wa) (hdb : (x == ("__debug__" : Str)) = false := by decide)
    (he : starEach (e :: es) X.env = (false, eval e X.env) :: starEach es X.env := by rfl) (hpl : (backTo pos (starEach es X.env)).any (·.1) = false := by rfl) :
    QE X W (.Call (.Name x p) (e :: es) [] pos) (wCall sp wa) := by
  obtain ⟨t, h1, h2⟩ := ha
  refine ⟨_, pe_callG (E := L2.WE W) F gd hr hg hm hk hb (fun σ => passAt tk σ) h1 hdb he hpl, fun R ι μ δ σ H P Q c h kt => ?_⟩
  exact h2 R ι μ δ σ H _ _ c h fun vs ds ι1 μ1 H1 s1 r1 i1 q1 => ⟨ι1, μ1, ds, P, _, r1, i1, q1, kt.stp s1, ktx_of (μ' := μ1) c.xl c.env s1⟩
theorem q_call0 (F : FnG X.prog X.w X.K X.mg X.base k f fd ps (spOf X.K sp)) (gd : X.A.guards = some []) (hr : Room k X.A) (hg : Gl X x) (hm : X.mg x = some (.ref f)) (hk : PySem.W.keepIn X.K (.ref f) = true) (hb : Binds X.K fd ps [])
    (tk : Takes X W) (hdb : (x == ("__debug__" : Str)) = false := by decide) : QE X W (.Call (.Name x p) [] [] pos) (wCall sp wNil) :=
  ⟨_, pe_callG0 (E := L2.WE W) F gd hr hg hm hk hb (fun σ => passAt tk σ) hdb, fun R ι μ δ σ H P Q c h kt =>
    ⟨ι, μ, [], P, _, c.rel, rfl, h, kt, ktx_of (μ' := μ) c.xl c.env (Stp.refl ι H)⟩⟩
def wCallK (n m : Nat) (sp : SpD) (g : {α : Type} → List α → List α → List α) (wa wk : WA) : WE := fun R δ μ P => wa R δ μ fun ds μ1 => wk R δ μ1 fun es μ2 => ds.length = n ∧ es.length = m ∧ sp (g ds es) μ2 P fun C fs μ3 => R δ C fs μ3
variable {kws : List Keyword} {ks : List Str} {n : Nat} {g : {α : Type} → List α → List α → List α}
/-- what g must do for data -/
def GAll (n m : Nat) (g : {α : Type} → List α → List α → List α) : Prop := ∀ (K : PySem.W.Frag) (ι : List Addr) (H : Hp) (ds es : List D) (vs zs : List V), ds.length = n → es.length = m → IsAll K ι H ds vs → IsAll K ι H es zs → IsAll K ι H (g ds es) (g vs zs)
end

/-! ### statements -/
structure EndsD where
  nx : En → Sto → Prop
  rt : D → Sto → Prop
  bk : En → Sto → Prop := fun _ _ => False
  ct : En → Sto → Prop := fun _ _ => False
abbrev WS := XD → EndsD → En → Sto → Prop
structure Lk (K : PySem.W.Frag) (ι : List Addr) (H : Hp) (E : EndsD) (D : Ends) : Prop where
  nx : ∀ ι' μ' H' δ' σ', Stp ι H ι' H' → Rel K ι' μ' H' → EnvIs K ι' H' δ' σ' → E.nx δ' μ' → D.nx σ' H'
  rt : ∀ v d ι' μ' H', Stp ι H ι' H' → Rel K ι' μ' H' → Is K ι' H' d v → E.rt d μ' → D.rt v H'
  bk : ∀ ι' μ' H' δ' σ', Stp ι H ι' H' → Rel K ι' μ' H' → EnvIs K ι' H' δ' σ' → E.bk δ' μ' → D.bk σ' H'
  ct : ∀ ι' μ' H' δ' σ', Stp ι H ι' H' → Rel K ι' μ' H' → EnvIs K ι' H' δ' σ' → E.ct δ' μ' → D.ct σ' H'
theorem Lk.stp {K : PySem.W.Frag} {ι ι1 : List Addr} {H H1 : Hp} {E : EndsD} {D : Ends} (l : Lk K ι H E D) (s : Stp ι H ι1 H1) : Lk K ι1 H1 E D :=
  ⟨fun a b c d e z => l.nx a b c d e (s.trans z), fun a b c d e z => l.rt a b c d e (s.trans z), fun a b c d e z => l.bk a b c d e (s.trans z), fun a b c d e z => l.ct a b c d e (s.trans z)⟩
def RS (K : PySem.W.Frag) (W : WX) (t : TS) (w : WS) : Prop := ∀ R ι μ δ σ H E D, Cn K W ι μ H δ σ R → w R E δ μ → Lk K ι H E D → t D σ H
def QS (X : Cx) (W : WX) (st : Stmt) (w : WS) : Prop := ∃ t, PS X st t ∧ RS X.K W t w
def QSs (X : Cx) (W : WX) (st : List Stmt) (w : WS) : Prop := ∃ t, PSs X st t ∧ RS X.K W t w
section
variable {X : Cx} {W : WX} {st : Stmt} {rest : List Stmt} {w v : WS} {e : Expr} {we : WE} {pos p : Pos}
def wNext : WS := fun _ E δ μ => E.nx δ μ
def wSeq (w v : WS) : WS := fun R E δ μ => w R { E with nx := fun δ' μ' => v R E δ' μ' } δ μ
theorem rs_next {K : PySem.W.Frag} : RS K W tNext wNext := fun R ι μ δ σ H E D c h l => l.nx ι μ H δ σ (Stp.refl ι H) c.rel c.env h
theorem rs_seq {K : PySem.W.Frag} {t u : TS} (h1 : RS K W t w) (h2 : RS K W u v) : RS K W (tSeq t u) (wSeq w v) := fun R ι μ δ σ H E D c h l =>
  h1 R ι μ δ σ H { E with nx := fun δ' μ' => v R E δ' μ' } { D with nx := u D } c h ⟨fun ι' μ' H' δ' σ' s r e q => h2 R ι' μ' δ' σ' H' E D ⟨r, e, c.xl.stp s⟩ q (l.stp s), l.rt, l.bk, l.ct⟩
theorem qss_nil : QSs X W [] wNext := ⟨_, pss_nil, rs_next⟩
theorem qss_cons (h : QS X W st w) (h' : QSs X W rest v) : QSs X W (st :: rest) (wSeq w v) := by
  obtain ⟨t, h1, h2⟩ := h
  obtain ⟨t', h3, h4⟩ := h'
  exact ⟨_, pss_cons h1 h3, rs_seq h2 h4⟩
theorem qss_one (h : QS X W st w) : QSs X W [st] w := by
  obtain ⟨t, h1, h2⟩ := h
  exact ⟨_, pss_one h1, h2⟩
def wDrop (we : WE) : WS := fun R E δ μ => we R δ μ fun _ μ1 => E.nx δ μ1
theorem qs_expr (he : QE X W e we) (hs : swapsWith e none pos.line X.env = pure false := by rfl) : QS X W (.Expr e pos) (wDrop we) := by
  obtain ⟨t, h1, h2⟩ := he
  exact ⟨_, ps_expr h1 hs, fun R ι μ δ σ H E D c h l => h2 R ι μ δ σ H _ _ c h fun v d ι1 μ1 H1 s1 r1 i1 q1 => l.nx ι1 μ1 H1 δ σ s1 r1 (c.env.stp s1) q1⟩
def wRet (we : WE) : WS := fun R E δ μ => we R δ μ E.rt
theorem qs_ret (he : QE X W e we) : QS X W (.Return (some e) pos) (wRet we) := by
  obtain ⟨t, h1, h2⟩ := he
  exact ⟨_, ps_ret h1, fun R ι μ δ σ H E D c h l => h2 R ι μ δ σ H _ _ c h fun v d ι1 μ1 H1 s1 r1 i1 q1 => l.rt v d ι1 μ1 H1 s1 r1 i1 q1⟩
def wRetN : WS := fun _ E _ μ => E.rt .non μ
def wBrk : WS := fun _ E δ μ => E.bk δ μ
def wCnt : WS := fun _ E δ μ => E.ct δ μ
theorem qs_break : QS X W (.Break pos) wBrk := ⟨_, ps_break, fun R ι μ δ σ H E D c h l => l.bk ι μ H δ σ (Stp.refl ι H) c.rel c.env h⟩
def wIfS (wt : WT) (w v : WS) : WS := fun R E δ μ => wt R δ μ fun k μ1 => match k with
  | true => w R E δ μ1
  | false => v R E δ μ1
theorem qs_if {c : Expr} {a b : List Stmt} {wt : WT} (hc : QT X W c wt) (ha : QSs X W a w) (hb : QSs X W b v) : QS X W (.If c a b pos) (wIfS wt w v) := by
  obtain ⟨tc, c1, c2⟩ := hc
  obtain ⟨ta, a1, a2⟩ := ha
  obtain ⟨tb, b1, b2⟩ := hb
  refine ⟨_, ps_if c1 a1 b1, fun R ι μ δ σ H E D c h l => c2 R ι μ δ σ H _ _ c h fun z ι1 μ1 H1 s1 r1 q1 => ?_⟩
  cases z with
  | true =>
    show ta D σ H1
    exact a2 R ι1 μ1 δ σ H1 E D (c.stp s1 r1) q1 (l.stp s1)
  | false =>
    show tb D σ H1
    exact b2 R ι1 μ1 δ σ H1 E D (c.stp s1 r1) q1 (l.stp s1)
/-! targets -/
abbrev WG := XD → D → En → Sto → (En → Sto → Prop) → Prop
abbrev WGs := XD → List D → En → Sto → (En → Sto → Prop) → Prop
def KtG (K : PySem.W.Frag) (ι : List Addr) (H : Hp) (P : En → Sto → Prop) (Q : L2.St → Hp → Prop) : Prop := ∀ ι' μ' H' δ' σ', Stp ι H ι' H' → Rel K ι' μ' H' → EnvIs K ι' H' δ' σ' → P δ' μ' → Q σ' H'
theorem KtG.stp {K : PySem.W.Frag} {ι ι' : List Addr} {H H' : Hp} {P : En → Sto → Prop} {Q : L2.St → Hp → Prop} (k : KtG K ι H P Q) (s : Stp ι H ι' H') : KtG K ι' H' P Q := fun a b c d e z => k a b c d e (s.trans z)
def RG (K : PySem.W.Frag) (W : WX) (t : TG) (w : WG) : Prop := ∀ R ι μ δ σ H v d P Q, Cn K W ι μ H δ σ R → Is K ι H d v → w R d δ μ P → KtG K ι H P Q → t v σ H Q
def RGs (K : PySem.W.Frag) (W : WX) (t : TGs) (w : WGs) : Prop := ∀ R ι μ δ σ H vs ds P Q, Cn K W ι μ H δ σ R → IsAll K ι H ds vs → w R ds δ μ P → KtG K ι H P Q → t vs σ H Q
def QG (X : Cx) (W : WX) (e : Expr) (w : WG) : Prop := ∃ t, PG X e t ∧ RG X.K W t w
def QGs (X : Cx) (W : WX) (es : List Expr) (w : WGs) : Prop := ∃ t, PGs X es t ∧ RGs X.K W t w
def wgName (i : Nat) : WG := fun _ d δ μ P => P (put δ i (some d)) μ
theorem rg_name {K : PySem.W.Frag} (i : Nat) : RG K W (gName i) (wgName i) := fun R ι μ δ σ H v d P Q c hv h k => k ι μ H _ _ (Stp.refl ι H) c.rel (c.env.put hv) h
theorem qg_name {i : Nat} {x : Str} (hN : X.N.Nodup) (hi : X.N[i]? = some x) (hx : Loc X.env.scope x) (hf : X.fn x = true ∨ X.env.scope.names.lookup x = some .local := by first | exact .inl rfl | exact .inr rfl | assumption) : QG X W (.Name x pos) (wgName i) :=
  ⟨_, pg_name hN hi hx hf, rg_name i⟩
def wgCons (w : WG) (ws : WGs) : WGs := fun R ds δ μ P => match ds with
  | d :: r => w R d δ μ fun δ' μ' => ws R r δ' μ' P
  | [] => False
def wgEnd : WGs := fun R ds δ μ P => match ds with
  | [] => P δ μ
  | _ :: _ => False
theorem qgs_nil : QGs X W [] wgEnd := ⟨_, pgs_nil, fun R ι μ δ σ H vs ds P Q c hv h k => by
  cases ds with
  | nil =>
    have e : vs = [] := hv
    exact ⟨e, k ι μ H _ _ (Stp.refl ι H) c.rel c.env h⟩
  | cons d r => exact h.elim⟩
theorem qgs_cons {es : List Expr} {wg : WG} {wgs : WGs} (h : QG X W e wg) (h' : QGs X W es wgs) (hs : (assignEach (e :: es) X.env).map (·.2) = assign e X.env :: (assignEach es X.env).map (·.2) := by rfl) : QGs X W (e :: es) (wgCons wg wgs) := by
  obtain ⟨t, h1, h2⟩ := h
  obtain ⟨t', h3, h4⟩ := h'
  refine ⟨_, pgs_cons h1 h3 hs, fun R ι μ δ σ H vs ds P Q c hv h k => ?_⟩
  cases ds with
  | nil => exact h.elim
  | cons d r =>
    obtain ⟨v, vr, e1, iv, ir⟩ := hv
    refine ⟨v, vr, e1, h2 R ι μ δ σ H v d _ _ c iv h fun ι' μ' H' δ' σ' s r' ev q => ?_⟩
    exact h4 R ι' μ' δ' σ' H' vr r P Q ⟨r', ev, c.xl.stp s⟩ (IsAll.stp s _ _ ir) q (k.stp s)
def wgTup (n : Nat) (ws : WGs) : WG := fun R d δ μ P => match d with
  | .tup ds => ds.length = n ∧ ws R ds δ μ P
  | .ref k => match lstAt μ k with
    | some ds => ds.length = n ∧ ws R ds δ μ P
    | none => False
  | _ => False
theorem pg_or {X : Cx} {e : Expr} {t u : TG} (h : PG X e t) (g : PG X e u) : PG X e (fun v σ H Q => t v σ H Q ∨ u v σ H Q) :=
  ⟨fun pins s σ H v w Q I r hw => hw.elim (h.run pins s σ H v w Q I r) (g.run pins s σ H v w Q I r)⟩
theorem qg_tup {es : List Expr} {k : Nat} {n : Nat} {ws : WGs} (hc : X.calm = true) (h : QGs X W es ws) (hn : (assignEach es X.env).length = n := by rfl) (hst : (assignEach es X.env).findIdx? (·.1) = none := by rfl) : QG X W (.Tuple es k pos) (wgTup n ws) := by
  obtain ⟨t, h1, h2⟩ := h
  refine ⟨_, pg_or (pg_tup hc h1 hn hst) (pg_unl hc h1 hn hst), fun R ι μ δ σ H v d P Q c hv h k => ?_⟩
  cases d with
  | tup ds =>
    obtain ⟨a, xs, e, q, r⟩ := hv
    obtain ⟨hl, hw⟩ := h
    exact .inl ⟨a, xs, e, q, r.length.trans hl, h2 R ι μ δ σ H xs ds P Q c r hw k⟩
  | ref kk =>
    have h' : match lstAt μ kk with
      | some ds => ds.length = n ∧ ws R ds δ μ P
      | none => False := h
    split at h'
    · rename_i ds el
      obtain ⟨a, xs, f1, f2, r⟩ := c.rel.lst el
      obtain ⟨a', ea, e⟩ := hv
      rw [f1] at ea
      cases ea
      exact .inr ⟨a, xs, e, SqL.of f2, r.length.trans h'.1, h2 R ι μ δ σ H xs ds P Q c r h'.2 k⟩
    · exact h'.elim
  | _ => exact h.elim
/-- xs[i] = v, a list of the store -/
def wSetL (o i v : D) (μ : Sto) (P : Sto → Prop) : Prop := match o, i with
  | .ref k, .int n => match lstAt μ k with
    | some xs => match ixN xs.length n with
      | some j => P (μ.set k (.lst (xs.set j v)))
      | none => False
    | none => False
  | _, _ => False
def wgSub (wo wi : WE) : WG := fun R d δ μ P => wo R δ μ fun o μ1 => wi R δ μ1 fun i μ2 => wSetL o i d μ2 fun μ3 => P δ μ3
theorem qg_sub {o i : Expr} {wo wi : WE} (ho : QE X W o wo) (hi : QE X W i wi)
    (ha : ∀ v, assign (.Subscript o i pos) X.env v = (do
      let ov ← holding [v] (eval o X.env)
      let iv ← holding [v, ov] (eval i X.env)
      standAt pos
      holding [v, ov, iv] (setItem ov iv v)
      release [v, ov, iv] []) := by intro _; rfl) : QG X W (.Subscript o i pos) (wgSub wo wi) := by
  obtain ⟨t, h1, h2⟩ := ho
  obtain ⟨t', h3, h4⟩ := hi
  refine ⟨_, pg_sub h1 h3 set_list ha, fun R ι μ δ σ H v d P Q c hv h k => ?_⟩
  refine h2 R ι μ δ σ H _ _ c h fun x o ι1 μ1 H1 s1 r1 i1 q1 => h4 R ι1 μ1 δ σ H1 _ _ (c.stp s1 r1) q1 fun y i ι2 μ2 H2 s2 r2 i2 q2 => ?_
  unfold wSetL at q2
  split at q2
  · rename_i kk nn
    split at q2
    · rename_i xs exs
      split at q2
      · rename_i j ej
        obtain ⟨a, ys, e1, e2, e3⟩ := r2.lst exs
        have i1' := Is.stp s2 _ _ i1
        obtain ⟨a', ea', ex⟩ := i1'
        rw [e1] at ea'
        cases ea'
        refine ⟨a, ys, nn, j, ex, i2, e2, by rw [e3.length]; exact ej, ?_⟩
        have hv2 := Is.stp (s1.trans s2) _ _ hv
        exact k ι2 _ _ δ σ ((s1.trans s2).trans (Stp.wr e2)) (r2.write (lstAt_cell exs) e1 e2 (e3.set j hv2)) ((c.env.stp (s1.trans s2)).stp (Stp.wr e2)) q2
      · exact q2.elim
    · exact q2.elim
  · exact q2.elim
def wAsg (we : WE) (wg : WG) : WS := fun R E δ μ => we R δ μ fun d μ1 => wg R d δ μ1 E.nx
theorem rs_asg {K : PySem.W.Frag} {t : TE} {g : TG} {wg : WG} (h1 : RE K W t we) (h2 : RG K W g wg) : RS K W (tAsg t g) (wAsg we wg) := fun R ι μ δ σ H E D c h l =>
  h1 R ι μ δ σ H _ _ c h fun v d ι1 μ1 H1 s1 r1 i1 q1 => h2 R ι1 μ1 δ σ H1 v d _ _ (c.stp s1 r1) i1 q1 fun ι' μ' H' δ' σ' s r e q => l.nx ι' μ' H' δ' σ' (s1.trans s) r e q
theorem qs_set {i : Nat} {x : Str} {pos' : Pos} (hN : X.N.Nodup) (hi : X.N[i]? = some x) (hx : Loc X.env.scope x) (he : QE X W e we) (hs : swapsWith e (some (.Name x pos')) pos.line X.env = pure false := by rfl) (hf : X.fn x = true ∨ X.env.scope.names.lookup x = some .local := by first | exact .inl rfl | exact .inr rfl | assumption) :
    QS X W (.Assign [.Name x pos'] e pos) (wAsg we (wgName i)) := by
  obtain ⟨t, h1, h2⟩ := he
  exact ⟨_, ps_set hN hi hx h1 hs hf, rs_asg h2 (rg_name i)⟩
theorem qs_asg {tg : Expr} {wg : WG} (he : QE X W e we) (hg : QG X W tg wg) (hs : swapsWithSole [tg] e pos.line X.env = pure false := by rfl) (hw : swappedStores [tg] e X.env = pure none := by rfl)
    (h1 : (assignEach [tg] X.env).map (·.2) = [assign tg X.env] := by rfl) : QS X W (.Assign [tg] e pos) (wAsg we wg) := by
  obtain ⟨t, a1, a2⟩ := he
  obtain ⟨g, b1, b2⟩ := hg
  exact ⟨_, ps_asg a1 b1 hs hw h1, rs_asg a2 b2⟩
/-- x, y = a, b -/
def wPar (i j : Nat) (wa : WA) : WS := fun R E δ μ => wa R δ μ fun ds μ1 => match ds with
  | [d, f] => E.nx (put (put δ i (some d)) j (some f)) μ1
  | _ => False
theorem qs_par {i j : Nat} {x y : Str} {a b : Expr} {wa : WA} {px py pt : Pos} {kt k2 pt2} (hc : X.calm = true) (hN : X.N.Nodup) (hi : X.N[i]? = some x) (hj : X.N[j]? = some y) (hij : i ≠ j)
    (hx : X.env.scope.names.lookup x = some .local) (hy : X.env.scope.names.lookup y = some .local) (ha : QA X W [a, b] wa)
    (hw : swappedStores [.Tuple [.Name x px, .Name y py] kt pt] (.Tuple [a, b] k2 pt2) X.env = pure (some [x, y]))
    (hs : swapsWithSole [.Tuple [.Name x px, .Name y py] kt pt] (.Tuple [a, b] k2 pt2) pos.line X.env = pure false := by rfl) :
    QS X W (.Assign [.Tuple [.Name x px, .Name y py] kt pt] (.Tuple [a, b] k2 pt2) pos) (wPar i j wa) := by
  obtain ⟨t, a1, a2⟩ := ha
  refine ⟨_, ps_par hc hN hi hj hij hx hy a1 hw hs, fun R ι μ δ σ H E D c h l => a2 R ι μ δ σ H _ _ c h fun vs ds ι1 μ1 H1 s1 r1 i1 q1 => ?_⟩
  match ds, i1, q1 with
  | [d, f], i1, q1 =>
    obtain ⟨v, r, e1, iv, r2⟩ := i1
    obtain ⟨u, r', e2, iu, e3⟩ := r2
    have e3' : r' = [] := e3
    subst e3'
    subst e2
    exact ⟨v, u, e1, l.nx ι1 μ1 H1 _ _ s1 r1 (((c.env.stp s1).put iv).put iu) q1⟩
  | [], _, q1 => exact q1.elim
  | [_], _, q1 => exact q1.elim
  | _ :: _ :: _ :: _, _, q1 => exact q1.elim

/-! while -/
def wWhile (wt : WT) (wb : WS) : WS := fun R E δ μ => ∃ Wv : Nat → En → Sto → Prop, (∃ m, Wv m δ μ) ∧ ∀ m δ' μ', Wv m δ' μ' →
  wt R δ' μ' fun k μ1 => match k with
    | true => wb R { E with nx := fun δ2 μ2 => ∃ m', m' < m ∧ Wv m' δ2 μ2, ct := fun δ2 μ2 => ∃ m', m' < m ∧ Wv m' δ2 μ2, bk := E.nx } δ' μ1
    | false => E.nx δ' μ1
theorem qs_while {c : Expr} {body : List Stmt} {wt : WT} {wb : WS} (hp : PassesOwn (model X.prog X.w) X.A X.env X.xe) (hc : QT X W c wt) (hb : QSs X W body wb) : QS X W (.While c body [] pos) (wWhile wt wb) := by
  obtain ⟨tc, c1, c2⟩ := hc
  obtain ⟨tb, b1, b2⟩ := hb
  refine ⟨_, ps_while hp c1 b1, fun R ι μ δ σ H E D c h l => ?_⟩
  obtain ⟨Wv, ⟨m0, w0⟩, turn⟩ := h
  refine ⟨fun m σ' H' => ∃ ι' μ' δ', Stp ι H ι' H' ∧ Rel X.K ι' μ' H' ∧ EnvIs X.K ι' H' δ' σ' ∧ Wv m δ' μ', ⟨m0, ι, μ, δ, Stp.refl ι H, c.rel, c.env, w0⟩, fun m σ' H' hw => ?_⟩
  obtain ⟨ι', μ', δ', s', r', e', w'⟩ := hw
  refine c2 R ι' μ' δ' σ' H' _ _ ⟨r', e', c.xl.stp s'⟩ (turn m δ' μ' w') fun b ι1 μ1 H1 s1 r1 q1 => ?_
  cases b with
  | true =>
    rw [if_pos rfl]
    refine ⟨fun σ2 H2 => ∃ m', m' < m ∧ ∃ ι2 μ2 δ2, Stp ι H ι2 H2 ∧ Rel X.K ι2 μ2 H2 ∧ EnvIs X.K ι2 H2 δ2 σ2 ∧ Wv m' δ2 μ2, fun σ2 H2 z => z, ?_⟩
    refine b2 R ι1 μ1 δ' σ' H1 _ _ ⟨r1, e'.stp s1, c.xl.stp (s'.trans s1)⟩ q1 ?_
    have fin : ∀ ι2 μ2 H2 δ2 σ2, Stp ι1 H1 ι2 H2 → Rel X.K ι2 μ2 H2 → EnvIs X.K ι2 H2 δ2 σ2 → (∃ m', m' < m ∧ Wv m' δ2 μ2) → ∃ m', m' < m ∧ ∃ ι2 μ2 δ2, Stp ι H ι2 H2 ∧ Rel X.K ι2 μ2 H2 ∧ EnvIs X.K ι2 H2 δ2 σ2 ∧ Wv m' δ2 μ2 :=
      fun ι2 μ2 H2 δ2 σ2 s2 r2 e2 ⟨m', hm, q⟩ => ⟨m', hm, ι2, μ2, δ2, (s'.trans s1).trans s2, r2, e2, q⟩
    exact ⟨fin, (l.stp (s'.trans s1)).rt, (l.stp (s'.trans s1)).nx, fin⟩
  | false =>
    rw [if_neg Bool.false_ne_true]
    exact l.nx ι1 μ1 H1 δ' σ' (s'.trans s1) r1 (e'.stp s1) q1

end
end HD
set_option maxHeartbeats 1000000
namespace HD
open PySem PySem.Spec PyProof.Rows L2
section
variable {X : Cx} {W : WX} {st : Stmt} {rest : List Stmt} {w v : WS} {e : Expr} {we : WE} {pos p : Pos}
/-! for -/
/-- the items of a list or a tuple that is walked -/
def itemsOf (μ : Sto) : D → Option (List D)
  | .ref k => lstAt μ k
  | .ro xs => some xs
  | .tup xs => some xs
  | _ => none
def isTup : D → Bool
  | .tup _ => true
  | _ => false
def Sq (K : PySem.W.Frag) (k : Bool) (H : Hp) (a : Addr) (ys : List V) : Prop := match k with
  | true => SqT K H a ys
  | false => SqL K H a ys
def ItA (K : PySem.W.Frag) (k : Bool) (a : Addr) : It := match k with
  | true => Itt K a
  | false => Itl K a
theorem ItA.go {K : PySem.W.Frag} {k : Bool} {a : Addr} {ys : List V} {i : Nat} {y : V} {H : Hp} (q : Sq K k H a ys) (e : ys[i]? = some y) : (ItA K k a).go i H := by
  cases k
  · exact ⟨ys, y, q, e⟩
  · exact ⟨ys, y, q, e⟩
theorem ItA.stop {K : PySem.W.Frag} {k : Bool} {a : Addr} {ys : List V} {i : Nat} {H : Hp} (q : Sq K k H a ys) (e : ys.length ≤ i) : (ItA K k a).stop i H := by
  cases k
  · exact ⟨ys, q, e⟩
  · exact ⟨ys, q, e⟩
theorem ItA.yld {K : PySem.W.Frag} {k : Bool} {a : Addr} {i : Nat} {x : V} {H H' : Hp} (h : (ItA K k a).yld i H x H') : H' = H ∧ ∀ ys, Sq K k H a ys → ys[i]? = some x := by
  cases k
  · exact h
  · exact h
def iAny (K : PySem.W.Frag) (tl : TE) : TI := fun σ H R => tl σ H fun x H1 => ∃ a k, x = .ref a ∧ (∃ xs, Sq K k H1 a xs) ∧ R (ItA K k a) H1
theorem pi_any {tg l : Expr} {tl : TE} (hl : PE X l tl) : PI X tg l (iAny X.K tl) := by
  refine ⟨fun pins s σ H R I h => ?_⟩
  refine thn (hl.run pins s σ H _ I h) fun v s1 ⟨x, H1, I1, r1, q1⟩ => ?_
  obtain ⟨a, k, e, ⟨xs, hq⟩, q⟩ := q1
  subst e
  cases r1
  cases k with
  | false =>
    obtain ⟨its, rv, p, hz⟩ := I1.list hq
    refine wpAny_pyIter_list p.isList ?_
    refine ⟨s1.heap.objs.size, [s1.heap.objs.size], _, _, H1, rfl, I1.kept (t' := s1.toks) fun b o e => Heap.get?_push_of_some _ e, turn_list a _, ⟨_, Heap.get?_push_size _ rfl, rfl, rfl⟩, fun b hb => ?_, q⟩
    have e : b = s1.heap.objs.size := by simpa using hb
    subst e
    exact I1.fpOk (Nat.le_refl _) (I1.hok.fresh (Nat.le_refl _))
  | true =>
    obtain ⟨its, rv, p, hz⟩ := I1.tuple hq
    refine wpAny_pyIter_tuple (show s1.heap.IsTuple a its.toArray from p) ?_
    refine ⟨s1.heap.objs.size, [s1.heap.objs.size], _, _, H1, rfl, I1.kept (t' := s1.toks) fun b o e => Heap.get?_push_of_some _ e, turn_tuple a _, ⟨_, Heap.get?_push_size _ rfl, rfl, rfl⟩, fun b hb => ?_, q⟩
    have e : b = s1.heap.objs.size := by simpa using hb
    subst e
    exact I1.fpOk (Nat.le_refl _) (I1.hok.fresh (Nat.le_refl _))
theorem items_seq {K : PySem.W.Frag} {ι : List Addr} {μ : Sto} {H : Hp} {d : D} {v : V} {xs : List D} (r : Rel K ι μ H) (i : Is K ι H d v) (h : itemsOf μ d = some xs) : ∃ a ys, v = .ref a ∧ Sq K (isTup d) H a ys ∧ IsAll K ι H xs ys := by
  cases d with
  | ref k =>
    obtain ⟨a, ys, e1, e2, e3⟩ := r.lst (show lstAt μ k = some xs from h)
    obtain ⟨a', ea, ev⟩ := i
    rw [e1] at ea
    cases ea
    exact ⟨a, ys, ev, SqL.of e2, e3⟩
  | ro zs =>
    obtain ⟨a, ys, ev, q, t⟩ := i
    have e : zs = xs := Option.some.inj h
    subst e
    exact ⟨a, ys, ev, q.seq, t⟩
  | tup zs =>
    obtain ⟨a, ys, ev, q, t⟩ := i
    have e : zs = xs := Option.some.inj h
    subst e
    exact ⟨a, ys, ev, q, t⟩
  | _ => cases h
def wForL (wl : WE) (wg : WG) (wb : WS) : WS := fun R E δ μ => wl R δ μ fun d μ1 => ∃ (xs : List D) (Pv : Nat → En → Sto → Prop), Pv 0 δ μ1 ∧ (∀ i δ' μ', i ≤ xs.length → Pv i δ' μ' → itemsOf μ' d = some xs) ∧
  (∀ i x δ' μ', xs[i]? = some x → Pv i δ' μ' → wg R x δ' μ' fun δ2 μ2 => wb R { E with nx := Pv (i + 1), ct := Pv (i + 1), bk := E.nx } δ2 μ2) ∧ ∀ δ' μ', Pv xs.length δ' μ' → E.nx δ' μ'
theorem qs_forL {tg iter : Expr} {body : List Stmt} {wl : WE} {wg : WG} {wb : WS} (hp : PassesOwn (model X.prog X.w) X.A X.env X.xe) (hc : X.calm = true) (hi : QE X W iter wl) (hg : QG X W tg wg) (hb : QSs X W body wb)
    (hs : ∀ x, foldedSetIterable iter X.env x = pure x := by intro _; rfl) : QS X W (.For tg iter body [] pos) (wForL wl wg wb) := by
  obtain ⟨tl, l1, l2⟩ := hi
  obtain ⟨g, g1, g2⟩ := hg
  obtain ⟨tb, b1, b2⟩ := hb
  refine ⟨_, ps_for hp hc (pi_any l1) g1 b1 hs, fun R ι μ δ σ H E D c h l => l2 R ι μ δ σ H _ _ c h fun v d ι1 μ1 H1 s1 r1 i1 q1 => ?_⟩
  obtain ⟨xs, Pv, h0, hl, ht, hd⟩ := q1
  obtain ⟨a, ys0, ev, q0, t0⟩ := items_seq r1 i1 (hl 0 δ μ1 (Nat.zero_le _) h0)
  subst ev
  refine ⟨a, isTup d, rfl, ⟨ys0, q0⟩, fun i m σ' H' => m = xs.length - i ∧ i ≤ xs.length ∧ ∃ ι' μ' δ', Stp ι1 H1 ι' H' ∧ Rel X.K ι' μ' H' ∧ EnvIs X.K ι' H' δ' σ' ∧ Pv i δ' μ',
    ⟨xs.length, rfl, Nat.zero_le _, ι1, μ1, δ, Stp.refl _ _, r1, c.env.stp s1, h0⟩, fun i m σ' H' hw => ?_⟩
  obtain ⟨em, hle, ι', μ', δ', s', r', e', w'⟩ := hw
  obtain ⟨a', ys, ev, q', t'⟩ := items_seq r' (Is.stp s' _ _ i1) (hl i δ' μ' hle w')
  cases ev
  by_cases hlt : i < xs.length
  · obtain ⟨y, hy, iy⟩ := t'.get (i := i) (d := xs[i]) (List.getElem?_eq_getElem hlt)
    refine .inr ⟨ItA.go q' hy, fun σ2 H2 => ∃ ι2 μ2 δ2, Stp ι1 H1 ι2 H2 ∧ Rel X.K ι2 μ2 H2 ∧ EnvIs X.K ι2 H2 δ2 σ2 ∧ Pv (i + 1) δ2 μ2, fun σ2 H2 z => ⟨xs.length - (i + 1), by omega, rfl, hlt, z⟩, fun x H2 hx => ?_⟩
    obtain ⟨eH, fx⟩ := ItA.yld hx
    subst eH
    have exy : x = y := Option.some.inj ((fx _ q').symm.trans hy)
    subst exy
    refine g2 R ι' μ' δ' σ' _ x xs[i] _ _ ⟨r', e', c.xl.stp (s1.trans s')⟩ iy (ht i xs[i] δ' μ' (List.getElem?_eq_getElem hlt) w') fun ι2 μ2 H3 δ2 σ2 s2 r2 e2 q2 => ?_
    refine b2 R ι2 μ2 δ2 σ2 H3 _ _ ⟨r2, e2, c.xl.stp ((s1.trans s').trans s2)⟩ q2 ?_
    exact ⟨fun ι3 μ3 H4 δ3 σ3 s3 r3 e3 q3 => ⟨ι3, μ3, δ3, (s'.trans s2).trans s3, r3, e3, q3⟩, (l.stp ((s1.trans s').trans s2)).rt, (l.stp ((s1.trans s').trans s2)).nx,
      fun ι3 μ3 H4 δ3 σ3 s3 r3 e3 q3 => ⟨ι3, μ3, δ3, (s'.trans s2).trans s3, r3, e3, q3⟩⟩
  · have ei : i = xs.length := by omega
    subst ei
    exact .inl ⟨ItA.stop q' (by rw [t'.length]; exact Nat.le_refl _), l.nx ι' μ' H' δ' σ' (s1.trans s') r' e' (hd δ' μ' w')⟩
/-- over a range, from the reading of its bounds -/
def turnsR (wg : WG) (wb : WS) (lo : Int) (n : Nat) : WS := fun R E δ μ => ∃ Pv : Nat → En → Sto → Prop, Pv 0 δ μ ∧
  (∀ (i : Nat) δ' μ', i < n → Pv i δ' μ' → wg R (.int (lo + i)) δ' μ' fun δ2 μ2 => wb R { E with nx := Pv (i + 1), ct := Pv (i + 1), bk := E.nx } δ2 μ2) ∧ ∀ δ' μ', Pv n δ' μ' → E.nx δ' μ'
theorem rs_turnsR {K : PySem.W.Frag} {g : TG} {tb : TS} {wg : WG} {wb : WS} {lo : Int} {n : Nat} (g2 : RG K W g wg) (b2 : RS K W tb wb) {R : XD} {ι : List Addr} {μ : Sto} {δ : En} {σ : L2.St} {H : Hp} {E : EndsD} {D : Ends} (c : Cn K W ι μ H δ σ R)
    (h : turnsR wg wb lo n R E δ μ) (l : Lk K ι H E D) : ∃ Wv : Nat → Nat → L2.St → Hp → Prop, (∃ m, Wv 0 m σ H) ∧ ∀ i m σ H, Wv i m σ H →
      ((Itr lo n).stop i H ∧ D.nx σ H) ∨ ((Itr lo n).go i H ∧ ∃ N : L2.St → Hp → Prop, (∀ σ' H', N σ' H' → ∃ m', m' < m ∧ Wv (i + 1) m' σ' H') ∧ ∀ x H', (Itr lo n).yld i H x H' → g x σ H' fun σ2 H2 => tb { D with nx := N, ct := N, bk := D.nx } σ2 H2) := by
  obtain ⟨Pv, h0, ht, hd⟩ := h
  refine for_range (fun i σ' H' => ∃ ι' μ' δ', Stp ι H ι' H' ∧ Rel K ι' μ' H' ∧ EnvIs K ι' H' δ' σ' ∧ Pv i δ' μ') ⟨ι, μ, δ, Stp.refl ι H, c.rel, c.env, h0⟩ (fun i σ' H' hi z => ?_) fun σ' H' z => ?_
  · obtain ⟨ι', μ', δ', s', r', e', w'⟩ := z
    refine g2 R ι' μ' δ' σ' H' _ (.int (lo + i)) _ _ ⟨r', e', c.xl.stp s'⟩ rfl (ht i δ' μ' hi w') fun ι2 μ2 H3 δ2 σ2 s2 r2 e2 q2 => ?_
    refine b2 R ι2 μ2 δ2 σ2 H3 _ _ ⟨r2, e2, c.xl.stp (s'.trans s2)⟩ q2 ?_
    exact ⟨fun ι3 μ3 H4 δ3 σ3 s3 r3 e3 q3 => ⟨ι3, μ3, δ3, (s'.trans s2).trans s3, r3, e3, q3⟩, (l.stp (s'.trans s2)).rt, (l.stp (s'.trans s2)).nx,
      fun ι3 μ3 H4 δ3 σ3 s3 r3 e3 q3 => ⟨ι3, μ3, δ3, (s'.trans s2).trans s3, r3, e3, q3⟩⟩
  · obtain ⟨ι', μ', δ', s', r', e', w'⟩ := z
    exact l.nx ι' μ' H' δ' σ' s' r' e' (hd δ' μ' w')

def R62 (j : Int) : Prop := -(2 ^ 62) ≤ j ∧ j < 2 ^ 62
theorem r62 {j : Int} (h : -1000000000 ≤ j ∧ j ≤ 1000000000) : R62 j := ⟨by omega, by omega⟩
theorem isAll1 {K : PySem.W.Frag} {ι : List Addr} {H : Hp} {d : D} {vs : List V} (h : IsAll K ι H [d] vs) : ∃ v, vs = [v] ∧ Is K ι H d v := by
  obtain ⟨v, r, e1, iv, e2⟩ := h
  have e2' : r = [] := e2
  subst e2'
  exact ⟨v, e1, iv⟩
theorem isAll2 {K : PySem.W.Frag} {ι : List Addr} {H : Hp} {d e : D} {vs : List V} (h : IsAll K ι H [d, e] vs) : ∃ v u, vs = [v, u] ∧ Is K ι H d v ∧ Is K ι H e u := by
  obtain ⟨v, r, e1, iv, e2⟩ := h
  obtain ⟨u, e3, iu⟩ := isAll1 e2
  subst e3
  exact ⟨v, u, e1, iv, iu⟩
theorem isAll3 {K : PySem.W.Frag} {ι : List Addr} {H : Hp} {d e f : D} {vs : List V} (h : IsAll K ι H [d, e, f] vs) : ∃ v u w, vs = [v, u, w] ∧ Is K ι H d v ∧ Is K ι H e u ∧ Is K ι H f w := by
  obtain ⟨v, r, e1, iv, e2⟩ := h
  obtain ⟨u, w, e3, iu, iw⟩ := isAll2 e2
  subst e3
  exact ⟨v, u, w, e1, iv, iu, iw⟩
/-- the arguments are one int, two, three -/
def ints1 (P : Int → Prop) : List D → Prop
  | [.int i] => P i
  | _ => False
def ints2 (P : Int → Int → Prop) : List D → Prop
  | [.int i, .int j] => P i j
  | _ => False
def ints3 (P : Int → Int → Int → Prop) : List D → Prop
  | [.int i, .int j, .int k] => P i j k
  | _ => False
theorem ints1_of {P : Int → Prop} {ds : List D} (h : ints1 P ds) : ∃ i, ds = [.int i] ∧ P i := by
  unfold ints1 at h
  split at h
  · exact ⟨_, rfl, h⟩
  · exact h.elim
theorem ints2_of {P : Int → Int → Prop} {ds : List D} (h : ints2 P ds) : ∃ i j, ds = [.int i, .int j] ∧ P i j := by
  unfold ints2 at h
  split at h
  · exact ⟨_, _, rfl, h⟩
  · exact h.elim
def wForR1 (wa : WA) (wg : WG) (wb : WS) : WS := fun R E δ μ => wa R δ μ fun ds μ1 => ints1 (fun j => R62 j ∧ turnsR wg wb 0 j.toNat R E δ μ1) ds
theorem qs_forR1 {tg a : Expr} {pr p' : Pos} {body : List Stmt} {wa : WA} {wg : WG} {wb : WS} (hp : PassesOwn (model X.prog X.w) X.A X.env X.xe) (hc : X.calm = true) (hgl : Gl X "range") (hm : X.mg "range" = none) (ha : QA X W [a] wa) (hg : QG X W tg wg) (hb : QSs X W body wb)
    (hst : starEach [a] X.env = [(false, eval a X.env)] := by rfl) (hs : ∀ x, foldedSetIterable (.Call (.Name "range" pr) [a] [] p') X.env x = pure x := by intro _; rfl) : QS X W (.For tg (.Call (.Name "range" pr) [a] [] p') body [] pos) (wForR1 wa wg wb) := by
  obtain ⟨ta, a1, a2⟩ := ha
  obtain ⟨g, g1, g2⟩ := hg
  obtain ⟨tb, b1, b2⟩ := hb
  refine ⟨_, ps_for hp hc (pi_range1 hgl hm a1 hst) g1 b1 hs, fun R ι μ δ σ H E D c h l => a2 R ι μ δ σ H _ _ c h fun vs ds ι1 μ1 H1 s1 r1 i1 q1 => ?_⟩
  obtain ⟨j, ed, hj, ht⟩ := ints1_of q1
  subst ed
  obtain ⟨v, e1, iv⟩ := isAll1 i1
  have iv' : v = .int j := iv
  subst iv'
  exact ⟨j, e1, hj.1, hj.2, rs_turnsR g2 b2 (c.stp s1 r1) ht (l.stp s1)⟩
end
end HD
/-! HD4: operations on data, calls of built-in functions. -/
namespace HD
open PySem PySem.Spec PyProof.Rows L2

/-! ### data as the library's own data -/
mutual
inductive Py (μ : Sto) : D → PyData → Prop
  | non : Py μ .non .none
  | bl (b : Bool) : Py μ (.bl b) (.bool b)
  | int (i : Int) : Py μ (.int i) (.int i)
  | str (x : Str) : Py μ (.str x) (.str x)
  | tup {ds : List D} {ps : List PyData} : PyAll μ ds ps → Py μ (.tup ds) (.tuple ps)
  | ro {ds : List D} {ps : List PyData} : PyAll μ ds ps → Py μ (.ro ds) (.list ps)
  | ref {k : Nat} {ds : List D} {ps : List PyData} : lstAt μ k = some ds → PyAll μ ds ps → Py μ (.ref k) (.list ps)
inductive PyAll (μ : Sto) : List D → List PyData → Prop
  | nil : PyAll μ [] []
  | cons {d : D} {ds : List D} {p : PyData} {ps : List PyData} : Py μ d p → PyAll μ ds ps → PyAll μ (d :: ds) (p :: ps)
end
section
variable {K : PySem.W.Frag} {ι : List Addr} {μ : Sto} {H : Hp}
mutual
theorem Py.dp (r : Rel K ι μ H) : ∀ (p : PyData) (d : D) (v : V), Py μ d p → Is K ι H d v → Dp K H v p
  | .none, _, _, h, i => by
    cases h
    have e : _ = V.non := i
    rw [e]
    exact .non
  | .bool b, _, _, h, i => by
    cases h
    have e : _ = V.bl b := i
    rw [e]
    exact .bl b
  | .int n, _, _, h, i => by
    cases h
    have e : _ = V.int n := i
    rw [e]
    exact .int n
  | .str x, _, _, h, i => by
    cases h
    have e : _ = V.str x := i
    rw [e]
    exact .str x
  | .tuple ps, _, _, h, i => by
    cases h with
    | tup ha =>
      obtain ⟨a, xs, e, q, t⟩ := i
      rw [e]
      exact .tup q (PyAll.dp r ps _ xs ha t)
  | .list ps, _, _, h, i => by
    cases h with
    | ro ha =>
      obtain ⟨a, xs, e, q, t⟩ := i
      rw [e]
      exact .lst q.seq (PyAll.dp r ps _ xs ha t)
    | ref hk ha =>
      obtain ⟨a, xs, e1, e2, t⟩ := r.lst hk
      obtain ⟨a', ea, e⟩ := i
      rw [e1] at ea
      cases ea
      rw [e]
      exact .lst (SqL.of e2) (PyAll.dp r ps _ xs ha t)
  | .dict _, _, _, h, _ => by cases h
theorem PyAll.dp (r : Rel K ι μ H) : ∀ (ps : List PyData) (ds : List D) (xs : List V), PyAll μ ds ps → IsAll K ι H ds xs → DpAll K H xs ps
  | [], _, _, h, i => by
    cases h
    have e : _ = [] := i
    rw [e]
    exact .nil
  | p :: ps, _, _, h, i => by
    cases h with
    | cons h1 h2 =>
      obtain ⟨v, r', e, q, t⟩ := i
      rw [e]
      exact .cons (Py.dp r p _ v h1 q) (PyAll.dp r ps _ r' h2 t)
end
end

/-! ### operators -/
theorem opR_or {X : Cx} {f : Value → Value → Sem Value} {r r' : R2} (h : OpR X f r) (h' : OpR X f r') : OpR X f (fun x y H Q => r x y H Q ∨ r' x y H Q) := by
  intro pins s σ H x y v u Q I rx ry q
  rcases q with q | q
  · exact h pins s σ H x y v u Q I rx ry q
  · exact h' pins s σ H x y v u Q I rx ry q
section
variable {X : Cx}
/-- a rule on ints, under C -/
def wI (C : Int → Int → Prop) (g : Int → Int → D) : WO := fun d e μ P => match d, e with
  | .int i, .int j => C i j ∧ P (g i j) μ
  | _, _ => False
def wI0 (g : Int → Int → D) : WO := fun d e μ P => match d, e with
  | .int i, .int j => P (g i j) μ
  | _, _ => False
theorem ro_I {K : PySem.W.Frag} {C : Int → Int → Prop} {g : Int → Int → Int} : RO K (rI C fun i j => .int (g i j)) (wI C fun i j => .int (g i j)) := fun ι μ H x y d e P Q r i1 i2 h k => by
  unfold wI at h
  split at h
  · exact ⟨_, _, i1, i2, h.1, k.at r (d := .int _) rfl h.2⟩
  · exact h.elim
theorem ro_I0 {K : PySem.W.Frag} {g : Int → Int → Int} : RO K (rI0 fun i j => .int (g i j)) (wI0 fun i j => .int (g i j)) := fun ι μ H x y d e P Q r i1 i2 h k => by
  unfold wI0 at h
  split at h
  · exact ⟨_, _, i1, i2, k.at r (d := .int _) rfl h⟩
  · exact h.elim
theorem ro_B0 {K : PySem.W.Frag} {g : Int → Int → Bool} : RO K (rI0 fun i j => .bl (g i j)) (wI0 fun i j => .bl (g i j)) := fun ι μ H x y d e P Q r i1 i2 h k => by
  unfold wI0 at h
  split at h
  · exact ⟨_, _, i1, i2, k.at r (d := .bl _) rfl h⟩
  · exact h.elim
def wSub : WO := wI0 fun i j => .int (i - j)
theorem qo_sub : QO X (binaryOp .Sub) wSub := ⟨_, op_sub, ro_I0⟩
def wLt : WO := wI0 fun i j => .bl (decide (i < j))
def wLe : WO := wI0 fun i j => .bl (decide (i ≤ j))
def wGt : WO := wI0 fun i j => .bl (decide (j < i))
def wGe : WO := wI0 fun i j => .bl (decide (j ≤ i))
theorem qo_lt : QO X (compareOp .Lt) wLt := ⟨_, op_lt, ro_B0⟩
theorem qo_le : QO X (compareOp .LtE) wLe := ⟨_, op_le, ro_B0⟩
theorem qo_gt : QO X (compareOp .Gt) wGt := ⟨_, op_gt, ro_B0⟩
theorem qo_ge : QO X (compareOp .GtE) wGe := ⟨_, op_ge, ro_B0⟩
/-- // by a positive divisor that is not huge -/
def DivOk (j : Int) : Prop := 0 < j ∧ j.natAbs.log2 < 9000
theorem divOk {j : Int} (h : 0 < j) (h2 : j < 2 ^ 8000) : DivOk j := ⟨h, by
  refine Nat.lt_of_not_le fun z => ?_
  have h3 : 2 ^ 9000 ≤ j.natAbs := by
    have := (Nat.le_log2 (n := j.natAbs) (k := 9000) (by omega)).mp z
    exact this
  have h4 : (2 : Nat) ^ 8000 ≤ 2 ^ 9000 := Nat.pow_le_pow_right (by decide) (by decide)
  have h5 : (j.natAbs : Int) = j := by omega
  have h6 : ((2 ^ 8000 : Nat) : Int) ≤ j := by
    rw [← h5]
    exact Int.ofNat_le.mpr (Nat.le_trans h4 h3)
  have h7 : ((2 ^ 8000 : Nat) : Int) = (2 : Int) ^ 8000 := by rw [Int.natCast_pow] <;> rfl
  rw [h7] at h6
  exact absurd h2 (Int.not_lt.mpr h6)⟩
def wDiv : WO := wI (fun _ j => DivOk j) fun i j => .int (i / j)
theorem qo_div : QO X (binaryOp .FloorDiv) wDiv := ⟨_, op_fdivW, ro_I⟩
def wMod : WO := wI (fun _ j => 0 < j) fun i j => .int (i % j)
theorem qo_mod : QO X (binaryOp .Mod) wMod := ⟨_, op_mod, ro_I⟩
def wPow : WO := wI CPow fun i j => .int (i ^ j.toNat)
theorem qo_pow : QO X (binaryOp .Pow) wPow := ⟨_, op_pow, ro_I⟩
def wShl : WO := wI CPow fun i j => .int (i * 2 ^ j.toNat)
def wAdd : WO := fun d e μ P => match d, e with
  | .int i, .int j => P (.int (i + j)) μ
  | .str x, .str y => x.length + y.length ≤ sizeLine ∧ P (.str (x ++ y)) μ
  | .ref a, .ref b => ∃ xs ys, lstAt μ a = some xs ∧ lstAt μ b = some ys ∧ xs.length + ys.length ≤ 1000 ∧ P (.ref μ.length) (μ ++ [.lst (xs ++ ys)])
  | _, _ => False
theorem qo_add : QO X (binaryOp .Add) wAdd := by
  refine ⟨_, opR_or op_add (opR_or op_add_str op_cat), fun ι μ H x y d e P Q r i1 i2 h k => ?_⟩
  unfold wAdd at h
  split at h
  · exact .inl ⟨_, _, i1, i2, k.at r (d := .int _) rfl h⟩
  · exact .inr (.inl ⟨_, _, i1, i2, h.1, k.at r (d := .str _) rfl h.2⟩)
  · obtain ⟨xs, ys, e1, e2, hz, q⟩ := h
    obtain ⟨a, us, f1, f2, f3⟩ := r.lst e1
    obtain ⟨b, vs, g1, g2, g3⟩ := r.lst e2
    obtain ⟨a', ea, ex⟩ := i1
    obtain ⟨b', eb, ey⟩ := i2
    rw [f1] at ea
    cases ea
    rw [g1] at eb
    cases eb
    refine .inr (.inr ⟨a, b, us, vs, ex, ey, f2, g2, by rw [f3.length, g3.length]; exact le_line hz, fun p hp => ?_⟩)
    exact k (.ref p) (.ref μ.length) (ι ++ [p]) _ _ (Stp.push hp) (r.pushLst hp (f3.app g3)) (is_pushed r) q
  · exact h.elim
/-- products of ints of any reasonable size; a list many times -/
def MulOk (i j : Int) : Prop := CMulX i j
theorem mulOk {i j : Int} {a b : Nat} (ha : i.natAbs < 2 ^ a) (hb : j.natAbs < 2 ^ b) (h : a + b ≤ 134217728) : MulOk i j := mulx_ok ha hb h
def wMul : WO := fun d e μ P => match d, e with
  | .int i, .int j => MulOk i j ∧ P (.int (i * j)) μ
  | .ref a, .int j => ∃ xs, lstAt μ a = some xs ∧ (0 ≤ j ∧ j ≤ 1000) ∧ xs.length * j.toNat ≤ 1000 ∧ P (.ref μ.length) (μ ++ [.lst (List.replicate j.toNat xs).flatten])
  | _, _ => False
theorem qo_mul : QO X (binaryOp .Mult) wMul := by
  refine ⟨_, opR_or op_mulX op_rep, fun ι μ H x y d e P Q r i1 i2 h k => ?_⟩
  unfold wMul at h
  split at h
  · exact .inl ⟨_, _, i1, i2, h.1, k.at r (d := .int _) rfl h.2⟩
  · rename_i a j
    obtain ⟨xs, e1, hj, hz, q⟩ := h
    obtain ⟨b, us, f1, f2, f3⟩ := r.lst e1
    obtain ⟨a', ea, ex⟩ := i1
    rw [f1] at ea
    cases ea
    refine .inr ⟨b, j, us, ex, i2, f2, by omega, by omega, by rw [f3.length]; exact le_line hz, fun p hp => ?_⟩
    exact k (.ref p) (.ref μ.length) (ι ++ [p]) _ _ (Stp.push hp) (r.pushLst hp (f3.rep _)) (is_pushed r) q
  · exact h.elim
/-- == and != -/
def wEq : WO := fun d e μ P => match d, e with
  | .int i, .int j => P (.bl (decide (i = j))) μ
  | .str i, .str j => P (.bl (decide (i = j))) μ
  | .bl i, .bl j => P (.bl (decide (i = j))) μ
  | d, e => ∃ p q, Py μ d p ∧ Py μ e q ∧ SeqAt.shaped p = true ∧ SeqAt.shaped q = true ∧ P (.bl (PyData.eqv p q)) μ
def wNe : WO := fun d e μ P => match d, e with
  | .int i, .int j => P (.bl (!decide (i = j))) μ
  | .str i, .str j => P (.bl (!decide (i = j))) μ
  | .bl i, .bl j => P (.bl (!decide (i = j))) μ
  | d, e => ∃ p q, Py μ d p ∧ Py μ e q ∧ SeqAt.shaped p = true ∧ SeqAt.shaped q = true ∧ P (.bl (!PyData.eqv p q)) μ
theorem dec_inj {α : Type} [DecidableEq α] (f : α → V) (hf : ∀ a b, f a = f b → a = b) (i j : α) : decide (f i = f j) = decide (i = j) := by
  by_cases h : i = j
  · subst h
    simp
  · have h2 : ¬ f i = f j := fun z => h (hf _ _ z)
    rw [decide_eq_false h, decide_eq_false h2]
theorem qo_eq (hu : X.A.units + 64 < cLine) : QO X (compareOp .Eq) wEq := by
  refine ⟨_, opR_or op_eq (op_eqD hu), fun ι μ H x y d e P Q r i1 i2 h k => ?_⟩
  unfold wEq at h
  split at h
  · have e1 : x = .int _ := i1
    have e2 : y = .int _ := i2
    subst e1 e2
    exact .inl ⟨rfl, k.at r (d := .bl _) (by show V.bl _ = V.bl _; rw [dec_inj V.int (fun _ _ z => V.int.inj z)]) h⟩
  · have e1 : x = .str _ := i1
    have e2 : y = .str _ := i2
    subst e1 e2
    exact .inl ⟨rfl, k.at r (d := .bl _) (by show V.bl _ = V.bl _; rw [dec_inj V.str (fun _ _ z => V.str.inj z)]) h⟩
  · have e1 : x = .bl _ := i1
    have e2 : y = .bl _ := i2
    subst e1 e2
    exact .inl ⟨rfl, k.at r (d := .bl _) (by show V.bl _ = V.bl _; rw [dec_inj V.bl (fun _ _ z => V.bl.inj z)]) h⟩
  · obtain ⟨p, q, h1, h2, h3, h4, h5⟩ := h
    exact .inr ⟨p, q, Py.dp r p _ x h1 i1, Py.dp r q _ y h2 i2, h3, h4, k.at r (d := .bl _) rfl h5⟩
theorem qo_ne (hu : X.A.units + 64 < cLine) : QO X (compareOp .NotEq) wNe := by
  refine ⟨_, opR_or op_ne (op_neD hu), fun ι μ H x y d e P Q r i1 i2 h k => ?_⟩
  unfold wNe at h
  split at h
  · have e1 : x = .int _ := i1
    have e2 : y = .int _ := i2
    subst e1 e2
    exact .inl ⟨rfl, k.at r (d := .bl _) (by show V.bl _ = V.bl _; rw [dec_inj V.int (fun _ _ z => V.int.inj z)]) h⟩
  · have e1 : x = .str _ := i1
    have e2 : y = .str _ := i2
    subst e1 e2
    exact .inl ⟨rfl, k.at r (d := .bl _) (by show V.bl _ = V.bl _; rw [dec_inj V.str (fun _ _ z => V.str.inj z)]) h⟩
  · have e1 : x = .bl _ := i1
    have e2 : y = .bl _ := i2
    subst e1 e2
    exact .inl ⟨rfl, k.at r (d := .bl _) (by show V.bl _ = V.bl _; rw [dec_inj V.bl (fun _ _ z => V.bl.inj z)]) h⟩
  · obtain ⟨p, q, h1, h2, h3, h4, h5⟩ := h
    exact .inr ⟨p, q, Py.dp r p _ x h1 i1, Py.dp r q _ y h2 i2, h3, h4, k.at r (d := .bl _) rfl h5⟩
/-- is None -/
def isNon : D → Bool
  | .non => true
  | _ => false
theorem isNon_of {K : PySem.W.Frag} {ι : List Addr} {H : Hp} {d : D} {v : V} (h : Is K ι H d v) : decide (v = .non) = isNon d := by
  cases d with
  | non =>
    have e : v = .non := h
    rw [e]
    rfl
  | bl _ => have e : v = .bl _ := h; rw [e]; rfl
  | int _ => have e : v = .int _ := h; rw [e]; rfl
  | str _ => have e : v = .str _ := h; rw [e]; rfl
  | ty _ => have e : v = .ty _ := h; rw [e]; rfl
  | adr _ => have e : v = .ref _ := h; rw [e]; rfl
  | ref _ =>
    obtain ⟨_, _, e⟩ := h
    rw [e]; rfl
  | tup _ =>
    obtain ⟨_, _, e, _⟩ := h
    rw [e]; rfl
  | ro _ =>
    obtain ⟨_, _, e, _⟩ := h
    rw [e]; rfl
  | exc _ _ _ _ _ =>
    obtain ⟨e, _⟩ := h
    rw [e]; rfl
  | lam _ _ _ _ _ _ =>
    obtain ⟨e, _⟩ := h
    rw [e]; rfl
def wIsN : WO := fun d e μ P => match e with
  | .non => P (.bl (isNon d)) μ
  | _ => False
def wNotN : WO := fun d e μ P => match e with
  | .non => P (.bl (!isNon d)) μ
  | _ => False
theorem qo_isN : QO X (compareOp .Is) wIsN := ⟨_, op_isN, fun ι μ H x y d e P Q r i1 i2 h k => by
  unfold wIsN at h
  split at h
  · exact ⟨i2, by rw [isNon_of i1]; exact k.at r (d := .bl _) rfl h⟩
  · exact h.elim⟩
/-- in a list of data -/
def wIn : WO := fun d e μ P => ∃ p ps, Py μ d p ∧ Py μ e (.list ps) ∧ SeqAt.shaped p = true ∧ SeqAt.shaped (.list ps) = true ∧ P (.bl (ps.any fun z => PyData.eqv z p)) μ
theorem qo_in (hu : X.A.units + 65 < cLine) : QO X (compareOp .In) wIn := ⟨_, op_inD hu, fun ι μ H x y d e P Q r i1 i2 h k => by
  obtain ⟨p, ps, h1, h2, h3, h4, h5⟩ := h
  exact ⟨p, ps, Py.dp r p _ x h1 i1, Py.dp r _ _ y h2 i2, h3, h4, k.at r (d := .bl _) rfl h5⟩⟩
/-! one-place -/
variable {W : WX} {a b e : Expr} {es : List Expr} {wa wb : WE} {pos p apos : Pos}
def wNeg (u : WE) : WE := fun R δ μ P => u R δ μ fun d μ1 => match d with
  | .int i => P (.int (-i)) μ1
  | _ => False
theorem q_neg (h : QE X W a wa) : QE X W (.UnaryOp .USub a pos) (wNeg wa) := by
  obtain ⟨t, h1, h2⟩ := h
  refine ⟨_, pe_un un_neg h1, fun R ι μ δ σ H P Q c hw k => h2 R ι μ δ σ H _ _ c hw fun v d ι1 μ1 H1 s1 r1 i1 q1 => ?_⟩
  cases d with
  | int i => exact ⟨i, i1, (k.stp s1).at r1 (d := .int _) rfl q1⟩
  | _ => exact q1.elim
/-! subscripts -/
def wIx : WO := fun d e μ P => match d, e with
  | .tup xs, .int i => match atI xs i with
    | some x => P x μ
    | none => False
  | .ro xs, .int i => match atI xs i with
    | some x => P x μ
    | none => False
  | .ref k, .int i => match lstAt μ k with
    | some xs => match atI xs i with
      | some x => P x μ
      | none => False
    | none => False
  | .str z, .int i => z.length ≤ sizeLine ∧ match atI z.cps.toList i with
    | some c => P (.str ⟨#[c]⟩) μ
    | none => False
  | _, _ => False
theorem atI_is {K : PySem.W.Frag} {ι : List Addr} {H : Hp} {xs : List D} {ys : List V} {i : Int} {d : D} (h : IsAll K ι H xs ys) (e : atI xs i = some d) : ∃ v, atI ys i = some v ∧ Is K ι H d v := by
  unfold atI at e ⊢
  rw [h.length]
  cases hj : ixN xs.length i with
  | none =>
    rw [hj] at e
    cases e
  | some j =>
    rw [hj] at e
    exact h.get (i := j) e
theorem q_ix (ha : QE X W a wa) (hb : QE X W b wb) (hs : PlainIx b) : QE X W (.Subscript a b pos) (wOp wIx wa wb) := by
  obtain ⟨ta, a1, a2⟩ := ha
  obtain ⟨tb, b1, b2⟩ := hb
  refine ⟨_, pe_ix ix_seq a1 b1 hs, re_op a2 b2 fun ι μ H x y d e P Q r i1 i2 h k => ?_⟩
  unfold wIx at h
  split at h
  · split at h
    · rename_i el
      obtain ⟨a, xs, e1, q, t⟩ := i1
      obtain ⟨v, e2, iv⟩ := atI_is t el
      exact .inr (.inl ⟨a, xs, _, v, e1, i2, q, e2, k.at r iv h⟩)
    · exact h.elim
  · split at h
    · rename_i el
      obtain ⟨a, xs, e1, q, t⟩ := i1
      obtain ⟨v, e2, iv⟩ := atI_is t el
      exact .inl ⟨a, xs, _, v, e1, i2, q.seq, e2, k.at r iv h⟩
    · exact h.elim
  · split at h
    · rename_i el
      split at h
      · rename_i em
        obtain ⟨a, xs, f1, f2, t⟩ := r.lst el
        obtain ⟨a', ea, e1⟩ := i1
        rw [f1] at ea
        cases ea
        obtain ⟨v, e2, iv⟩ := atI_is t em
        exact .inl ⟨a, xs, _, v, e1, i2, SqL.of f2, e2, k.at r iv h⟩
      · exact h.elim
    · exact h.elim
  · obtain ⟨hz, h⟩ := h
    split at h
    · rename_i el
      exact .inr (.inr ⟨_, _, _, i1, i2, hz, el, k.at r (d := .str _) rfl h⟩)
    · exact h.elim
  · exact h.elim
/-- xs[lo:hi] of a list: a new one -/
abbrev WP := XD → En → Sto → (Option Int → Sto → Prop) → Prop
def wNoPart : WP := fun _ _ μ P => P none μ
def wPart (w : WE) : WP := fun R δ μ P => w R δ μ fun d μ1 => match d with
  | .int i => P (some i) μ1
  | _ => False
def KtO (K : PySem.W.Frag) (ι : List Addr) (H : Hp) (P : Option Int → Sto → Prop) (Q : Option Int → Hp → Prop) : Prop := ∀ o ι' μ' H', Stp ι H ι' H' → Rel K ι' μ' H' → P o μ' → Q o H'
def RP (K : PySem.W.Frag) (W : WX) (t : TO) (w : WP) : Prop := ∀ R ι μ δ σ H P Q, Cn K W ι μ H δ σ R → w R δ μ P → KtO K ι H P Q → t σ H Q
def QP (X : Cx) (W : WX) (e : Option Expr) (w : WP) : Prop := ∃ t, PO X e t ∧ RP X.K W t w
theorem qp_none : QP X W none wNoPart := ⟨_, po_none, fun R ι μ δ σ H P Q c h k => k none ι μ H (Stp.refl ι H) c.rel h⟩
theorem qp_some (h : QE X W a wa) : QP X W (some a) (wPart wa) := by
  obtain ⟨t, h1, h2⟩ := h
  refine ⟨_, po_some h1, fun R ι μ δ σ H P Q c hw k => h2 R ι μ δ σ H _ _ c hw fun v d ι1 μ1 H1 s1 r1 i1 q1 => ?_⟩
  cases d with
  | int i => exact ⟨i, i1, k (some i) ι1 μ1 H1 s1 r1 q1⟩
  | _ => exact q1.elim
def cutD (xs : List D) (lo hi : Option Int) : List D := (xs.drop (HT.sIx xs.length 0 lo)).take (HT.sIx xs.length xs.length hi - HT.sIx xs.length 0 lo)
def wSlL (wa : WE) (wl wh : WP) : WE := fun R δ μ P => wa R δ μ fun d μ1 => wl R δ μ1 fun lo μ2 => wh R δ μ2 fun hi μ3 => ∃ xs, itemsOf μ3 d = some xs ∧ match isTup d with
  | true => P (.tup (cutD xs lo hi)) μ3
  | false => P (.ref μ3.length) (μ3 ++ [.lst (cutD xs lo hi)])
theorem cut_is {K : PySem.W.Frag} {ι : List Addr} {H : Hp} {xs : List D} {ys : List V} {lo hi : Option Int} (t : IsAll K ι H xs ys) : IsAll K ι H (cutD xs lo hi) (cutV ys lo hi) := by
  unfold cutD cutV
  rw [t.length]
  exact (t.drop _).take _
theorem cut_whole {α : Type} {ys : List α} {lo hi : Option Int} (h : HT.sIx ys.length 0 lo = 0 ∧ HT.sIx ys.length ys.length hi = ys.length) : (ys.drop (HT.sIx ys.length 0 lo)).take (HT.sIx ys.length ys.length hi - HT.sIx ys.length 0 lo) = ys := by
  rw [h.1, h.2]
  simp
theorem q_sliceL {lo hi : Option Expr} {p2 : Pos} {wl wh : WP} (ha : QE X W a wa) (hl : QP X W lo wl) (hh : QP X W hi wh) : QE X W (.Subscript a (.Slice lo hi none p2) pos) (wSlL wa wl wh) := by
  obtain ⟨ta, a1, a2⟩ := ha
  obtain ⟨tl, l1, l2⟩ := hl
  obtain ⟨th, h1, h2⟩ := hh
  refine ⟨_, pe_slice (SlR.or sl_list sl_tupA) a1 l1 h1, fun R ι μ δ σ H P Q c hw k => a2 R ι μ δ σ H _ _ c hw fun v d ι1 μ1 H1 s1 r1 i1 q1 => ?_⟩
  refine l2 R ι1 μ1 δ σ H1 _ _ (c.stp s1 r1) q1 fun lo' ι2 μ2 H2 s2 r2 q2 => h2 R ι2 μ2 δ σ H2 _ _ (c.stp (s1.trans s2) r2) q2 fun hi' ι3 μ3 H3 s3 r3 q3 => ?_
  obtain ⟨xs, ex, q⟩ := q3
  obtain ⟨ad, ys, ev, hq, ht⟩ := items_seq r3 (Is.stp (s2.trans s3) _ _ i1) ex
  have hcut : IsAll X.K ι3 H3 (cutD xs lo' hi') (cutV ys lo' hi') := cut_is ht
  have k3 := k.stp ((s1.trans s2).trans s3)
  cases hk : isTup d with
  | false =>
    rw [hk] at hq q
    refine .inl ⟨ad, ys, ev, hq, fun pn hp => ?_⟩
    exact k3 (.ref pn) (.ref μ3.length) (ι3 ++ [pn]) _ _ (Stp.push hp) (r3.pushLst hp hcut) (is_pushed r3) q
  | true =>
    rw [hk] at hq q
    have hq' : SqT X.K H3 ad ys := hq
    refine .inr ⟨ad, ys, ev, hq', fun hwh => ?_, fun _ pn hp => ?_⟩
    · have ey : cutV ys lo' hi' = ys := cut_whole hwh
      rw [ey] at hcut
      exact k3.at r3 (d := .tup (cutD xs lo' hi')) ⟨ad, ys, rfl, hq', hcut⟩ q
    · exact k3 (.ref pn) (.tup (cutD xs lo' hi')) ι3 μ3 _ (Stp.new hp) (r3.new hp) ⟨pn, _, rfl, SqT.of upd_same, IsAll.stp (Stp.new hp) _ _ hcut⟩ q

/-! ### built-in functions -/
abbrev WB := List D → Sto → (D → Sto → Prop) → Prop
def RB (K : PySem.W.Frag) (r : List V → Hp → VK → Prop) (w : WB) : Prop := ∀ ι μ H vs ds P Q, Rel K ι μ H → IsAll K ι H ds vs → w ds μ P → Kt K ι H P Q → r vs H Q
def QB (X : Cx) (f : Value) (w : WB) : Prop := ∃ r, CallR X f r ∧ RB X.K r w
def wCB (w : WB) (wa : WA) : WE := fun R δ μ P => wa R δ μ fun ds μ1 => w ds μ1 P
theorem re_cb {K : PySem.W.Frag} {ta : TA} {r : List V → Hp → VK → Prop} {w : WB} {wa : WA} (h1 : RA K W ta wa) (h2 : RB K r w) : RE K W (tCB r ta) (wCB w wa) := fun R ι μ δ σ H P Q c h k =>
  h1 R ι μ δ σ H _ _ c h fun vs ds ι1 μ1 H1 s1 r1 i1 q1 => h2 ι1 μ1 H1 vs ds P Q r1 i1 q1 (k.stp s1)
variable {x : Str} {id T : String} {w : WB} {wA : WA}
theorem q_callB (hc : QB X (.builtin id) w) (hg : Gl X x) (hm : X.mg x = none) (hv : bootBuiltins x = some (.builtin id)) (ha : QA X W (e :: es) wA) (hn : x ≠ "__name__" := by decide) (hdb : (x == ("__debug__" : Str)) = false := by decide)
    (he : starEach (e :: es) X.env = (false, eval e X.env) :: starEach es X.env := by rfl) (hpl : (backTo pos (starEach es X.env)).any (·.1) = false := by rfl) : QE X W (.Call (.Name x p) (e :: es) [] pos) (wCB w wA) := by
  obtain ⟨r, h1, h2⟩ := hc
  obtain ⟨t, h3, h4⟩ := ha
  exact ⟨_, pe_callB h1 hg hm hv h3 hn hdb he hpl, re_cb h4 h2⟩
theorem q_callTy (hc : QB X (.type T) w) (hg : Gl X x) (hm : X.mg x = none) (hv : bootBuiltins x = some (.type T)) (ha : QA X W (e :: es) wA) (hn : x ≠ "__name__" := by decide) (hdb : (x == ("__debug__" : Str)) = false := by decide)
    (he : starEach (e :: es) X.env = (false, eval e X.env) :: starEach es X.env := by rfl) (hpl : (backTo pos (starEach es X.env)).any (·.1) = false := by rfl) : QE X W (.Call (.Name x p) (e :: es) [] pos) (wCB w wA) := by
  obtain ⟨r, h1, h2⟩ := hc
  obtain ⟨t, h3, h4⟩ := ha
  exact ⟨_, pe_callTy h1 hg hm hv h3 hn hdb he hpl, re_cb h4 h2⟩
/-- a module's name for a built-in function -/
theorem q_callBf (hc : QB X (.builtin id) w) (hg : Gl X x) (hm : X.mg x = some (.builtin id)) (ha : QA X W (e :: es) wA) (hdb : (x == ("__debug__" : Str)) = false := by decide)
    (he : starEach (e :: es) X.env = (false, eval e X.env) :: starEach es X.env := by rfl) (hpl : (backTo pos (starEach es X.env)).any (·.1) = false := by rfl) : QE X W (.Call (.Name x p) (e :: es) [] pos) (wCB w wA) := by
  obtain ⟨r, h1, h2⟩ := hc
  obtain ⟨t, h3, h4⟩ := ha
  exact ⟨_, pe_callBfun h1 hg hm h3 hdb he hpl, re_cb h4 h2⟩
def wAbs : WB := fun ds μ P => ints1 (fun i => P (.int (if i < 0 then -i else i)) μ) ds
theorem qb_abs : QB X (.builtin "abs") wAbs := ⟨_, call_abs, fun ι μ H vs ds P Q r i h k => by
  obtain ⟨n, e, q⟩ := ints1_of h
  subst e
  obtain ⟨v, e1, iv⟩ := isAll1 i
  have iv' : v = .int n := iv
  subst iv'
  exact ⟨n, e1, k.at r (d := .int _) rfl q⟩⟩
def wMax : WB := fun ds μ P => ints2 (fun i j => P (.int (if j > i then j else i)) μ) ds
def wMin : WB := fun ds μ P => ints2 (fun i j => P (.int (if j < i then j else i)) μ) ds
theorem qb_max (hc : X.calm = true) : QB X (.builtin "max") wMax := ⟨_, call_max2 hc, fun ι μ H vs ds P Q r i h k => by
  obtain ⟨n, m, e, q⟩ := ints2_of h
  subst e
  obtain ⟨v, u, e1, iv, iu⟩ := isAll2 i
  have iv' : v = .int n := iv
  have iu' : u = .int m := iu
  subst iv' iu'
  exact ⟨n, m, e1, k.at r (d := .int _) rfl q⟩⟩
theorem qb_min (hc : X.calm = true) : QB X (.builtin "min") wMin := ⟨_, call_min2 hc, fun ι μ H vs ds P Q r i h k => by
  obtain ⟨n, m, e, q⟩ := ints2_of h
  subst e
  obtain ⟨v, u, e1, iv, iu⟩ := isAll2 i
  have iv' : v = .int n := iv
  have iu' : u = .int m := iu
  subst iv' iu'
  exact ⟨n, m, e1, k.at r (d := .int _) rfl q⟩⟩
def wGcd : WB := fun ds μ P => ints2 (fun i j => P (.int ((Nat.gcd i.natAbs j.natAbs : Nat) : Int)) μ) ds
theorem qb_gcd : QB X (.builtin "math.gcd") wGcd := ⟨_, cr_gcd, fun ι μ H vs ds P Q r i h k => by
  obtain ⟨n, m, e, q⟩ := ints2_of h
  subst e
  obtain ⟨v, u, e1, iv, iu⟩ := isAll2 i
  have iv' : v = .int n := iv
  have iu' : u = .int m := iu
  subst iv' iu'
  exact ⟨n, m, e1, k.at r (d := .int _) rfl q⟩⟩
/-- int of an int -/
def wInt : WB := fun ds μ P => ints1 (fun i => P (.int i) μ) ds
theorem qb_int : QB X (.type "int") wInt := ⟨_, call_int1, fun ι μ H vs ds P Q r i h k => by
  obtain ⟨n, e, q⟩ := ints1_of h
  subst e
  obtain ⟨v, e1, iv⟩ := isAll1 i
  have iv' : v = .int n := iv
  subst iv'
  exact .inl ⟨n, e1, k.at r (d := .int _) rfl q⟩⟩
def wStrI : WB := fun ds μ P => ints1 (fun i => i.natAbs.log2 < 1920 ∧ P (.str (toString i)) μ) ds
theorem qb_str : QB X (.type "str") wStrI := ⟨_, call_str_int, fun ι μ H vs ds P Q r i h k => by
  obtain ⟨n, e, q⟩ := ints1_of h
  subst e
  obtain ⟨v, e1, iv⟩ := isAll1 i
  have iv' : v = .int n := iv
  subst iv'
  exact ⟨n, e1, q.1, k.at r (d := .str _) rfl q.2⟩⟩
/-- divmod -/
def wDivmod : WB := fun ds μ P => ints2 (fun i j => (0 < j ∧ j < 1073741824) ∧ P (.tup [.int (i / j), .int (i % j)]) μ) ds
theorem qb_divmod : QB X (.builtin "divmod") wDivmod := ⟨_, call_divmod, fun ι μ H vs ds P Q r i h k => by
  obtain ⟨n, m, e, hm, q⟩ := ints2_of h
  subst e
  obtain ⟨v, u, e1, iv, iu⟩ := isAll2 i
  have iv' : v = .int n := iv
  have iu' : u = .int m := iu
  subst iv' iu'
  refine ⟨n, m, e1, hm, fun pn hp => ?_⟩
  exact k (.ref pn) (.tup [.int (n / m), .int (n % m)]) ι μ _ (Stp.new hp) (r.new hp) ⟨pn, _, rfl, SqT.of upd_same, ⟨_, _, rfl, rfl, _, _, rfl, rfl, rfl⟩⟩ q⟩
/-- len -/
def lenOf (μ : Sto) : D → Option Nat
  | .ref k => (lstAt μ k).map List.length
  | .ro xs => some xs.length
  | .tup xs => some xs.length
  | _ => none
def wLen : WB := fun ds μ P => match ds with
  | [.str z] => z.length ≤ sizeLine ∧ P (.int z.length) μ
  | [d] => ∃ n : Nat, lenOf μ d = some n ∧ P (.int n) μ
  | _ => False
theorem qb_len : QB X (.builtin "len") wLen := by
  have both : CallR X (.builtin "len") (fun xs H Q => (∃ p ys, xs = [.ref p] ∧ (SqL X.K H p ys ∨ SqT X.K H p ys) ∧ Q (.int ys.length) H) ∨ ∃ z, xs = [.str z] ∧ z.length ≤ sizeLine ∧ Q (.int z.length) H) := by
    intro pins s σ H xs us Q I r h
    rcases h with h | h
    · exact call_len_seq pins s σ H xs us Q I r h
    · exact call_len_str pins s σ H xs us Q I r h
  refine ⟨_, both, fun ι μ H vs ds P Q r i h k => ?_⟩
  unfold wLen at h
  split at h
  · obtain ⟨v, e1, iv⟩ := isAll1 i
    have iv' : v = .str _ := iv
    subst iv'
    exact .inr ⟨_, e1, h.1, k.at r (d := .int _) rfl h.2⟩
  · rename_i d hd
    obtain ⟨n, el, q⟩ := h
    obtain ⟨v, e1, iv⟩ := isAll1 i
    cases d with
    | ref kk =>
      have el' : (lstAt μ kk).map List.length = some n := el
      cases hl : lstAt μ kk with
      | none =>
        rw [hl] at el'
        cases el'
      | some xs =>
        rw [hl] at el'
        have en : xs.length = n := Option.some.inj el'
        obtain ⟨a, ys, f1, f2, t⟩ := r.lst hl
        obtain ⟨a', ea, ev⟩ := iv
        rw [f1] at ea
        cases ea
        subst ev
        exact .inl ⟨a, ys, e1, .inl (SqL.of f2), by rw [t.length, en]; exact k.at r (d := .int _) rfl q⟩
    | ro xs =>
      have en : xs.length = n := Option.some.inj el
      obtain ⟨a, ys, ev, hq, t⟩ := iv
      subst ev
      exact .inl ⟨a, ys, e1, .inl hq.seq, by rw [t.length, en]; exact k.at r (d := .int _) rfl q⟩
    | tup xs =>
      have en : xs.length = n := Option.some.inj el
      obtain ⟨a, ys, ev, hq, t⟩ := iv
      subst ev
      exact .inl ⟨a, ys, e1, .inr hq, by rw [t.length, en]; exact k.at r (d := .int _) rfl q⟩
    | _ => cases el
  · exact h.elim
theorem hasDict_py {μ : Sto} : (∀ (p : PyData) (d : D), Py μ d p → p.hasDict = false) ∧ (∀ (ps : List PyData) (ds : List D), PyAll μ ds ps → PyData.hasDictAll ps = false) := by
  have main : ∀ (n : Nat), (∀ (p : PyData), sizeOf p ≤ n → ∀ (d : D), Py μ d p → p.hasDict = false) ∧ (∀ (ps : List PyData), sizeOf ps ≤ n → ∀ (ds : List D), PyAll μ ds ps → PyData.hasDictAll ps = false) := by
    intro n
    induction n with
    | zero =>
      refine ⟨fun p hp => ?_, fun ps hp => ?_⟩
      · cases p <;> simp at hp
      · cases ps <;> simp at hp
    | succ n ih =>
      refine ⟨fun p hp d h => ?_, fun ps hp ds h => ?_⟩
      · cases h with
        | tup ha => exact ih.2 _ (by simp at hp; omega) _ ha
        | ro ha => exact ih.2 _ (by simp at hp; omega) _ ha
        | ref _ ha => exact ih.2 _ (by simp at hp; omega) _ ha
        | _ => rfl
      · cases h with
        | nil => rfl
        | cons h1 h2 =>
          show (PyData.hasDict _ || PyData.hasDictAll _) = false
          rw [ih.1 _ (by simp at hp; omega) _ h1, ih.2 _ (by simp at hp; omega) _ h2]
          rfl
  exact ⟨fun p d h => (main _).1 p (Nat.le_refl _) d h, fun ps ds h => (main _).2 ps (Nat.le_refl _) ds h⟩
def rRepr (K : PySem.W.Frag) : List V → Hp → VK → Prop := fun vs H Q => ∃ v p, vs = [v] ∧ Dp K H v p ∧ p.hasDict = false ∧ p.showable = true ∧ p.depth ≤ 60 ∧ p.shown.length ≤ sizeLine ∧ Q (.str p.shown) H
theorem call_repr (gd : X.A.guards = some []) (hu : X.A.units + 64 < cLine) : CallR X (.builtin "repr") (rRepr X.K) := by
  intro pins s σ H xs us Q I r h
  obtain ⟨v, p, rfl, hd, hnd, hs, hdep, hsz, q⟩ := h
  cases r with
  | cons r1 r2 =>
    cases r2
    obtain ⟨as, rd⟩ := Dp.reads I p v _ hd r1
    cases hd with
    | non =>
      cases r1
      exact PySem.P.repr_of_none ⟨.str _, H, I.tok _, ⟨_, rfl⟩, q⟩
    | bl b =>
      cases r1
      exact PySem.P.repr_of_bool ⟨.str _, H, I.tok _, ⟨_, rfl⟩, q⟩
    | int i =>
      obtain ⟨t, rfl⟩ := r1
      exact PySem.P.repr_of_int (by simpa [PyData.showable] using hs) ⟨.str _, H, I.tok _, ⟨_, rfl⟩, q⟩
    | str y =>
      obtain ⟨t, rfl⟩ := r1
      exact PySem.P.repr_of_str (hsz := hsz) ⟨.str _, H, I.tok _, ⟨_, rfl⟩, q⟩
    | lst hq ha =>
      cases r1
      exact repr_of_reads' rd hs (fun z => by rw [hnd] at z; cases z) gd (by omega) (fun _ _ z => z) (fun h' u tk hk => ⟨.str _, H, I.kept (t' := tk) hk, ⟨_, rfl⟩, q⟩) hsz
    | tup hq ha =>
      cases r1
      exact repr_of_reads' rd hs (fun z => by rw [hnd] at z; cases z) gd (by omega) (fun _ _ z => z) (fun h' u tk hk => ⟨.str _, H, I.kept (t' := tk) hk, ⟨_, rfl⟩, q⟩) hsz
/-- all of a list of truth values -/
def wAll : WB := fun ds μ P => match ds with
  | [.ref k] => ∃ bs : List Bool, lstAt μ k = some (bs.map D.bl) ∧ P (.bl (bs.all _root_.id)) μ
  | _ => False
theorem isAll_bls {K : PySem.W.Frag} {ι : List Addr} {H : Hp} : ∀ {bs : List Bool} {vs : List V}, IsAll K ι H (bs.map D.bl) vs → vs = bs.map V.bl
  | [], _, h => h
  | b :: bs, _, h => by
    obtain ⟨v, r, e, i, t⟩ := h
    have i' : v = .bl b := i
    rw [e, i', isAll_bls t]
    rfl
theorem qb_all (hc : X.calm = true) : QB X (.builtin "all") wAll := ⟨_, cr_all hc, fun ι μ H vs ds P Q r i h k => by
  unfold wAll at h
  split at h
  · obtain ⟨bs, el, q⟩ := h
    obtain ⟨v, e1, iv⟩ := isAll1 i
    obtain ⟨a, ys, f1, f2, t⟩ := r.lst el
    obtain ⟨a', ea, ev⟩ := iv
    rw [f1] at ea
    cases ea
    subst ev
    have ey := isAll_bls t
    subst ey
    exact ⟨a, bs, e1, SqL.of f2, k.at r (d := .bl _) rfl q⟩
  · exact h.elim⟩
/-- isinstance(x, a built-in class) -/
def tyOf (μ : Sto) : D → Option String
  | .non => some "NoneType"
  | .bl _ => some "bool"
  | .int _ => some "int"
  | .str _ => some "str"
  | .tup _ => some "tuple"
  | .ref k => (lstAt μ k).map fun _ => "list"
  | _ => none
end
end HD
/-! HD5: comprehensions, ranges with a step, isinstance, the law's end. -/
namespace HD
open PySem PySem.Spec PyProof.Rows L2

section
variable {X : Cx} {W : WX} {pos p pos' : Pos}
/-- nothing may be raised within -/
abbrev W0 : WX := fun _ _ _ _ => False
abbrev R0 : XD := fun _ _ _ _ => False
theorem xl0 {K : PySem.W.Frag} {ι : List Addr} {H : Hp} : XL K W0 ι H R0 := fun _ _ _ _ _ _ _ _ _ _ _ _ h => h
def wYes : WT := fun _ _ μ P => P true μ
def QTs (X : Cx) (W : WX) (ifs : List Expr) (w : WT) : Prop := ∃ t, PTs X ifs t ∧ RT X.K W t w
theorem qts_nil : QTs X W [] wYes := ⟨_, pts_nil, fun R ι μ δ σ H P Q c h k => k true ι μ H (Stp.refl ι H) c.rel h⟩
/-- one turn of a comprehension: i its slot, the item x, k the list that is made -/
def lcTurn (i k : Nat) (wt : WT) (we : WE) (δ : En) (x : D) (acc : List D) (μ : Sto) (N : List D → Sto → Prop) : Prop :=
  wt R0 (put δ i (some x)) μ fun b μ2 => match b with
    | true => we R0 (put δ i (some x)) μ2 fun d μ3 => (cell μ3 k = some (.lst acc) ∧ acc.length ≤ 100000) ∧ N (acc ++ [d]) (μ3.set k (.lst (acc ++ [d])))
    | false => cell μ2 k = some (.lst acc) ∧ N acc μ2
def lcAll (i : Nat) (wt : WT) (we : WE) (δ : En) (n : Nat) (item : Nat → D) (ok : Sto → Prop) (μ : Sto) (P : D → Sto → Prop) : Prop :=
  ∃ Pv : Nat → List D → Sto → Prop, Pv 0 [] (μ ++ [.lst []]) ∧ (∀ (j : Nat) acc μ', j < n → cell μ' μ.length = some (.lst acc) → Pv j acc μ' → ok μ' ∧ lcTurn i μ.length wt we δ (item j) acc μ' (Pv (j + 1))) ∧
    ∀ acc μ', cell μ' μ.length = some (.lst acc) → Pv n acc μ' → ok μ' ∧ P (.ref μ.length) μ'
theorem wipe_one (σ : L2.St) (i : Nat) (x : Option V) : wipe ((wipe σ [i]).set i x) [i] = wipe σ [i] := by
  show ((σ.set i none).set i x).set i none = σ.set i none
  rw [List.set_set, List.set_set]
/-- the heart: the turn's reading -/
theorem lc_turn {K : PySem.W.Frag} {tt : TT} {te : TE} {wt : WT} {we : WE} {i k : Nat} (h2 : RT K W0 tt wt) (h3 : RE K W0 te we) {ι : List Addr} {μ : Sto} {H : Hp} {δ : En} {σ : L2.St} {x : D} {v : V} {acc : List D} {Dd : Addr} {N : List D → Sto → Prop} {Nx : Hp → Prop}
    (r : Rel K ι μ H) (ev : EnvIs K ι H δ σ) (iv : Is K ι H x v) (hk : ι[k]? = some Dd) (h : lcTurn i k wt we δ x acc μ N)
    (kn : ∀ acc' ι' μ' H', Stp ι H ι' H' → Rel K ι' μ' H' → cell μ' k = some (.lst acc') → N acc' μ' → Nx H') :
    gName i v (wipe σ [i]) H fun σ2 H2 => wipe σ2 [i] = wipe σ [i] ∧ tt σ2 H2 fun b H3 => if b = true then te σ2 H3 fun y H4 => ∃ ac, H4 Dd = some (.lst ac) ∧ ac.length < sizeLine ∧ Nx (upd H4 Dd (.lst (ac ++ [y]))) else Nx H3 := by
  refine ⟨wipe_one σ i (some v), ?_⟩
  have env : EnvIs K ι H (put δ i (some x)) ((wipe σ [i]).set i (some v)) := by
    show EnvIs K ι H (put δ i (some x)) ((σ.set i none).set i (some v))
    rw [List.set_set]
    exact ev.put iv
  refine h2 R0 ι μ _ _ H _ _ ⟨r, env, xl0⟩ h fun b ι1 μ1 H1 s1 r1 q1 => ?_
  cases b with
  | false =>
    rw [if_neg Bool.false_ne_true]
    exact kn acc ι1 μ1 H1 s1 r1 q1.1 q1.2
  | true =>
    rw [if_pos rfl]
    refine h3 R0 ι1 μ1 _ _ H1 _ _ ⟨r1, env.stp s1, xl0⟩ q1 fun y d ι2 μ2 H2 s2 r2 i2 q2 => ?_
    obtain ⟨⟨hc, hz⟩, hn⟩ := q2
    obtain ⟨a, ys, e1, e2, e3⟩ := r2.lst (lstAt_of hc)
    have ed := (s1.trans s2).ext k Dd hk
    rw [e1] at ed
    cases ed
    refine ⟨ys, e2, ?_, ?_⟩
    · rw [e3.length]
      exact Nat.lt_of_le_of_lt hz (by decide)
    · refine kn (acc ++ [d]) ι2 _ _ ((s1.trans s2).trans (Stp.wr e2)) (r2.write hc e1 e2 (e3.app (show IsAll K ι2 H2 [d] [y] from ⟨y, [], rfl, i2, rfl⟩))) (cell_set_same ?_) hn
      exact cell_lt hc
variable {elt iter : Expr} {ifs : List Expr} {scope : Scope} {x : Str} {i : Nat} {wt : WT} {we : WE}
/-- [elt for x in range(n) if ..] -/
def wLcR (i : Nat) (wa : WA) (wt : WT) (we : WE) : WE := fun R δ μ P => wa R δ μ fun ds μ1 => ints1 (fun j => R62 j ∧ lcAll i wt we δ j.toNat (fun m => .int (0 + m)) (fun _ => True) μ1 P) ds
theorem re_lcR {K : PySem.W.Frag} {ta : TA} {tt : TT} {te : TE} {wa : WA} (a2 : RA K W ta wa) (t2 : RT K W0 tt wt) (e2 : RE K W0 te we) : RE K W (tLc (iRng1 ta) (gName i) tt te [i]) (wLcR i wa wt we) := by
  refine fun R ι μ δ σ H P Q c h kt => a2 R ι μ δ σ H _ _ c h fun vs ds ι1 μ1 H1 s1 r1 i1 q1 => ?_
  obtain ⟨j, ed, hj, Pv, h0, hturn, hd⟩ := ints1_of q1
  subst ed
  obtain ⟨v, ev, iv⟩ := isAll1 i1
  have iv' : v = .int j := iv
  subst iv'
  refine ⟨j, ev, hj.1, hj.2, fun Dd hD => ?_⟩
  have rel0 : Rel K (ι1 ++ [Dd]) (μ1 ++ [.lst []]) (upd H1 Dd (.lst [])) := r1.pushLst (ds := []) hD rfl
  have kD : (ι1 ++ [Dd])[μ1.length]? = some Dd := by
    rw [← r1.len, List.getElem?_append_right (Nat.le_refl _), Nat.sub_self]
    rfl
  refine lc_range (lo := 0) (n := j.toNat) (fun m H' => ∃ ι' μ' acc, Stp (ι1 ++ [Dd]) (upd H1 Dd (.lst [])) ι' H' ∧ Rel K ι' μ' H' ∧ cell μ' μ1.length = some (.lst acc) ∧ Pv m acc μ')
    ⟨ι1 ++ [Dd], _, [], Stp.refl _ _, rel0, cell_new μ1 _ [], h0⟩ (fun m H' hm z => ?_) fun H' z => ?_
  · obtain ⟨ι', μ', acc, s', r', hc', hp⟩ := z
    have full := (s1.trans (Stp.push (o := .lst []) hD)).trans s'
    refine lc_turn t2 e2 r' (c.env.stp full) (x := .int (0 + m)) rfl (s'.ext _ _ kD) (hturn m acc μ' hm hc' hp).2 fun acc' ι2 μ2 H2 s2 r2 hc2 hn => ?_
    exact ⟨ι2, μ2, acc', s'.trans s2, r2, hc2, hn⟩
  · obtain ⟨ι', μ', acc, s', r', hc', hp⟩ := z
    exact kt (.ref Dd) (.ref μ1.length) ι' μ' H' ((s1.trans (Stp.push (o := .lst []) hD)).trans s') r' ⟨Dd, s'.ext _ _ kD, rfl⟩ (hd acc μ' hc' hp).2
theorem q_lcR {a : Expr} {pr px : Pos} {wa : WA} (hc : X.calm = true) (hN : X.N.Nodup) (hgl : Gl X "range") (hm : X.mg "range" = none) (ha : QA X W [a] wa) (ok : BlkOk X.N X.env.scope scope [(x, i)])
    (hg : ∀ (s : Shared) (H : Hp) (C : Addr) (cl : List (Str × Addr)) (fp : List Addr), PG (X.blk s H scope (compEnvC scope cl C X.env) fp) (.Name x px) (gName i))
    (ht : ∃ tt, RT X.K W0 tt wt ∧ ∀ (s : Shared) (H : Hp) (C : Addr) (cl : List (Str × Addr)) (fp : List Addr), PTs (X.blk s H scope (compEnvC scope cl C X.env) fp) ifs tt)
    (he : ∃ te, RE X.K W0 te we ∧ ∀ (s : Shared) (H : Hp) (C : Addr) (cl : List (Str × Addr)) (fp : List Addr), PE (X.blk s H scope (compEnvC scope cl C X.env) fp) elt te)
    (hst : starEach [a] X.env = [(false, eval a X.env)] := by rfl) (hs : ∀ z, foldedSetIterable (.Call (.Name "range" pr) [a] [] p) X.env z = pure z := by intro _; rfl) :
    QE X W (.ListComp elt [⟨.Name x px, .Call (.Name "range" pr) [a] [] p, ifs, 0⟩] scope pos) (wLcR i wa wt we) := by
  obtain ⟨ta, a1, a2⟩ := ha
  obtain ⟨tt, t2, t1⟩ := ht
  obtain ⟨te, e2, e1⟩ := he
  exact ⟨_, pe_lc (own := [(x, i)]) hc hN (pi_range1 hgl hm a1 hst) ok hg t1 e1 hs, re_lcR a2 t2 e2⟩
/-- [elt for x in xs if ..] -/
def wLcL (i : Nat) (wl : WE) (wt : WT) (we : WE) : WE := fun R δ μ P => wl R δ μ fun d μ1 => ∃ xs, itemsOf μ1 d = some xs ∧ lcAll i wt we δ xs.length (fun m => xs.getD m .non) (fun μ' => itemsOf μ' d = some xs) μ1 P
theorem re_lcL {K : PySem.W.Frag} {tl : TE} {tt : TT} {te : TE} {wl : WE} (l2 : RE K W tl wl) (t2 : RT K W0 tt wt) (e2 : RE K W0 te we) : RE K W (tLc (iAny K tl) (gName i) tt te [i]) (wLcL i wl wt we) := by
  refine fun R ι μ δ σ H P Q c h kt => l2 R ι μ δ σ H _ _ c h fun v d ι1 μ1 H1 s1 r1 i1 q1 => ?_
  obtain ⟨xs, ex, Pv, h0, hturn, hd⟩ := q1
  obtain ⟨a, ys, ev, hq, ha⟩ := items_seq r1 i1 ex
  subst ev
  refine ⟨a, isTup d, rfl, ⟨ys, hq⟩, fun Dd hD => ?_⟩
  have rel0 : Rel K (ι1 ++ [Dd]) (μ1 ++ [.lst []]) (upd H1 Dd (.lst [])) := r1.pushLst (ds := []) hD rfl
  have kD : (ι1 ++ [Dd])[μ1.length]? = some Dd := by
    rw [← r1.len, List.getElem?_append_right (Nat.le_refl _), Nat.sub_self]
    rfl
  -- by hand: the source is read anew in each turn
  refine ⟨fun m n H' => n = xs.length - m ∧ m ≤ xs.length ∧ ∃ ι' μ' acc, Stp (ι1 ++ [Dd]) (upd H1 Dd (.lst [])) ι' H' ∧ Rel K ι' μ' H' ∧ cell μ' μ1.length = some (.lst acc) ∧ Pv m acc μ',
    ⟨xs.length, rfl, Nat.zero_le _, ι1 ++ [Dd], _, [], Stp.refl _ _, rel0, cell_new μ1 _ [], h0⟩, fun m n H' z => ?_⟩
  obtain ⟨hn, hle, ι', μ', acc, s', r', hc', hp⟩ := z
  have full := (s1.trans (Stp.push (o := .lst []) hD)).trans s'
  have is' := Is.stp ((Stp.push (o := .lst []) hD).trans s') _ _ i1
  by_cases hlt : m < xs.length
  · obtain ⟨hok, hl⟩ := hturn m acc μ' hlt hc' hp
    obtain ⟨a', ys', ev, hq', ha'⟩ := items_seq r' is' hok
    cases ev
    obtain ⟨y, hy, iy⟩ := ha'.get (i := m) (d := xs[m]) (List.getElem?_eq_getElem hlt)
    refine .inr ⟨ItA.go hq' hy, fun H2 => ∃ ι2 μ2 acc, Stp (ι1 ++ [Dd]) (upd H1 Dd (.lst [])) ι2 H2 ∧ Rel K ι2 μ2 H2 ∧ cell μ2 μ1.length = some (.lst acc) ∧ Pv (m + 1) acc μ2, fun H2 z => ⟨xs.length - (m + 1), by omega, rfl, hlt, z⟩, fun w H2 hw => ?_⟩
    obtain ⟨eH, fx⟩ := ItA.yld hw
    subst eH
    have ew : w = y := Option.some.inj ((fx _ hq').symm.trans hy)
    subst ew
    have eg : xs.getD m .non = xs[m] := by
      rw [List.getD_eq_getElem?_getD, List.getElem?_eq_getElem hlt]
      rfl
    have hl' : lcTurn i μ1.length wt we δ (xs.getD m .non) acc μ' (Pv (m + 1)) := hl
    rw [eg] at hl'
    refine lc_turn t2 e2 r' (c.env.stp full) iy (s'.ext _ _ kD) hl' fun acc' ι2 μ2 H2 s2 r2 hc2 hn => ?_
    exact ⟨ι2, μ2, acc', s'.trans s2, r2, hc2, hn⟩
  · have em : m = xs.length := by omega
    subst em
    obtain ⟨hok, hP⟩ := hd acc μ' hc' hp
    obtain ⟨a', ys', ev, hq', ha'⟩ := items_seq r' is' hok
    cases ev
    refine .inl ⟨ItA.stop hq' (by rw [ha'.length]; exact Nat.le_refl _), ?_⟩
    exact kt (.ref Dd) (.ref μ1.length) ι' μ' H' full r' ⟨Dd, s'.ext _ _ kD, rfl⟩ hP
theorem q_lcL {px : Pos} {wl : WE} (hc : X.calm = true) (hN : X.N.Nodup) (hi : QE X W iter wl) (ok : BlkOk X.N X.env.scope scope [(x, i)])
    (hg : ∀ (s : Shared) (H : Hp) (C : Addr) (cl : List (Str × Addr)) (fp : List Addr), PG (X.blk s H scope (compEnvC scope cl C X.env) fp) (.Name x px) (gName i))
    (ht : ∃ tt, RT X.K W0 tt wt ∧ ∀ (s : Shared) (H : Hp) (C : Addr) (cl : List (Str × Addr)) (fp : List Addr), PTs (X.blk s H scope (compEnvC scope cl C X.env) fp) ifs tt)
    (he : ∃ te, RE X.K W0 te we ∧ ∀ (s : Shared) (H : Hp) (C : Addr) (cl : List (Str × Addr)) (fp : List Addr), PE (X.blk s H scope (compEnvC scope cl C X.env) fp) elt te)
    (hs : ∀ z, foldedSetIterable iter X.env z = pure z := by intro _; rfl) :
    QE X W (.ListComp elt [⟨.Name x px, iter, ifs, 0⟩] scope pos) (wLcL i wl wt we) := by
  obtain ⟨tl, l1, l2⟩ := hi
  obtain ⟨tt, t2, t1⟩ := ht
  obtain ⟨te, e2, e1⟩ := he
  exact ⟨_, pe_lc (own := [(x, i)]) hc hN (pi_any l1) ok hg t1 e1 hs, re_lcL l2 t2 e2⟩
/-! ranges with the step -1 -/
/-! isinstance(x, a built-in class) -/
def wIsi (T : String) : WB := fun ds μ P => match ds with
  | [d, .ty n] => n = T ∧ ∃ t b, tyOf μ d = some t ∧ kitB t T = some b ∧ P (.bl b) μ
  | _ => False
theorem tyx_of {K : PySem.W.Frag} {ι : List Addr} {μ : Sto} {H : Hp} {d : D} {v : V} {t : String} (r : Rel K ι μ H) (i : Is K ι H d v) (h : tyOf μ d = some t) : TyX K H v (.type t) := by
  cases d with
  | non =>
    have e : v = .non := i
    cases h
    rw [e]
    exact .base .non
  | bl b =>
    have e : v = .bl b := i
    cases h
    rw [e]
    exact .base (.bl b)
  | int n =>
    have e : v = .int n := i
    cases h
    rw [e]
    exact .base (.int n)
  | str x =>
    have e : v = .str x := i
    cases h
    rw [e]
    exact .base (.str x)
  | tup ds =>
    cases h
    obtain ⟨a, xs, e, q, _⟩ := i
    rw [e]
    rcases q with (q | ⟨o, q⟩) | ⟨o, its, n, q1, q2, _⟩
    · exact .base (.tup q)
    · exact .fTuple q
    · exact .kTuple q1 q2
  | ref k =>
    have h' : (lstAt μ k).map (fun _ => "list") = some t := h
    cases hl : lstAt μ k with
    | none =>
      rw [hl] at h'
      cases h'
    | some xs =>
      rw [hl] at h'
      cases h'
      obtain ⟨a, ys, e1, e2, _⟩ := r.lst hl
      obtain ⟨a', ea, e⟩ := i
      rw [e1] at ea
      cases ea
      rw [e]
      exact .base (.lst e2)
  | _ => cases h
/-- a built-in class as a value -/
theorem q_bltTy {y : Str} {n : String} (hg : Gl X y) (hm : X.mg y = none) (hv : bootBuiltins y = some (.type n)) (hn : y ≠ "__name__" := by decide) (hd : (y == ("__debug__" : Str)) = false := by decide) : QE X W (.Name y pos) (wC (.ty n)) :=
  ⟨_, pe_bltn (v := .ty n) hg hm hv rfl hn hd, fun _ _ _ _ _ _ _ _ c h k => k.at c.rel (d := .ty n) rfl h⟩
end

/-! ### the law's end -/
end HD
/-! HD6: a def by its derivation and its condition; truth; words. -/
namespace HD
open PySem PySem.Spec PyProof.Rows L2

def startD : Nat → List D → En
  | n, [] => List.replicate n none
  | 0, d :: r => some d :: startD 0 r
  | n + 1, d :: r => some d :: startD n r
theorem env_start {K : PySem.W.Frag} {ι : List Addr} {H : Hp} : ∀ (ds : List D) (vs : List V) (N : List Str), ds.length ≤ N.length → IsAll K ι H ds vs → EnvIs K ι H (startD N.length ds) (start N vs)
  | [], vs, N, _, h => by
    have e : vs = [] := h
    subst e
    have es : start N [] = List.replicate N.length none := by
      unfold L2.start
      simp
    rw [es]
    refine ⟨by simp [startD], fun i d hd => ?_⟩
    have gen : ∀ (n i : Nat) (d : D), slot (List.replicate n none) i = some d → False := by
      intro n
      induction n with
      | zero => intro i d h; cases i <;> cases h
      | succ n ih =>
        intro i d h
        cases i with
        | zero => cases h
        | succ i => exact ih i d h
    exact (gen _ i d hd).elim
  | d :: r, vs, [], hl, h => absurd hl (Nat.not_succ_le_zero _)
  | d :: r, vs, x :: N, hl, h => by
    obtain ⟨v, vr, e, iv, t⟩ := h
    subst e
    have ih := env_start r vr N (Nat.le_of_succ_le_succ hl) t
    have es : start (x :: N) (v :: vr) = some v :: start N vr := by
      unfold L2.start
      simp
    rw [es]
    refine ⟨by show (startD N.length r).length + 1 = (start N vr).length + 1; rw [ih.len], fun i f hf => ?_⟩
    cases i with
    | zero =>
      have e : d = f := Option.some.inj hf
      subst e
      exact ⟨v, rfl, iv⟩
    | succ i => exact ih.at_ i f hf
/-- THE RULE for a def -/
theorem defD {P : Program} {w : World} {K : PySem.W.Frag} {mg : Str → Option Value} {base : Heap} {x qual : Str} {st : Stmt} {f : Addr} {fd : FuncData} {N ps : List Str} {k : Nat} {sp : SpD} {ws : WS}
    (F : Fun K x qual st f fd) (S : FnScope N ps (defScope st)) (hl : ∀ ds μ Pd R, sp ds μ Pd R → ds.length = ps.length)
    (der : ∀ (cdv : Value) (A : Around) (outer : List Env) (s : Shared) (H : Hp) (E : XK), A.guards = some [] → Room k (A.deeper (envOfC qual (defScope st) s.heap.objs.size f cdv)) →
      QSs (cxOf (L2.CX P w) P w K mg base N qual (defScope st) f cdv A outer s H E) (fun cls d _ H => E cls d H) (defBody st) ws)
    (vc : ∀ ds μ Pd R, sp ds μ Pd R → ws (fun _ C fs μ' => R C fs μ') { nx := fun _ μ' => Pd .non μ', rt := Pd } (startD N.length ds) μ) : FnG P w K mg base (k + 1) f fd ps (spOf K sp) := by
  have hpl : ps.length ≤ N.length := by
    have := congrArg List.length S.pre
    rw [List.length_take] at this
    omega
  refine fnG_of F S (fun vs H Q E h => ?_) (fun cdv A outer s H vs Q E gd hr h => ?_)
  · obtain ⟨ι, μ, ds, Pd, R, r, i, q, _, _⟩ := h
    rw [i.length]
    exact hl _ _ _ _ q
  · obtain ⟨ι, μ, ds, Pd, R, r, i, q, kt, kx⟩ := h
    obtain ⟨t, h1, h2⟩ := der cdv A outer s H E gd hr
    refine ⟨t, h1, ?_⟩
    have env := env_start ds vs N (by rw [hl _ _ _ _ q]; exact hpl) i
    refine h2 (fun _ C fs μ' => R C fs μ') ι μ _ _ H _ _ ⟨r, env, ?_⟩ (vc ds μ Pd R q) ?_
    · exact fun ι' μ' δ' σ' H' C fs d s' r' e' hf z => kx C fs d ι' μ' H' s' r' hf z
    · exact ⟨fun ι' μ' H' δ' σ' s' r' e' z => kt .non .non ι' μ' H' s' r' rfl z, fun v d ι' μ' H' s' r' i' z => kt v d ι' μ' H' s' r' i' z, fun _ _ _ _ _ _ _ _ z => z.elim, fun _ _ _ _ _ _ _ _ z => z.elim⟩

section
variable {X : Cx} {W : WX} {e a : Expr} {we : WE} {pos : Pos}
theorem qv (i : Nat) {x : Str} (hN : X.N[i]? = some x := by rfl) (hv : Vis X.env.scope x := by first | exact Or.inl rfl | exact Or.inr (Or.inl rfl) | exact Or.inr (Or.inr rfl)) (hd : (x == ("__debug__" : Str)) = false := by decide)
    (hcd : (x == ("__classdict__" : Str)) = false := by decide) : QE X W (.Name x pos) (wVar i) := q_var i hN hv hd hcd
/-- a value's truth -/
def wTruth (we : WE) : WT := fun R δ μ P => we R δ μ fun d μ1 => match d with
  | .bl b => P b μ1
  | .non => P false μ1
  | .int i => P (i != 0) μ1
  | .str z => z.length ≤ sizeLine ∧ P ((z.length : Int) != 0) μ1
  | .tup xs => P (!xs.isEmpty) μ1
  | .ref k => match lstAt μ1 k with
    | some xs => P (!xs.isEmpty) μ1
    | none => False
  | _ => False
theorem empty_is {K : PySem.W.Frag} {ι : List Addr} {H : Hp} {ds : List D} {xs : List V} (h : IsAll K ι H ds xs) : xs.isEmpty = ds.isEmpty := by
  cases ds with
  | nil =>
    have e : xs = [] := h
    rw [e]
    rfl
  | cons d r =>
    obtain ⟨v, vr, e, _, _⟩ := h
    rw [e]
    rfl
theorem qt_truth (h : QE X W a we) (he : ∀ whole, isTrue a X.env whole = (do let v ← whole; standAt a.pos; holding [v] (truthy v)) := by intro _; rfl) : QT X W a (wTruth we) := by
  obtain ⟨t, h1, h2⟩ := h
  refine ⟨_, pt_truth h1 he, fun R ι μ δ σ H P Q c hw k => h2 R ι μ δ σ H _ _ c hw fun v d ι1 μ1 H1 s1 r1 i1 q1 => ?_⟩
  cases d with
  | bl b =>
    have ev : v = .bl b := i1
    subst ev
    exact ⟨b, rfl, k b ι1 μ1 H1 s1 r1 q1⟩
  | non =>
    have ev : v = .non := i1
    subst ev
    exact ⟨false, rfl, k false ι1 μ1 H1 s1 r1 q1⟩
  | int i =>
    have ev : v = .int i := i1
    subst ev
    exact ⟨_, rfl, k _ ι1 μ1 H1 s1 r1 q1⟩
  | str z =>
    have ev : v = .str z := i1
    subst ev
    exact ⟨_, ⟨q1.1, rfl⟩, k _ ι1 μ1 H1 s1 r1 q1.2⟩
  | tup ds =>
    obtain ⟨ad, xs, ev, q, t⟩ := i1
    subst ev
    exact ⟨_, .inr (.inl ⟨xs, q, rfl⟩), by rw [empty_is t]; exact k _ ι1 μ1 H1 s1 r1 q1⟩
  | ref kk =>
    have q2 : match lstAt μ1 kk with
      | some xs => P (!xs.isEmpty) μ1
      | none => False := q1
    split at q2
    · rename_i ds el
      obtain ⟨ad, xs, f1, f2, f3⟩ := r1.lst el
      obtain ⟨a', ea, ev⟩ := i1
      rw [f1] at ea
      cases ea
      subst ev
      exact ⟨_, .inl ⟨xs, SqL.of f2, rfl⟩, by rw [empty_is f3]; exact k _ ι1 μ1 H1 s1 r1 q2⟩
    · exact q2.elim
  | _ => exact q1.elim
/-- .bit_length() -/
def wBits (we : WE) : WE := fun R δ μ P => we R δ μ fun d μ1 => match d with
  | .int i => P (.int (Builtin.Int.intBits i : Nat)) μ1
  | _ => False
theorem q_bits {apos : Pos} (h : QE X W a we) (hbase : attributeBase a "bit_length" X.env (eval a X.env) = eval a X.env := by rfl) (hline : (apos.endLine == pos.line) = true := by rfl) : QE X W (.Call (.Attribute a "bit_length" apos) [] [] pos) (wBits we) := by
  obtain ⟨t, h1, h2⟩ := h
  refine ⟨_, pe_bits h1 hbase hline, fun R ι μ δ σ H P Q c hw k => h2 R ι μ δ σ H _ _ c hw fun v d ι1 μ1 H1 s1 r1 i1 q1 => ?_⟩
  cases d with
  | int i => exact ⟨i, i1, (k.stp s1).at r1 (d := .int _) rfl q1⟩
  | _ => exact q1.elim
end
/-! one reading for all contexts -/
def rdE (K : PySem.W.Frag) (W : WX) (we : WE) : TE := fun σ H Q => ∃ R ι μ δ P, Cn K W ι μ H δ σ R ∧ we R δ μ P ∧ Kt K ι H P Q
def rdT (K : PySem.W.Frag) (W : WX) (wt : WT) : TT := fun σ H Q => ∃ R ι μ δ P, Cn K W ι μ H δ σ R ∧ wt R δ μ P ∧ KtB K ι H P Q
theorem re_rd {K : PySem.W.Frag} {W : WX} {we : WE} : RE K W (rdE K W we) we := fun R ι μ δ σ H P Q c h k => ⟨R, ι, μ, δ, P, c, h, k⟩
theorem rt_rd {K : PySem.W.Frag} {W : WX} {wt : WT} : RT K W (rdT K W wt) wt := fun R ι μ δ σ H P Q c h k => ⟨R, ι, μ, δ, P, c, h, k⟩
theorem QE.canon {X : Cx} {W : WX} {e : Expr} {we : WE} (h : QE X W e we) : PE X e (rdE X.K W we) := by
  obtain ⟨t, h1, h2⟩ := h
  refine ⟨fun pins s σ H Q I z => ?_⟩
  obtain ⟨R, ι, μ, δ, P, c, q, k⟩ := z
  exact h1.run pins s σ H Q I (h2 R ι μ δ σ H P Q c q k)
theorem QTs.canon {X : Cx} {W : WX} {es : List Expr} {wt : WT} (h : QTs X W es wt) : PTs X es (rdT X.K W wt) := by
  obtain ⟨t, h1, h2⟩ := h
  refine ⟨fun pins s σ H Q I z => ?_⟩
  obtain ⟨R, ι, μ, δ, P, c, q, k⟩ := z
  exact h1.run pins s σ H Q I (h2 R ι μ δ σ H P Q c q k)
section
variable {X : Cx} {W : WX} {pos p : Pos} {elt iter : Expr} {ifs : List Expr} {scope : Scope} {x : Str} {i : Nat} {wt : WT} {we : WE}
theorem qe_lcR {a : Expr} {pr px : Pos} {wa : WA} (hc : X.calm = true) (hN : X.N.Nodup) (hgl : Gl X "range") (hm : X.mg "range" = none) (ha : QA X W [a] wa) (ok : BlkOk X.N X.env.scope scope [(x, i)])
    (hg : ∀ (s : Shared) (H : Hp) (C : Addr) (cl : List (Str × Addr)) (fp : List Addr), PG (X.blk s H scope (compEnvC scope cl C X.env) fp) (.Name x px) (gName i))
    (ht : ∀ (s : Shared) (H : Hp) (C : Addr) (cl : List (Str × Addr)) (fp : List Addr), QTs (X.blk s H scope (compEnvC scope cl C X.env) fp) W0 ifs wt)
    (he : ∀ (s : Shared) (H : Hp) (C : Addr) (cl : List (Str × Addr)) (fp : List Addr), QE (X.blk s H scope (compEnvC scope cl C X.env) fp) W0 elt we)
    (hst : starEach [a] X.env = [(false, eval a X.env)] := by rfl) (hs : ∀ z, foldedSetIterable (.Call (.Name "range" pr) [a] [] p) X.env z = pure z := by intro _; rfl) :
    QE X W (.ListComp elt [⟨.Name x px, .Call (.Name "range" pr) [a] [] p, ifs, 0⟩] scope pos) (wLcR i wa wt we) :=
  q_lcR hc hN hgl hm ha ok hg ⟨rdT X.K W0 wt, rt_rd, fun s H C cl fp => QTs.canon (ht s H C cl fp)⟩ ⟨rdE X.K W0 we, re_rd, fun s H C cl fp => QE.canon (he s H C cl fp)⟩ hst hs
theorem qe_lcL {px : Pos} {wl : WE} (hc : X.calm = true) (hN : X.N.Nodup) (hi : QE X W iter wl) (ok : BlkOk X.N X.env.scope scope [(x, i)])
    (hg : ∀ (s : Shared) (H : Hp) (C : Addr) (cl : List (Str × Addr)) (fp : List Addr), PG (X.blk s H scope (compEnvC scope cl C X.env) fp) (.Name x px) (gName i))
    (ht : ∀ (s : Shared) (H : Hp) (C : Addr) (cl : List (Str × Addr)) (fp : List Addr), QTs (X.blk s H scope (compEnvC scope cl C X.env) fp) W0 ifs wt)
    (he : ∀ (s : Shared) (H : Hp) (C : Addr) (cl : List (Str × Addr)) (fp : List Addr), QE (X.blk s H scope (compEnvC scope cl C X.env) fp) W0 elt we)
    (hs : ∀ z, foldedSetIterable iter X.env z = pure z := by intro _; rfl) :
    QE X W (.ListComp elt [⟨.Name x px, iter, ifs, 0⟩] scope pos) (wLcL i wl wt we) :=
  q_lcL hc hN hi ok hg ⟨rdT X.K W0 wt, rt_rd, fun s H C cl fp => QTs.canon (ht s H C cl fp)⟩ ⟨rdE X.K W0 we, re_rd, fun s H C cl fp => QE.canon (he s H C cl fp)⟩ hs
end
/-- a def of the top, as the head leaves it -/
structure FnT (K : PySem.W.Frag) (mg : Str → Option Value) (x : Str) (st : Stmt) (ps : List Str) where
  a : Addr
  fd : FuncData
  fn : Fun K x x st a fd
  gl : mg x = some (.ref a)
  bd : Binds K fd ps []
theorem kbd_of {K : PySem.W.Frag} {x qual : Str} {st : Stmt} {f : Addr} {fd : FuncData} {ps ks : List Str} {n : Nat} {g : {α : Type} → List α → List α → List α} (F : Fun K x qual st f fd)
    (h : ∀ (kV doc pm : Value) (an : Option Addr) (cdv ct : Value) (us ws : List Value), us.length = n → ws.length = ks.length →
      bindArgs (PySem.W.fnOf x qual (defArgs st) (defBody st) (defScope st) .none kV doc pm an cdv ct) ⟨us, ks.zip ws⟩ = pure (ps.zip (g us ws)))
    (hr : ∀ {vs : List V} {us : List Value} {zs : List V} {ws : List Value}, vs.length = n → zs.length = ks.length → Vals vs us → Vals zs ws → Vals (g vs zs) (g us ws)) : KBd K fd ps ks n g := by
  obtain ⟨oc, od, kV, doc, pm, an, cdv, ct, osl, rfl, lk, hcd⟩ := F.ex
  exact ⟨fun s us ws l1 l2 => .of_eq (h kV doc pm an cdv ct us ws l1 l2), hr⟩
end HD
namespace HD
open PySem PySem.Spec PyProof.Rows L2
section
variable {X : Cx} {W : WX} {e : Expr} {we : WE} {pos : Pos}
theorem qset (i : Nat) {x : Str} {pos' : Pos} (he : QE X W e we) (hN : X.N.Nodup) (hi : X.N[i]? = some x := by rfl) (hx : Loc X.env.scope x := by first | exact Or.inl rfl | exact Or.inr rfl) (hs : swapsWith e (some (.Name x pos')) pos.line X.env = pure false := by rfl)
    (hf : X.fn x = true ∨ X.env.scope.names.lookup x = some .local := by first | exact .inl rfl | exact .inr rfl) : QS X W (.Assign [.Name x pos'] e pos) (wAsg we (wgName i)) := qs_set hN hi hx he hs hf
theorem qgn (i : Nat) {x : Str} (hN : X.N.Nodup) (hi : X.N[i]? = some x := by rfl) (hx : Loc X.env.scope x := by first | exact Or.inl rfl | exact Or.inr rfl) (hf : X.fn x = true ∨ X.env.scope.names.lookup x = some .local := by first | exact .inl rfl | exact .inr rfl) : QG X W (.Name x pos) (wgName i) := qg_name hN hi hx hf
end
end HD
namespace HD
open PySem PySem.Spec PyProof.Rows L2
end HD
/-! HD7: own error classes of one field (over ValueError, LookupError, ArithmeticError): made, raised, caught, read. -/
namespace HD
open PySem PySem.Spec PyProof.Rows L2

/-! ### what stands behind the own classes in an error's order of bases -/
def dropRefs : List Value → List Value
  | .ref _ :: r => dropRefs r
  | l => l
theorem dropRefs_pass (self : Value) : ∀ l : List Value, refuseLoop self "__setattr__" l = refuseLoop self "__setattr__" (dropRefs l)
  | [] => rfl
  | .ref c :: r => by
    rw [refuseLoop_ref]
    exact dropRefs_pass self r
  | .none :: _ => rfl
  | .ellipsis :: _ => rfl
  | .notImplemented :: _ => rfl
  | .bool _ :: _ => rfl
  | .int _ _ :: _ => rfl
  | .float _ _ :: _ => rfl
  | .str _ _ :: _ => rfl
  | .bytes _ _ :: _ => rfl
  | .type _ :: _ => rfl
  | .builtin _ :: _ => rfl
theorem dropRefs_has (T : String) : ∀ l : List Value, l.contains (.type T) = (dropRefs l).contains (.type T)
  | [] => rfl
  | .ref c :: r => by
    rw [List.contains_cons, dropRefs_has T r]
    rfl
  | .none :: _ => rfl
  | .ellipsis :: _ => rfl
  | .notImplemented :: _ => rfl
  | .bool _ :: _ => rfl
  | .int _ _ :: _ => rfl
  | .float _ _ :: _ => rfl
  | .str _ _ :: _ => rfl
  | .bytes _ _ :: _ => rfl
  | .type _ :: _ => rfl
  | .builtin _ :: _ => rfl
/-- what is wanted of the tail bm of an own error class that is made by newId -/
structure Under (newId : String) (bm : List Value) : Prop where
  facts : ∃ (B initId : String) (bmB : List Value), ExcBaseFacts B newId initId bmB ∧ ∀ X : String, bm.contains (.type X) = bmB.contains (.type X)
  pass : ∀ self, refuseLoop self "__setattr__" bm = pure ()
  obj : bm.contains (.type "object") = true
def veTail : List Value := [.type "ValueError", .type "Exception", .type "BaseException", .type "object"]
theorem passVE (self : Value) : refuseLoop self "__setattr__" veTail = pure () := by kernel_rfl
theorem under_ve {bm : List Value} (h : dropRefs bm = veTail) : Under "ValueError.__new__" bm :=
  ⟨⟨_, _, _, F.excBase_ValueError, fun X => by rw [dropRefs_has, h] <;> rfl⟩, fun self => by rw [dropRefs_pass, h]; exact passVE self, by rw [dropRefs_has, h]; decide +kernel⟩
/-! ### self.f = v in the __init__ of such an error, nothing stored as yet -/
section
variable {prog : Program} {w : World} {A : Around} {R : Result → Shared → Prop} {hp : Heap} {g : Array GenState} {dr : Drawn} {t : Nat} {os : OsState}
open PySem.HandSPX PySem.Builtin PySem.Builtin.ObjectAttr in
theorem first_field {K : PySem.W.Frag} {f : Str} {tk : Tok} {v : Value} {x C : Addr} {fv : Array Value} {nm q : Str} {bs bm : List Value} {N : Addr} {sn : List Str} {sb : List Value} {ab : Bool} {col : Option Bool} {del : Bool} {newId : String} (X : K.In hp)
    (hx : hp.get? x = some { cls := .ref C, data := .fields fv }) (hcd : PySem.W.clsIn K C = some { name := nm, bases := bs, mro := .ref C :: bm, ns := N, qualname := q, hasDict := true, slotNames := sn, subclasses := sb, abstract := ab, collection := col, hasDel := del })
    (U : Under newId bm) (ha : PySem.W.findIn K (.ref C) f = some none)
    (hq : ∀ h' tk' dx, (∀ b o, b ≠ x → hp.get? b = some o → h'.get? b = some o) → hp.objs.size ≤ dx → dx ≠ x → h'.get? x = some { cls := .ref C, dict := some dx, data := .fields fv } → h'.Ns1 dx (fun y => if y = f then some v else none) → R (.ok (.ret .none)) ⟨h', g, dr, tk', os⟩) :
    codeAny (model prog w) A (.call (.builtin "object.__setattr__") ⟨[.ref x, .str f tk, v], []⟩) R ⟨hp, g, dr, t, os⟩ := by
  have inst : PySem.W.InstAt hp x { cls := .ref C, data := .fields fv } C none := ⟨hx, rfl, rfl, trivial⟩
  have neNew : x ≠ hp.objs.size := Nat.ne_of_lt (Heap.lt_size hx)
  have ofC : PySem.W.Looks (model prog w) hp (classData C) _ := PySem.W.looks_clsIn X hcd
  have order : PySem.W.Looks (model prog w) hp (mroOf (.ref C)) (.ref C :: bm) := (PySem.W.looks_clsIn X hcd).andThen .now
  have inObj : PySem.W.Looks (model prog w) hp (isInstance (.ref x) (.type "object")) true := by
    refine inst.type.andThen (PySem.W.looks_mroIn X ?_)
    unfold PySem.W.mroIn
    rw [hcd, Option.bind_some]
    have hc : (Value.ref C :: bm).contains (.type "object") = true := by rw [List.contains_cons, U.obj, Bool.or_true]
    show (if (Value.ref C :: bm).isEmpty = true then _ else _) = _
    rw [if_neg (by show ¬ (false = true); decide), hc]
  have noTaker : PySem.W.Looks (model prog w) hp (storeTaker? none) none := .now
  refine codeAny_call_builtin F.store_object.slot.plain F.store_object.entry (@PySem.W.check_slot (model prog w) _ _ ⟨hp, g, dr, t, os⟩ "object.__setattr__" "object" "__setattr__" (.ref x) [.str f tk, v] [] _
    F.store_object.kind F.store_object.split inObj (F.store_object.args (.ref x) (.str f tk) v) ?_)
  rw [PySem.W.osa_eq, refuse_eq]
  refine wpAny_bind (wpAny_bind (inst.type.at (wpAny_bind (order.at ?_))))
  rw [refuseLoop_ref, U.pass]
  refine wpAny_pure (wpAny_bind (inst.type.at (wpAny_bind ((PySem.W.looks_findIn X ha).at (wpAny_bind (noTaker.at ?_))))))
  show wpAny _ _ (storeInOwnDict (.ref x) (.ref C) (.str f tk) f v false) _ _ _
  unfold storeInOwnDict ownDictForStores
  repeat (first | with_reducible refine store_in_new ?_ ?_ | with_reducible refine wpAny_loadPart_at hx ?_ | with_reducible refine ofC.at ?_ | wp_step)
  · exact ⟨_, #[], _, (Heap.get?_update_ne _ _ _ _ neNew.symm).trans (Heap.get?_push_at rfl rfl), rfl, fun e he => absurd he (by simp), fun _ => rfl⟩
  · intro h' tk' hn' same
    have hx' : (hp.push { cls := .type "dict", data := .dict #[] }).get? x = some { cls := .ref C, data := .fields fv } := Heap.get?_push_of_some _ hx
    refine hq h' tk' hp.objs.size (fun b o hb ho => ?_) (Nat.le_refl _) neNew.symm ?_ hn'
    · exact (same.2 b (Nat.ne_of_lt (Heap.lt_size ho))).trans ((Heap.get?_update_ne _ _ _ _ hb).trans (Heap.get?_push_of_some _ ho))
    · exact (same.2 x neNew).trans (Heap.get?_update_self _ hx' rfl)
end

/-! ### the class's text -/
def errArgs (f : Str) (p1 p2 : Pos) : Arguments := { posonlyargs := [], args := [{ arg := "self", annotation := none, pos := p1 }, { arg := f, annotation := none, pos := p2 }], vararg := none, kwonlyargs := [], kw_defaults := [], kwarg := none, defaults := [] }
def errBody (f : Str) (q1 q2 q3 q4 : Pos) : List Stmt := [.Assign [.Attribute (.Name "self" q1) f q2] (.Name f q3) q4]
def errScope (f : Str) : Scope := { kind := .function, names := [(PySem.Str.ofString "self", .local), (f, .local)], isGenerator := false, isCoroutine := false, more := [] }
/-- what the written part says of the class x, at C, whose __init__, at fI, stores its one argument as f -/
structure ErrTxt (K : PySem.W.Frag) (mg : Str → Option Value) (x f : Str) (newId : String) (C fI : Addr) : Prop where
  gC : mg x = some (.ref C)
  cls : ∃ nm q N bs bm sn sub ab col dd k0 k1 k2 k3 k5, K.lookup C = some (PySem.excClassObj nm q C N bs bm true sn sub ab col dd k0 k1 k2 k3 k5 newId) ∧ Under newId bm
  sa : PySem.W.findIn K (.ref C) "__setattr__" = some (some (.builtin "object.__setattr__"))
  ga : PySem.W.findIn K (.ref C) "__getattribute__" = some (some (.builtin "BaseException.__getattribute__"))
  gg : PySem.W.findIn K (.ref C) "__getattr__" = some none
  noF : PySem.W.findIn K (.ref C) f = some none
  iC : PySem.W.findIn K (.ref C) "__init__" = some (some (.ref fI))
  tC : PySem.W.typeIn K (.ref fI) = some (.type "function")
  kC : PySem.W.keepIn K (.ref C) = true
  exC : PySem.W.subIn K (.ref C) (.type "BaseException") = some true
  tyC : PySem.W.typeIn K (.ref C) = some (.type "type")
  hdC : PySem.W.hasDictIn K C = true
  is : f = "given" ∨ f = "index"
  fn : ∃ (oc : Value) (od : Option Addr) (q : Str) (doc pm : Value) (an : Option Addr) (cdv ct : Value) (osl : Array (Option Value)) (p1 p2 q1 q2 q3 q4 : Pos),
    K.lookup fI = some ⟨oc, od, .func (PySem.W.fnOf "__init__" q (errArgs f p1 p2) (errBody f q1 q2 q3 q4) (errScope f) .none .none doc pm an cdv ct), osl⟩ ∧ PySem.W.codeIn K cdv q = true
/-- what __init__ leaves of a fresh error at x -/
structure Inited (f : Str) (h h' : Heap) (x C dx t1 : Addr) (v : Value) : Prop where
  keep : ∀ b o, b ≠ x → h.get? b = some o → h'.get? b = some o
  obj : h'.get? x = some { cls := .ref C, dict := some dx, data := .fields #[.ref t1, .none, .none, .none, .bool false, .none] }
  dbig : h.objs.size ≤ dx
  dne : dx ≠ x
  ns : h'.Ns1 dx (fun y => if y = f then some v else none)
/-- a made error -/
structure ErrMade (f : Str) (h h' : Heap) (e C d : Addr) (v : Value) : Prop where
  keep : ∀ b o, h.get? b = some o → h'.get? b = some o
  new : h.objs.size ≤ e
  obj : ∃ oe vs, h'.get? e = some oe ∧ oe.cls = .ref C ∧ oe.dict = some d ∧ oe.data = .fields vs ∧ vs[1]? = some .none
  dbig : h.objs.size ≤ d
  dne : d ≠ e
  ns : h'.Ns1 d (fun y => if y = f then some v else none)
theorem one_fits (v : Value) : [v].length ≤ sizeLine := by
  rw [sizeLine_eq]
  exact (by decide : 1 ≤ 16777216)
theorem ldLocal {M : Model} {s : Shared} {name : Str} {scope : Scope} {L a : Addr} {cd : Value} {m : Str → Option Value} {x : Str} {pos : Pos} {v : Value} {Q : Value → Shared → Prop} {A : Around} {E : Value → Shared → Prop} (hn : s.heap.Ns L m) (hv : m x = some v) (h : Q v s)
    (hk : scope.kind = .function) (hl : (envOfC name scope L a cd).kindOf x = some .local) (hd : (x == ("__debug__" : Str)) = false) :
    wpAny M A (eval (.Name x pos) (envOfC name scope L a cd)) Q E s := wpAny_Name (wpAny_loadName_local hk hl hn hv h) hd
section
variable {prog : Program} {w : World} {A : Around} {R : Result → Shared → Prop} {s : Shared} {K : PySem.W.Frag} {mg : Str → Option Value} {xn f : Str} {newId : String} {C fI : Addr}
open PySem.HandSPX in
theorem err_init (T : ErrTxt K mg xn f newId C fI) {x t0 : Addr} {v : Value} (X : K.In s.heap) (hlim : s.heap.NoLimit) (hx : s.heap.get? x = some (excO C t0)) (hroom : A.depth < recursionLimit)
    (hq : ∀ h' tk dx, Inited f s.heap h' x C dx t0 v → R (.ok (.ret .none)) { s with heap := h', toks := tk }) :
    codeAny (model prog w) A (.call (.ref fI) ⟨[.ref x, v], []⟩) R s := by
  obtain ⟨oc, od, qn, doc, pm, an, cdv, ct, osl, p1, p2, q1, q2, q3, q4, ho, hcd⟩ := T.fn
  obtain ⟨nm, q, N, bs, bm, sn, sub, ab, col, dd, k0, k1, k2, k3, k5, hC, hbm⟩ := T.cls
  have hcl : PySem.W.clsIn K C = some { name := nm, bases := bs, mro := .ref C :: bm, ns := N, qualname := q, hasDict := true, slotNames := sn, subclasses := sub, abstract := ab, collection := col, hasDel := false } := by unfold PySem.W.clsIn; rw [hC] <;> rfl
  have hsf : (("self" : Str) == f) = false := by rcases T.is with e | e <;> rw [e] <;> decide
  have hfs : (f == ("self" : Str)) = false := by rcases T.is with e | e <;> rw [e] <;> decide
  have hfd : (f == ("__debug__" : Str)) = false := by rcases T.is with e | e <;> rw [e] <;> decide
  have hbind : bindArgs (PySem.W.fnOf "__init__" qn (errArgs f p1 p2) (errBody f q1 q2 q3 q4) (errScope f) .none .none doc pm an cdv ct) ⟨[.ref x, v], []⟩ = pure [(("self" : Str), Value.ref x), (f, v)] := by
    rcases T.is with e | e <;> subst e <;> first | rfl | with_unfolding_all rfl
  have lf : bindL (envOfC qn (errScope f) s.heap.objs.size fI cdv).kindOf [(("self" : Str), Value.ref x), (f, v)] (fun _ => none) f = some v := by
    rcases T.is with e | e <;> subst e <;> first | rfl | with_unfolding_all rfl | kernel_rfl
  have ls : bindL (envOfC qn (errScope f) s.heap.objs.size fI cdv).kindOf [(("self" : Str), Value.ref x), (f, v)] (fun _ => none) ("self" : Str) = some (.ref x) := by
    rcases T.is with e | e <;> subst e <;> first | rfl | with_unfolding_all rfl | kernel_rfl
  have kf : ([(PySem.Str.ofString "self", NameKind.local), (f, NameKind.local)] : List (Str × NameKind)).lookup f = some .local := by
    have z : (f == PySem.Str.ofString "self") = false := hfs
    simp [List.lookup, z]
  refine Att.call_fn (binds := [(("self" : Str), Value.ref x), (f, v)]) X hlim ho hcd hroom (BindsTo.of_eq hbind) ?_ (fun s₁ IC => ?_) rfl rfl rfl
  · rcases T.is with e | e <;> subst e <;> first | rfl | decide | with_unfolding_all rfl
  obtain ⟨h₁, tk₁, rfl⟩ := IC.toInCall.same
  have k : ∀ b o, s.heap.get? b = some o → h₁.get? b = some o := IC.toInCall.keep
  have hn := IC.toInCall.ns
  have X₁ : K.In h₁ := X.keeps k
  have hx₁ := k _ _ hx
  show wpAny _ _ (execs _ _) _ _ _
  refine wpAny_execs_cons (plainObj_wpAny_Assign_Attribute ?_)
  refine ldLocal (v := v) hn lf (ldLocal (v := .ref x) hn ls ?_ rfl rfl (by decide)) rfl kf hfd
  refine PySem.W.set_plain X₁ (ox := excO C t0) (od := none) ⟨hx₁, rfl, rfl, trivial⟩ T.sa ?_
  refine first_field X₁ hx₁ hcl hbm T.noF (fun h₃ tk₃ dx k₃ dn dne hx₃ hn₃ => ?_)
  show wpAny _ _ (execs _ _) _ _ _
  have z : s.heap.objs.size < h₁.objs.size := hn.lt
  exact wpAny_execs_nil (hq h₃ tk₃ dx ⟨fun b o hb e => k₃ b o hb (k b o e), hx₃, Nat.le_of_lt (Nat.lt_of_lt_of_le z dn), dne, hn₃⟩)
open PySem.HandSPX in
theorem err_made (T : ErrTxt K mg xn f newId C fI) {v : Value} (X : K.In s.heap) (hlim : s.heap.NoLimit) (hroom : A.depth + 1 < recursionLimit)
    (hq : ∀ h' tk e d, ErrMade f s.heap h' e C d v → R (.ok (.ret (.ref e))) { s with heap := h', toks := tk }) :
    codeAny (model prog w) A (.call (.ref C) ⟨[v], []⟩) R s := by
  obtain ⟨nm, q, N, bs, bm, sn, sub, ab, col, dd, k0, k1, k2, k3, k5, hC, U⟩ := T.cls
  obtain ⟨B, initId, bmB, FB, hT⟩ := U.facts
  obtain ⟨hp, g, dr, tk, os⟩ := s
  have grow : ∀ b o, hp.get? b = some o → ((hp.push (PySem.W.kdv_tup [v])).push (excO C hp.objs.size)).get? b = some o := fun b o e => Heap.get?_push_of_some _ (Heap.get?_push_of_some _ e)
  have made : ((hp.push (PySem.W.kdv_tup [v])).push (excO C hp.objs.size)).get? (hp.objs.size + 1) = some (excO C hp.objs.size) := by heap_get
  refine call_own FB hT (X _ _ hC) (PySem.W.looks_findIn X T.iC) (fun self => PySem.W.bind_fn X self T.tC) (one_fits v) ?_
  refine err_init (s := ⟨(hp.push (PySem.W.kdv_tup [v])).push (excO C hp.objs.size), g, dr, tk, os⟩) T (X.keeps grow) (hlim.keeps grow) made ?_ fun h' tk' dx I => ?_
  · show A.depth + 1 < recursionLimit
    exact hroom
  · have old : ∀ b o, hp.get? b = some o → h'.get? b = some o := fun b o e => I.keep b o (Nat.ne_of_lt (Nat.lt_succ_of_lt (Heap.lt_size e))) (grow b o e)
    have big : hp.objs.size + 1 + 1 ≤ dx := by
      first
        | exact I.dbig
        | (have q := I.dbig; rw [Heap.size_push, Heap.size_push] at q; exact q)
    exact ⟨rfl, hq h' tk' (hp.objs.size + 1) dx ⟨old, Nat.le_succ _, ⟨_, _, I.obj, rfl, rfl, rfl, rfl⟩, Nat.le_trans (Nat.le_trans (Nat.le_succ _) (Nat.le_succ _)) big, I.dne, I.ns⟩⟩
end
theorem relO_one {v : V} {v' : Value} (r : RelV v v') (f g : Str) : RelO (List.lookup g [(f, v)]) (if g = f then some v' else none) := by
  by_cases h : g = f
  · subst h
    have q : List.lookup g [(g, v)] = some v := by simp [List.lookup]
    rw [if_pos rfl, q]
    exact r
  · have h' : (g == f) = false := by simpa using h
    have q : List.lookup g [(f, v)] = none := by simp [List.lookup, h']
    rw [if_neg h, q]
    trivial
section
variable {X : Cx} {W : WX} {x f : Str} {newId : String} {C fI : Addr} {a : Expr} {wa : WA} {p pos pos2 : Pos} {k : Nat}
/-- x(a), made -/
def tMkErr (f : Str) (C : Addr) (ta : TA) : L2.St → Hp → XK → Prop := fun σ H Q => ta σ H fun vs H1 => ∃ v, vs = [v] ∧ ∀ d, H1 d = none → Q (.ref C) (some d) (upd H1 d (.xd [(f, v)]))
theorem pmk_err {ta : TA} (T : ErrTxt X.K X.mg x f newId C fI) (hr : Room k X.A) (ha : PA X [a] ta) (hg : Gl X x) (hdb : (x == ("__debug__" : Str)) = false := by decide)
    (he : starEach (a :: []) X.env = (false, eval a X.env) :: starEach [] X.env := by rfl) (hpl : (backTo pos (starEach [] X.env)).any (·.1) = false := by rfl) :
    PMk X (.Call (.Name x p) [a] [] pos) (tMkErr f C ta) := by
  intro pins s σ H Q I h
  refine wpAny_Call_Name_kw (ld_glob I hg T.gC ?_ hdb)
  refine PySem.W.callWith_K (h₀ := X.base) I.ok.mod.kin T.kC (thn (ha.run pos pins s σ H _ I h) fun us s1 hh => ?_) he hpl
  obtain ⟨vs, H1, I1, r1, v, ev, q1⟩ := hh
  subst ev
  refine ⟨I1.kIn, ?_⟩
  cases r1 with
  | cons rv rn =>
    rename_i v' us'
    cases rn
    show wpAny _ _ (call (.ref C) [v']) _ _ _
    have lim := I1.nolimit
    have dp := hr.dp
    obtain ⟨hp, g, dr, tk, os⟩ := s1
    refine wpAny_call (err_made T I1.kIn lim (by omega) fun h' tk' e d M => ?_)
    show MkP X pins σ Q (.ref e) ⟨h', g, dr, tk', os⟩
    obtain ⟨oe, fv, hoe, hc, hd, hdat, h1⟩ := M.obj
    have fieldsAt := M.ns
    obtain ⟨G, g1, g2⟩ := restrict h' fun b => decide (b ≠ e)
    have same : ∀ b, b ≠ e → G.get? b = h'.get? b := fun b hb => g1 b (decide_eq_true hb)
    have gone : G.get? e = none := g2 e (by simp)
    have old : ∀ b o, hp.get? b = some o → G.get? b = some o := fun b o q => (same b (Nat.ne_of_lt (Nat.lt_of_lt_of_le (Heap.lt_size q) M.new))).trans (M.keep b o q)
    have dictOk : ObjOk X.prog X.w (upd H1 d (.xd [(f, v)])) G d (.xd [(f, v)]) := ⟨_, fieldsAt.at (fun o q => (same d M.dne).trans q), fun y => relO_one rv f y⟩
    have J : Inv X pins σ (upd H1 d (.xd [(f, v)])) ⟨G, g, dr, tk', os⟩ := I1.laid (t' := tk') old M.dbig dictOk
    refine ⟨e, oe, fv, ⟨G, g, dr, tk', os⟩, _, .ref C, some d, rfl, J, fun b o q => ?_, gone, hoe, ⟨hc, hd⟩, hdat, h1, ?_, rfl, I1.bare, raises_own T.exC T.tyC, q1 d (I1.hok.fresh M.dbig)⟩
    · have ne : b ≠ e := fun z => by
        rw [z] at q
        have q' : G.get? e = some o := q
        rw [gone] at q'
        cases q'
      exact (same b ne).symm.trans q
    · rw [upd_ne (Ne.symm M.dne)]
      exact I1.hok.fresh M.new
/-- raise x(a) -/
def wRaise (C : Addr) (f : Str) (wa : WA) : WS := fun R _ δ μ => wa R δ μ fun ds μ1 => match ds with
  | [d] => R δ C [(f, d)] μ1
  | _ => False
theorem qs_raise (hc : X.calm = true) (T : ErrTxt X.K X.mg x f newId C fI) (hr : Room k X.A) (tk : Takes X W) (ha : QA X W [a] wa) (hg : Gl X x) (hdb : (x == ("__debug__" : Str)) = false := by decide)
    (he : starEach (a :: []) X.env = (false, eval a X.env) :: starEach [] X.env := by rfl) (hpl : (backTo pos (starEach [] X.env)).any (·.1) = false := by rfl) :
    QS X W (.Raise (some (.Call (.Name x p) [a] [] pos)) none pos2) (wRaise C f wa) := by
  obtain ⟨t, h1, h2⟩ := ha
  refine ⟨_, ps_raise hc tk (pmk_err T hr h1 hg hdb he hpl), fun R ι μ δ σ H E D c h l => h2 R ι μ δ σ H _ _ c h fun vs ds ι1 μ1 H1 s1 r1 i1 q1 => ?_⟩
  match ds, i1, q1 with
  | [d], i1, q1 =>
    obtain ⟨v, r, ev, iv, er⟩ := i1
    have er' : r = [] := er
    subst er'
    refine ⟨v, ev, fun dx hdx => ?_⟩
    have sn : Stp ι1 H1 ι1 (upd H1 dx (.xd [(f, v)])) := Stp.new hdx
    exact c.xl ι1 μ1 δ σ _ C [(f, d)] (some dx) (s1.trans sn) (r1.new hdx) (c.env.stp (s1.trans sn)) ⟨[(f, v)], upd_same, rfl, ⟨v, [], rfl, Is.stp sn _ _ iv, rfl⟩⟩ q1
  | [], _, q1 => exact q1.elim
  | _ :: _ :: _, _, q1 => exact q1.elim
end

/-! ### try: body, except x as n: suite; except x: suite -/
/-- a caught error as a datum: at a, of the class at C, its dict d -/
def excD (a C : Addr) (d : Option Addr) (fs : List (Str × D)) : D := match d with
  | some dx => .exc a C dx (fs.map (·.1)) (fs.map (·.2))
  | none => .adr a
theorem zip_fst_snd {α β : Type} : ∀ l : List (α × β), (l.map (·.1)).zip (l.map (·.2)) = l
  | [] => rfl
  | (a, b) :: r => by
    show (a, b) :: (r.map (·.1)).zip (r.map (·.2)) = _
    rw [zip_fst_snd r]
theorem is_excD {K : PySem.W.Frag} {ι : List Addr} {H : Hp} {fs : List (Str × D)} {d : Option Addr} (a C : Addr) (h : DxIs K ι H fs d) : Is K ι H (excD a C d fs) (.ref a) := by
  cases d with
  | none => exact (rfl : V.ref a = V.ref a)
  | some dx =>
    obtain ⟨gs, e, q, r⟩ := h
    refine ⟨rfl, gs.map (·.2), ?_, ?_, r⟩
    · show H dx = some (.xd ((fs.map (·.1)).zip (gs.map (·.2))))
      rw [← q, zip_fst_snd]
      exact e
    · show (gs.map (·.2)).length = (fs.map (·.1)).length
      rw [← q, List.length_map, List.length_map]
def WN : WX := fun _ _ _ _ => False
def RN : XD := fun _ _ _ _ => False
theorem xlN {K : PySem.W.Frag} {ι : List Addr} {H : Hp} : XL K WN ι H RN := fun _ _ _ _ _ _ _ _ _ _ _ _ h => h
section
variable {X : Cx} {W : WX} {x n : Str} {c : Value} {i : Nat} {body suite : List Stmt} {b₀ : Stmt} {np pos pos' : Pos} {wb : WS} {wsu : Addr → Value → Option Addr → WS}
theorem dxNone {K : PySem.W.Frag} {ι : List Addr} {H : Hp} {fs : List (Str × D)} {d : Option Addr} (h : DxIs K ι H fs d) : d = none → fs = [] := fun e => by
  subst e
  exact h
end
end HD
/-! HD8: a lambda handed to a def that calls it. -/
namespace HD
open PySem PySem.Spec PyProof.Rows L2

/-! ### the maker's slots, kept in the datum -/
def ksOf (δ : En) : List Bool := δ.map Option.isSome
def dsOf (δ : En) : List D := δ.map fun o => o.getD .non
def slotsOf : List Bool → List D → En
  | true :: ks, d :: ds => some d :: slotsOf ks ds
  | false :: ks, _ :: ds => none :: slotsOf ks ds
  | _, _ => []
theorem slotsOf_of : ∀ δ : En, slotsOf (ksOf δ) (dsOf δ) = δ
  | [] => rfl
  | some d :: r => by
    show some d :: slotsOf (ksOf r) (dsOf r) = _
    rw [slotsOf_of r]
  | none :: r => by
    show none :: slotsOf (ksOf r) (dsOf r) = _
    rw [slotsOf_of r]
section
variable {K : PySem.W.Frag} {ι : List Addr} {H : Hp}
theorem kept_slots : ∀ (δ : En) (σ : L2.St), δ.length = σ.length → (∀ (i : Nat) (d : D), slot δ i = some d → ∃ v, σ[i]? = some (some v) ∧ Is K ι H d v) → ∃ vs, IsAll K ι H (dsOf δ) vs ∧ ∀ (i : Nat) (u : V), (ksOf δ)[i]? = some true → vs[i]? = some u → σ[i]? = some (some u)
  | [], _, _, _ => ⟨[], rfl, fun i u h _ => by simp [ksOf] at h⟩
  | o :: r, [], l, _ => by simp at l
  | o :: r, w :: σ, l, h => by
    obtain ⟨vs, a, b⟩ := kept_slots r σ (by simpa using l) (fun i d e => by simpa using h (i + 1) d e)
    cases o with
    | none =>
      refine ⟨.non :: vs, ⟨.non, vs, rfl, rfl, a⟩, fun i u hk hv => ?_⟩
      cases i with
      | zero => simp [ksOf] at hk
      | succ i => simpa using b i u (by simpa [ksOf] using hk) (by simpa using hv)
    | some d =>
      obtain ⟨v, e, q⟩ := h 0 d rfl
      refine ⟨v :: vs, ⟨v, vs, rfl, q, a⟩, fun i u hk hv => ?_⟩
      cases i with
      | zero =>
        have e2 : v = u := by simpa using hv
        rw [← e2]
        exact e
      | succ i => simpa using b i u (by simpa [ksOf] using hk) (by simpa using hv)
theorem is_lam {f c : Addr} {q : Str} {δ : En} {σ : L2.St} (e : EnvIs K ι H δ σ) (hc : H c = some (LamX.CodeO c q)) : Is K ι H (.lam f c q σ (ksOf δ) (dsOf δ)) (.ref f) := by
  obtain ⟨vs, a, b⟩ := kept_slots δ σ e.len e.at_
  exact ⟨rfl, hc, by rw [ksOf, List.length_map]; exact e.len, by rw [dsOf, List.length_map]; exact e.len, vs, a, b⟩
theorem slots_back : ∀ (ks : List Bool) (ds : List D) (vs : List V) (σ : L2.St), ks.length = σ.length → ds.length = σ.length → IsAll K ι H ds vs → (∀ (i : Nat) (u : V), ks[i]? = some true → vs[i]? = some u → σ[i]? = some (some u)) →
    (slotsOf ks ds).length = σ.length ∧ ∀ (i : Nat) (d : D), slot (slotsOf ks ds) i = some d → ∃ v, σ[i]? = some (some v) ∧ Is K ι H d v
  | [], [], _, [], _, _, _, _ => ⟨rfl, fun i d h => by cases h⟩
  | [], _ :: _, _, [], _, l, _, _ => by simp at l
  | [], _, _, _ :: _, l, _, _, _ => by simp at l
  | _ :: _, _, _, [], l, _, _, _ => by simp at l
  | _ :: _, [], _, _ :: _, _, l, _, _ => by simp at l
  | k :: ks, d :: ds, vs, w :: σ, l1, l2, h, g => by
    obtain ⟨v, r, e, iv, ir⟩ := h
    subst e
    obtain ⟨a, b⟩ := slots_back ks ds r σ (by simpa using l1) (by simpa using l2) ir (fun i u hk hv => by simpa using g (i + 1) u (by simpa using hk) (by simpa using hv))
    cases k with
    | true =>
      refine ⟨by show (slotsOf ks ds).length + 1 = σ.length + 1; rw [a], fun i z hz => ?_⟩
      cases i with
      | zero =>
        have e : d = z := Option.some.inj hz
        subst e
        exact ⟨v, by simpa using g 0 v rfl rfl, iv⟩
      | succ i => simpa using b i z hz
    | false =>
      refine ⟨by show (slotsOf ks ds).length + 1 = σ.length + 1; rw [a], fun i z hz => ?_⟩
      cases i with
      | zero => cases hz
      | succ i => simpa using b i z hz
theorem env_back {f c : Addr} {q : Str} {σ : L2.St} {ks : List Bool} {ds : List D} {v : V} (h : Is K ι H (.lam f c q σ ks ds) v) : EnvIs K ι H (slotsOf ks ds) σ := by
  obtain ⟨_, _, l1, l2, vs, a, b⟩ := h
  obtain ⟨x, y⟩ := slots_back ks ds vs σ l1 l2 a b
  exact ⟨x, y⟩
/-! ### the step that makes a lambda -/
def tabsOf (μ : Sto) : List (Addr × Str) := μ.filterMap fun o => match o with
  | .tab p q => some (p, q)
  | _ => none
theorem cell_mem : ∀ {μ : Sto} {k : Nat} {o : O}, cell μ k = some o → o ∈ μ
  | [], _, _, h => by cases h
  | _ :: _, 0, _, h => by
    rw [Option.some.inj h]
    exact List.mem_cons_self
  | _ :: r, k + 1, _, h => List.mem_cons_of_mem _ (cell_mem (μ := r) h)
theorem mem_cell : ∀ {μ : Sto} {o : O}, o ∈ μ → ∃ k, cell μ k = some o
  | [], _, h => by cases h
  | a :: r, o, h => by
    rcases List.mem_cons.mp h with e | e
    · exact ⟨0, by rw [e] <;> rfl⟩
    · obtain ⟨k, q⟩ := mem_cell e
      exact ⟨k + 1, q⟩
theorem mem_tabs {μ : Sto} {p : Addr × Str} : p ∈ tabsOf μ ↔ ∃ k, cell μ k = some (.tab p.1 p.2) := by
  unfold tabsOf
  rw [List.mem_filterMap]
  constructor
  · rintro ⟨o, hm, he⟩
    cases o with
    | lst xs => cases he
    | ins C fs => cases he
    | dct kvs => cases he
    | tab a q =>
      have e : (a, q) = p := Option.some.inj he
      subst e
      exact mem_cell hm
  · rintro ⟨k, hk⟩
    exact ⟨_, cell_mem hk, rfl⟩
theorem tabs_at {μ : Sto} (r : Rel K ι μ H) : LamX.Tabs (tabsOf μ) H := fun p hp => by
  obtain ⟨k, hk⟩ := mem_tabs.mp hp
  obtain ⟨a, _, e, t⟩ := r.at_ k _ hk
  exact t
theorem tabs_one {μ : Sto} (r : Rel K ι μ H) {P : Addr} {q : Str} (h : (P, q) ∈ tabsOf μ) : ∀ p ∈ tabsOf μ, p.1 = P → p.2 = q := fun p hp e => by
  obtain ⟨k, hk⟩ := mem_tabs.mp hp
  obtain ⟨j, hj⟩ := mem_tabs.mp h
  obtain ⟨a, ha, ea, _⟩ := r.at_ k _ hk
  obtain ⟨b, hb, eb, _⟩ := r.at_ j _ hj
  have ek : k = j := r.inj k j P (by rw [ha, ea, e]) (by rw [hb, eb])
  subst ek
  rw [hk] at hj
  have z := Option.some.inj hj
  injection z
theorem stp_ext {H1 : Hp} (e : LamX.ExtN H H1) : Stp ι H ι H1 :=
  ⟨fun _ _ h => h, fun b xs h => e b _ h (fun ps z => by cases z), fun b o u h => e b _ h (fun ps z => by cases z), fun b gs h => e b _ h (fun ps z => by cases z), fun b z h => e b _ h (fun ps z => by cases z)⟩
theorem rel_ext {μ : Sto} {H1 : Hp} (r : Rel K ι μ H) (e : LamX.ExtN H H1) (t : LamX.Tabs (tabsOf μ) H1) : Rel K ι μ H1 :=
  ⟨r.len, r.inj, fun k o h => by
    obtain ⟨a, ha, q⟩ := r.at_ k o h
    refine ⟨a, ha, ?_⟩
    cases o with
    | lst ds =>
      obtain ⟨xs, e1, i⟩ := q
      exact ⟨xs, e a _ e1 (fun ps z => by cases z), IsAll.stp (stp_ext e) _ _ i⟩
    | tab p q' =>
      obtain ⟨e1, _⟩ := q
      exact ⟨e1, t (p, q') (mem_tabs.mpr ⟨k, h⟩)⟩
    | ins C fs =>
      obtain ⟨dx, vs, e1, i⟩ := q
      exact ⟨dx, vs, e a _ e1 (fun ps z => by cases z), IsAll.stp (stp_ext e) _ _ i⟩
    | dct kvs =>
      obtain ⟨vs, e1, i⟩ := q
      exact ⟨vs, e a _ e1 (fun ps z => by cases z), IsAll.stp (stp_ext e) _ _ i⟩⟩
end

/-! ### the lambda, called -/
section
variable {X : Cx} {pins : List (Addr × Obj)} {σ : L2.St} {H : Hp} {s : Shared}
/-- a(), in the def that got the lambda: that def's context, entered at s -/
theorem pe_actG {Eg : XK} {Ng : List Str} {qg : Str} {sg : Scope} {g f c' : Addr} {cdg pm ctv : Value} {params : Arguments} {body : Expr} {scope : Scope} {k : Nat} {a : Str} {pn : List (Addr × Obj)} {xe : Value → Shared → Prop} {W : WX} {p1 p2 : Pos}
    (I : Inv X pins σ H s) (L : LamX.LamS X.env.scope scope) (hf : s.heap.get? f = some (PySem.W.kla_obj "<lambda>" (X.env.qual ++ "<lambda>") params body scope (cloFrom X.env.cells scope.names []) pm c' ctv)) (hfn : H f = none) (hfr : f ∉ frs X.stack)
    (hbind : bindArgs (PySem.W.kla_fn "<lambda>" (X.env.qual ++ "<lambda>") params body scope (cloFrom X.env.cells scope.names []) pm (.ref c') ctv) ⟨[], []⟩ = pure [])
    (tk : Takes ((cxOf (L2.CX X.prog X.w) X.prog X.w X.K X.mg X.base Ng qg sg g cdg X.A X.stack s H Eg).tr pn xe) W) (hr : Room (k + 1) (X.A.deeper (envOfC qg sg s.heap.objs.size g cdg)))
    (hN : Ng[0]? = some a) (hv : Vis sg a) (hd : (a == ("__debug__" : Str)) = false) (hcd : (a == ("__classdict__" : Str)) = false) :
    PE ((cxOf (L2.CX X.prog X.w) X.prog X.w X.K X.mg X.base Ng qg sg g cdg X.A X.stack s H Eg).tr pn xe) (.Call (.Name a p1) [] [] p2)
      (fun σZ HZ Q => σZ[0]? = some (some (.ref f)) ∧ HZ c' = some (LamX.CodeO c' (X.env.qual ++ "<lambda>")) ∧
        ∀ s1 : Shared, Room k ((X.A.deeper (envOfC qg sg s.heap.objs.size g cdg)).deeper (LamX.lamEnv X scope s1.heap.objs.size f c')) →
          ∃ t, PE (LamX.lamCx X (X.A.deeper (envOfC qg sg s.heap.objs.size g cdg)) (envOfC qg sg s.heap.objs.size g cdg :: X.stack) s1 HZ (L2.WE W σZ) scope f c') body t ∧ t σ HZ Q) := by
  refine ⟨fun pinsZ sZ σZ HZ Q IZ h => ?_⟩
  obtain ⟨atSlot, atCode, inside⟩ := h
  refine wpAny_Call_Name_kw (thn ((pe_var (pos := p1) (i := 0) hN hv hd hcd).run pinsZ sZ σZ HZ (fun v H1 => v = .ref f ∧ H1 = HZ) IZ ⟨.ref f, atSlot, rfl, rfl⟩) fun u s1 ⟨v, H1, I1, r1, q1⟩ => ?_)
  obtain ⟨ev, eH⟩ := q1
  subst ev
  rw [eH] at I1
  obtain rfl : u = Value.ref f := r1
  have stays := I1.base.keep f _ hf hfn hfr (fun z => nomatch (show f ∈ ([] : List Addr) from z))
  refine PySem.W.callWith_F0 ⟨_, _, _, _, stays⟩ ?_
  have un : Un (frs X.stack) [] H HZ s.heap s1.heap := I1.base
  obtain ⟨⟨oc, us, t, hoc, hdc, hvc⟩, _, _⟩ := I1.hok c' _ atCode
  have go : codeAny (model X.prog X.w) (X.A.deeper (envOfC qg sg s.heap.objs.size g cdg)) (.call (.ref f) ⟨[], []⟩)
      (CR (L2.CX X.prog X.w) (envOfC qg sg s.heap.objs.size g cdg :: X.stack) X.prog X.w HZ s1 Q (L2.WE W σZ)) s1 := by
    refine PySem.W.kla_callFunE hr.depth stays rfl L.co L.gen rfl ⟨c', oc, us, t, rfl, hoc, hdc, hvc⟩ ?_
    rw [hbind]
    refine wpAny_pure (wpAny_newFunctionEnv (fun y hy => (L.own y hy).2) (fun y hy => absurd hy (by simp)) (fun h₁ hns hsb => ⟨I1.nolimit.fresh _ hsb, ?_⟩) L.kind)
    have kp : ∀ b o, s1.heap.get? b = some o → h₁.get? b = some o := fun b o e => hsb.extBut b o (Nat.ne_of_lt (Heap.lt_size e)) (Heap.get?_push_of_some _ e)
    have J := LamX.lam_start2 (E := L2.WE W σZ) (f := f) (c' := c') (tk := s1.toks + ([] : List (Str × Value)).length) I L I1.env0 hr.hd un hns kp
    obtain ⟨t', ht', hq'⟩ := inside s1 (hr.deeper _)
    show codeAny _ _ (.expr body (LamX.lamEnv X scope s1.heap.objs.size f c')) _ _
    refine PySem.W.kla_codeExpr (wpAny_mono (ht'.run [] _ _ HZ Q J hq') (fun v s' hq => ?_) fun e s' hq => hq)
    obtain ⟨w', H', J', rv, q⟩ := hq
    exact ⟨w', H', J'.os, J'.bare, J'.base, J'.hok, rv, q⟩
  refine wpAny_call (codeAny_mono go fun r s' hq => ?_)
  match r, hq with
  | .error e, hq => exact (passAt tk σZ) pinsZ HZ s1 e s' I1 hq
  | .ok (.ret u), hq => exact I1.after hq
  | .ok .next, hq => exact False.elim hq
  | .ok .brk, hq => exact False.elim hq
  | .ok .cont, hq => exact False.elim hq
end
def wAct (f c : Addr) (q : Str) (σ : L2.St) (we : WE) : WE := fun R δ μ P => match slot δ 0 with
  | some (.lam f' c' q' σ' ks ds) => f' = f ∧ c' = c ∧ q' = q ∧ σ' = σ ∧ we (fun _ C fs μ' => R δ C fs μ') (slotsOf ks ds) μ P
  | _ => False
def wLam (p : Addr) (q : Str) (n : Nat) (wg : WE → WS) (we : WE) : WE := fun R δ μ P => (∃ j, cell μ j = some (.tab p q)) ∧ ∀ f c σ, wg (wAct f c q σ we) (fun _ C fs μ' => R δ C fs μ') { nx := fun _ μ' => P .non μ', rt := P } (startD n [.lam f c q σ (ksOf δ) (dsOf δ)]) μ
section
variable {X : Cx} {W : WX}
/-- x(lambda: body) -/
theorem q_lam {x a : Str} {st : Stmt} {g c P : Addr} {fd : FuncData} {k : Nat} {Ng : List Str} {params : Arguments} {body : Expr} {scope : Scope} {wg : WE → WS} {we : WE} {p lpos pos : Pos}
    (F : Fun X.K x x st g fd) (Sg : FnScope Ng [a] (defScope st)) (gd : X.A.guards = some []) (hr : Room (k + 2) X.A) (hg : Gl X x) (hm : X.mg x = some (.ref g)) (hb : Binds X.K fd [a] []) (tk : Takes X W) (hNg : Ng[0]? = some a) (hva : Vis (defScope st) a)
    (TB : LamX.TabB X.base X.mg c P) (hcode : X.env.code = .ref c) (L : LamX.LamS X.env.scope scope) (hdef : defaultsOf params X.env = ([], []))
    (hbind : ∀ (q : Str) (cl : List (Str × Addr)) (pm cv ctv : Value), bindArgs (PySem.W.kla_fn "<lambda>" q params body scope cl pm cv ctv) ⟨[], []⟩ = pure [])
    (hG : ∀ (cdg : Value) (s : Shared) (H : Hp) (E : XK) (wact : WE), Room (k + 1) (X.A.deeper (envOfC x (defScope st) s.heap.objs.size g cdg)) →
      (∀ (W' : WX) (pn : List (Addr × Obj)) (xe : Value → Shared → Prop) (p1 p2 : Pos), Takes ((cxOf (L2.CX X.prog X.w) X.prog X.w X.K X.mg X.base Ng x (defScope st) g cdg X.A X.stack s H E).tr pn xe) W' →
        QE ((cxOf (L2.CX X.prog X.w) X.prog X.w X.K X.mg X.base Ng x (defScope st) g cdg X.A X.stack s H E).tr pn xe) W' (.Call (.Name a p1) [] [] p2) wact) →
      QSs (cxOf (L2.CX X.prog X.w) X.prog X.w X.K X.mg X.base Ng x (defScope st) g cdg X.A X.stack s H E) (fun cls d _ H => E cls d H) (defBody st) (wg wact))
    (hbody : ∀ (A : Around) (outer : List Env) (s : Shared) (H : Hp) (E : XK) (f c' : Addr), A.guards = some [] → Room k (A.deeper (LamX.lamEnv X scope s.heap.objs.size f c')) → QE (LamX.lamCx X A outer s H E scope f c') (fun cls d _ H => E cls d H) body we)
    (hdb : (x == ("__debug__" : Str)) = false := by decide) (hd : (a == ("__debug__" : Str)) = false := by decide) (hcd : (a == ("__classdict__" : Str)) = false := by decide) :
    QE X W (.Call (.Name x p) [.Lambda params body scope lpos] [] pos) (wLam P (X.env.qual ++ "<lambda>") Ng.length wg we) := by
  obtain ⟨oc, od, kV, doc, pm, an, cdv, ct, osl, rfl, lk, hcg⟩ := F.ex
  refine ⟨fun σ H Q => ∃ T : List (Addr × Str), (P, X.env.qual ++ "<lambda>") ∈ T ∧ (∀ p ∈ T, p.1 = P → p.2 = X.env.qual ++ "<lambda>") ∧ LamX.Tabs T H ∧ ∀ (f c' : Addr) (H1 : Hp), LamX.ExtN H H1 → LamX.Tabs T H1 → H1 c' = some (LamX.CodeO c' (X.env.qual ++ "<lambda>")) →
    ∀ s1 : Shared, ∃ wact : WE, (∀ (W' : WX) (pn : List (Addr × Obj)) (xe : Value → Shared → Prop) (p1 p2 : Pos),
        (PE ((cxOf (L2.CX X.prog X.w) X.prog X.w X.K X.mg X.base Ng x (defScope st) g cdv X.A X.stack s1 H1 (L2.WE W σ)).tr pn xe) (.Call (.Name a p1) [] [] p2)
          (fun σZ HZ Q => σZ[0]? = some (some (.ref f)) ∧ HZ c' = some (LamX.CodeO c' (X.env.qual ++ "<lambda>")) ∧
            ∀ s2 : Shared, Room k ((X.A.deeper (envOfC x (defScope st) s1.heap.objs.size g cdv)).deeper (LamX.lamEnv X scope s2.heap.objs.size f c')) →
              ∃ t, PE (LamX.lamCx X (X.A.deeper (envOfC x (defScope st) s1.heap.objs.size g cdv)) (envOfC x (defScope st) s1.heap.objs.size g cdv :: X.stack) s2 HZ (L2.WE W' σZ) scope f c') body t ∧ t σ HZ Q)) →
        Takes ((cxOf (L2.CX X.prog X.w) X.prog X.w X.K X.mg X.base Ng x (defScope st) g cdv X.A X.stack s1 H1 (L2.WE W σ)).tr pn xe) W' →
        QE ((cxOf (L2.CX X.prog X.w) X.prog X.w X.K X.mg X.base Ng x (defScope st) g cdv X.A X.stack s1 H1 (L2.WE W σ)).tr pn xe) W' (.Call (.Name a p1) [] [] p2) wact) ∧
      ∀ t, RS X.K (fun cls d _ H => L2.WE W σ cls d H) t (wg wact) → t { nx := fun _ H' => Q .non H', rt := Q } (L2.start Ng [.ref f]) H1, ⟨fun pins s σ H Q I h => ?_⟩, fun R ι μ δ σ H Pd Q c1 h kt => ?_⟩
  · obtain ⟨T, hmT, hu, hT, h⟩ := h
    refine wpAny_Call_Name_kw (ld_glob I hg hm ?_ hdb)
    refine PySem.W.callWith_K (h₀ := X.base) I.ok.mod.kin F.kp ?_ (by rfl) (by rfl)
    show wpAny _ _ (spliced ((false, eval (.Lambda params body scope lpos) X.env) :: backTo pos (starEach [] X.env))) _ _ s
    refine Calls.spliced_cons (LamX.lam_make2 I TB hcode hmT hu hT hdef (L.has I.ok) fun f c' pm' ctv H1 s' I1 eN T1 hf hfn hfr hco => ?_)
    refine Calls.spliced_nil ⟨I1.kIn, ?_⟩
    obtain ⟨wact, hact, hrun⟩ := h f c' H1 eN T1 hco s'
    have go : codeAny (model X.prog X.w) X.A (.call (.ref g) ⟨[.ref f], []⟩) (CR (L2.CX X.prog X.w) X.stack X.prog X.w H1 s' Q (L2.WE W σ)) s' := by
      refine LamX.run_ofS (N := Ng) (ps := [a]) (us := [.ref f]) (vs := [.ref f]) lk hcg Sg hr I1.env0 (by have b := hb s' [.ref f] I1.kIn rfl; rwa [List.append_nil] at b) (.cons rfl .nil) rfl fun hr' => ?_
      obtain ⟨t', ht', hq'⟩ := hG cdv s' H1 (L2.WE W σ) wact hr' (fun W' pn xe p1 p2 tk' => hact W' pn xe p1 p2 (pe_actG I1 L hf hfn hfr (hbind _ _ _ _ _) tk' hr' hNg hva hd hcd) tk')
      exact ⟨t', ht', hrun t' hq'⟩
    refine wpAny_call (codeAny_mono go fun r s2 hq => ?_)
    match r, hq with
    | .error e, hq => exact (passAt tk σ) pins H1 s' e s2 I1 hq
    | .ok (.ret u), hq => exact I1.after hq
    | .ok .next, hq => exact False.elim hq
    | .ok .brk, hq => exact False.elim hq
    | .ok .cont, hq => exact False.elim hq
  · obtain ⟨⟨j, hj⟩, hw⟩ := h
    have hm' : (P, X.env.qual ++ "<lambda>") ∈ tabsOf μ := mem_tabs.mpr ⟨j, hj⟩
    refine ⟨tabsOf μ, hm', tabs_one c1.rel hm', tabs_at c1.rel, fun f c' H1 eN T1 hco s1 => ?_⟩
    have st1 : Stp ι H ι H1 := stp_ext eN
    have rel1 : Rel X.K ι μ H1 := rel_ext c1.rel eN T1
    have lamIs : Is X.K ι H1 (.lam f c' (X.env.qual ++ "<lambda>") σ (ksOf δ) (dsOf δ)) (.ref f) := is_lam (c1.env.stp st1) hco
    refine ⟨wAct f c' (X.env.qual ++ "<lambda>") σ we, fun W' pn xe p1 p2 hp tk' => ⟨_, hp, fun R' ι' μ' δ' σ' H' P' Q' c2 h' k' => ?_⟩, fun t ht => ?_⟩
    · unfold wAct at h'
      split at h'
      · rename_i f2 c2' q2 σ2 ks ds e
        obtain ⟨e1, e2, e3, e4, h'⟩ := h'
        subst e1 e2 e3 e4
        obtain ⟨v, ev, iv⟩ := c2.env.at_ 0 _ e
        have back := env_back iv
        obtain ⟨ev2, hc2, _⟩ := iv
        subst ev2
        refine ⟨ev, hc2, fun s2 hr2 => ?_⟩
        obtain ⟨tb, hb1, hb2⟩ := hbody _ (envOfC x (defScope st) s1.heap.objs.size g cdv :: X.stack) s2 H' (L2.WE W' σ') f2 c2' (by exact gd) hr2
        refine ⟨tb, hb1, hb2 _ ι' μ' (slotsOf ks ds) σ2 H' P' Q' ⟨c2.rel, back, ?_⟩ h' k'⟩
        exact fun ι3 μ3 δ3 σ3 H3 C fs d s3 r3 e3 d3 q3 => c2.xl ι3 μ3 δ' σ' H3 C fs d s3 r3 (c2.env.stp s3) d3 q3
      · exact h'.elim
    · refine ht (fun _ C fs μ' => R δ C fs μ') ι μ _ _ H1 _ _ ⟨rel1, env_start [.lam f c' (X.env.qual ++ "<lambda>") σ (ksOf δ) (dsOf δ)] [.ref f] Ng ?_ ⟨.ref f, [], rfl, lamIs, rfl⟩, ?_⟩ (hw f c' σ) ?_
      · show 1 ≤ Ng.length
        cases Ng with
        | nil => cases hNg
        | cons y r => exact Nat.succ_le_succ (Nat.zero_le _)
      · exact fun ι3 μ3 δ3 σ3 H3 C fs d s3 r3 e3 d3 q3 => c1.xl ι3 μ3 δ σ H3 C fs d (st1.trans s3) r3 (c1.env.stp (st1.trans s3)) d3 q3
      · exact ⟨fun ι' μ' H' δ' σ' s' r' e' z => kt .non .non ι' μ' H' (st1.trans s') r' rfl z, fun v y ι' μ' H' s' r' i' z => kt v y ι' μ' H' (st1.trans s') r' i' z, fun _ _ _ _ _ _ _ _ z => z.elim, fun _ _ _ _ _ _ _ _ z => z.elim⟩
end
end HD
/-! HD9: defs that make lambdas; the law's end with tables; list.append. -/
namespace HD
open PySem PySem.Spec PyProof.Rows L2

/-- a def whose code object stands at c -/
structure FunC (K : PySem.W.Frag) (x qual : Str) (st : Stmt) (f : Addr) (fd : FuncData) (c : Addr) : Prop where
  ex : ∃ (oc : Value) (od : Option Addr) (kV doc pm : Value) (an : Option Addr) (ct : Value) (osl : Array (Option Value)),
    fd = PySem.W.fnOf x qual (defArgs st) (defBody st) (defScope st) .none kV doc pm an (.ref c) ct ∧ K.lookup f = some ⟨oc, od, .func fd, osl⟩ ∧ PySem.W.codeIn K (.ref c) qual = true
  kp : PySem.W.keepIn K (.ref f) = true
theorem FunC.fn {K : PySem.W.Frag} {x qual : Str} {st : Stmt} {f c : Addr} {fd : FuncData} (F : FunC K x qual st f fd c) : Fun K x qual st f fd := by
  obtain ⟨oc, od, kV, doc, pm, an, ct, osl, h⟩ := F.ex
  exact ⟨⟨oc, od, kV, doc, pm, an, _, ct, osl, h⟩, F.kp⟩
theorem fnG_ofc {P : Program} {w : World} {K : PySem.W.Frag} {mg : Str → Option Value} {base : Heap} {x qual : Str} {st : Stmt} {f : Addr} {fd : FuncData} {N ps : List Str} {k : Nat} {sp : Sp}
    {c : Addr} (F : FunC K x qual st f fd c) (S : FnScope N ps (defScope st)) (hn : ∀ vs H Q E, sp vs H Q E → vs.length = ps.length)
    (body : ∀ (A : Around) (outer : List Env) (s : Shared) (H : Hp) (vs : List V) (Q : VK) (E : XK), A.guards = some [] → Room k (A.deeper (envOfC qual (defScope st) s.heap.objs.size f (.ref c))) → sp vs H Q E →
      ∃ t, PSs (cxOf (L2.CX P w) P w K mg base N qual (defScope st) f (.ref c) A outer s H E) (defBody st) t ∧ t { nx := fun _ H' => Q .non H', rt := Q } (start N vs) H) :
    FnG P w K mg base (k + 1) f fd ps sp := by
  obtain ⟨oc, od, kV, doc, pm, an, ct, osl, rfl, lk, hcd⟩ := F.ex
  refine ⟨hn, fun A outer s H args us vs Q E hgd hrm e0 hbind hvals hspec => ?_⟩
  have hlen : vs.length = ps.length := hn vs H Q E hspec
  have kin : K.In s.heap := fnG_of.Frag_keeps e0
  have nolim : s.heap.NoLimit := fnG_of.nolim_keeps e0
  have kinds : ∀ y ∈ ps.zip us, (defScope st).names.lookup y.1 = some .local ∨ ((defScope st).names.lookup y.1 = some .cell ∧
      ((cellsFrom (s.heap.objs.size + 1) (defScope st).names []).lookup y.1).isSome = true) := by
    intro y hy
    cases S.par y.1 (List.of_mem_zip (a := y.1) (b := y.2) hy).1 with
    | inl q => exact Or.inl q
    | inr q => exact Or.inr ⟨q, PySem.W.cellsFrom_some _ _ _ (Or.inl q)⟩
  have enter := hbind
  refine codeAny_call_function hrm.depth
    (kin _ _ lk) rfl S.co S.gen rfl
    (PySem.W.codeRec_of kin hcd) (enter _ _ _ _ ?_)
  refine wpAny_newFunctionEnv_cells S.kind kinds
    fun env' henv s' inC => ?_
  subst henv
  refine ⟨nolim.keeps inC.toInCall.keep, codeAny_func ?_⟩
  obtain ⟨t, hps, hstart⟩ := body A outer s H vs Q E hgd (hrm.deeper _) hspec
  have inv0 := inv_start (CX := L2.CX P w) (P := P) (w := w) (K := K) (mg := mg) (base := base) (qual := qual) (f := f) (cd := .ref c) (E := E) S hrm.hd e0 hlen hvals inC
  refine wpAny_mono (hps.run [] s' (start N vs) H _ inv0 hstart) (fun fl s2 hend => ?_) (fun _ _ z => z)
  match fl, hend with
  | .ret u, hend =>
    obtain ⟨v, σ2, H2, J, rv, q⟩ := hend
    exact ⟨v, H2, J.os, J.bare, J.base, J.hok, rv, q⟩
  | .next, hend =>
    obtain ⟨σ2, H2, J, q⟩ := hend
    exact ⟨.non, H2, J.os, J.bare, J.base, J.hok, (show RelV V.non Value.none from rfl), q⟩
  | .brk, hend =>
    obtain ⟨_, _, _, q⟩ := hend
    exact q.elim
  | .cont, hend =>
    obtain ⟨_, _, _, q⟩ := hend
    exact q.elim

theorem defDc {P : Program} {w : World} {K : PySem.W.Frag} {mg : Str → Option Value} {base : Heap} {x qual : Str} {st : Stmt} {f : Addr} {fd : FuncData} {N ps : List Str} {k : Nat} {sp : SpD} {ws : WS}
    {c : Addr} (F : FunC K x qual st f fd c) (S : FnScope N ps (defScope st)) (hl : ∀ ds μ Pd R, sp ds μ Pd R → ds.length = ps.length)
    (der : ∀ (A : Around) (outer : List Env) (s : Shared) (H : Hp) (E : XK), A.guards = some [] → Room k (A.deeper (envOfC qual (defScope st) s.heap.objs.size f (.ref c))) →
      QSs (cxOf (L2.CX P w) P w K mg base N qual (defScope st) f (.ref c) A outer s H E) (fun cls d _ H => E cls d H) (defBody st) ws)
    (vc : ∀ ds μ Pd R, sp ds μ Pd R → ws (fun _ C fs μ' => R C fs μ') { nx := fun _ μ' => Pd .non μ', rt := Pd } (startD N.length ds) μ) : FnG P w K mg base (k + 1) f fd ps (spOf K sp) := by
  have hpl : ps.length ≤ N.length := by
    have := congrArg List.length S.pre
    rw [List.length_take] at this
    omega
  refine fnG_ofc F S (fun vs H Q E h => ?_) (fun A outer s H vs Q E gd hr h => ?_)
  · obtain ⟨ι, μ, ds, Pd, R, r, i, q, _, _⟩ := h
    rw [i.length]
    exact hl _ _ _ _ q
  · obtain ⟨ι, μ, ds, Pd, R, r, i, q, kt, kx⟩ := h
    obtain ⟨t, h1, h2⟩ := der A outer s H E gd hr
    refine ⟨t, h1, ?_⟩
    have env := env_start ds vs N (by rw [hl _ _ _ _ q]; exact hpl) i
    refine h2 (fun _ C fs μ' => R C fs μ') ι μ _ _ H _ _ ⟨r, env, ?_⟩ (vc ds μ Pd R q) ?_
    · exact fun ι' μ' δ' σ' H' C fs d s' r' e' hf z => kx C fs d ι' μ' H' s' r' hf z
    · exact ⟨fun ι' μ' H' δ' σ' s' r' e' z => kt .non .non ι' μ' H' s' r' rfl z, fun v d ι' μ' H' s' r' i' z => kt v d ι' μ' H' s' r' i' z, fun _ _ _ _ _ _ _ _ z => z.elim, fun _ _ _ _ _ _ _ _ z => z.elim⟩


/-! ### xs.append(e) -/
section
variable {X : Cx} {W : WX} {o e : Expr} {wo we : WE} {apos cpos : Pos}
def wApp (wo we : WE) : WE := fun R δ μ P => wo R δ μ fun x μ1 => match x with
  | .ref k => (∃ ys, lstAt μ1 k = some ys) ∧ we R δ μ1 fun d μ2 => match lstAt μ2 k with
    | some xs => xs.length ≤ 1000 ∧ P .non (μ2.set k (.lst (xs ++ [d])))
    | none => False
  | _ => False
theorem q_app (ho : QE X W o wo) (he : QE X W e we)
    (hbase : attributeBase o "append" X.env (eval o X.env) = eval o X.env := by rfl)
    (hfew : ((backTo cpos (starEach (e :: []) X.env)).all (fun x => !x.1) && (backToKw cpos (keywordEach [] X.env)).all (fun x => x.1.isSome)
      && decide ((e :: ([] : List Expr)).length + ([] : List Keyword).length + (if ([] : List Keyword).isEmpty then 0 else 1) < 30)) = true := by rfl)
    (hline : (apos.endLine == cpos.line) = true := by rfl) (hs : starEach (e :: []) X.env = (false, eval e X.env) :: starEach [] X.env := by rfl) (hplain : (backTo cpos (starEach [] X.env)).any (·.1) = false := by rfl) :
    QE X W (.Call (.Attribute o "append" apos) [e] [] cpos) (wApp wo we) := by
  obtain ⟨to, o1, o2⟩ := ho
  obtain ⟨te, e1, e2⟩ := he
  refine ⟨_, pe_bm PySem.F.plainAttrs_list PySem.F.slot_list_append PySem.F.type_list_append mt_append o1 (pa_cons e1 pa_nil hs) hbase hfew hline hs hplain, fun R ι μ δ σ H P Q c h k => o2 R ι μ δ σ H _ _ c h fun v x ι1 μ1 H1 s1 r1 i1 q1 => ?_⟩
  cases x with
  | ref n =>
    obtain ⟨⟨ys, hys⟩, q1⟩ := q1
    obtain ⟨a, ea, ev⟩ := i1
    subst ev
    obtain ⟨a', zs, ea', hz, _⟩ := r1.lst hys
    rw [ea] at ea'
    obtain rfl : a = a' := Option.some.inj ea'
    refine ⟨.inl ⟨rfl, zs, SqL.of hz⟩, e2 R ι1 μ1 δ σ H1 _ _ (c.stp s1 r1) q1 fun u d ι2 μ2 H2 s2 r2 i2 q2 => ?_⟩
    split at q2
    · rename_i xs hxs
      obtain ⟨b, us, eb, hb, hall⟩ := r2.lst hxs
      have ea2 := s2.ext n a ea
      rw [ea2] at eb
      obtain rfl : a = b := Option.some.inj eb
      refine ⟨a, us, u, rfl, rfl, hb, ?_, k .non .non ι2 _ _ ((s1.trans s2).trans (Stp.wr hb)) (r2.write (lstAt_cell hxs) ea2 hb (hall.app (es := [d]) (ys := [u]) ⟨u, [], rfl, i2, rfl⟩)) rfl q2.2⟩
      rw [hall.length]
      exact small1000 q2.1
    · exact q2.elim
  | _ => exact q1.elim
end
/-! ### the law's end, with tables -/
/-- the law, where some defs make lambdas: cs, their tables and the lambdas' names -/
def spLawT (n : Nat) (cs : List (Addr × Str)) : SpD := fun ds μ P _ => ∃ ns : List Int, ds = [.ro (ns.map .int)] ∧ ns.length ≤ n ∧ μ = cs.map (fun p => O.tab p.1 p.2) ∧ ∀ μ', P (.bl true) μ'
theorem tabS_nil {H : Hp} {p : Addr} (q : Str) (h : H p = some (.tbl #[])) : LamX.TabS H p q := LamX.TabS.nil h
theorem cell_map {cs : List (Addr × Str)} : ∀ {k : Nat} {o : O}, cell (cs.map fun p => O.tab p.1 p.2) k = some o → ∃ p, cs[k]? = some p ∧ o = .tab p.1 p.2 := by
  induction cs with
  | nil => intro k o h; cases h
  | cons a r ih =>
    intro k o h
    cases k with
    | zero => exact ⟨a, rfl, (Option.some.inj h).symm⟩
    | succ k =>
      obtain ⟨p, h1, h2⟩ := ih (k := k) h
      exact ⟨p, by simpa using h1, h2⟩
theorem rel_tabs {K : PySem.W.Frag} {H : Hp} {cs : List (Addr × Str)} (nd : (cs.map (·.1)).Nodup) (h : ∀ p ∈ cs, H p.1 = some (.tbl #[])) : Rel K (cs.map (·.1)) (cs.map fun p => O.tab p.1 p.2) H := by
  refine ⟨by rw [List.length_map, List.length_map], fun i j a h1 h2 => ?_, fun k o hk => ?_⟩
  · exact (List.getElem?_inj (List.getElem?_eq_some_iff.mp h1).1 nd).mp (h1.trans h2.symm)
  · obtain ⟨p, h1, h2⟩ := cell_map hk
    subst h2
    have hm : p ∈ cs := List.mem_of_getElem? h1
    exact ⟨p.1, by rw [List.getElem?_map, h1] <;> rfl, rfl, tabS_nil _ (h p hm)⟩

/-- of a def that makes lambdas: its code object, its table, the lambdas' name -/
structure Maker where
  c : Addr
  p : Addr
  q : Str
structure TabsOk (K : PySem.W.Frag) (h : Heap) (cs : List Maker) : Prop where
  nd : (cs.map Maker.p).Nodup
  empty : ∀ m ∈ cs, h.get? m.p = some { cls := .none, data := .fields #[] }
  out : ∀ m ∈ cs, K.lookup m.p = none
  code : ∀ m ∈ cs, PySem.W.CodeHd h m.c m.p
def tabCells (cs : List Maker) : List (Addr × Str) := cs.map fun m => (m.p, m.q)
theorem walkTD {l : PySem.W.OpenLaw} {n k : Nat} {q : Program} {loose : List Str} {XP : (Str → Option Value) → Heap → Prop} {YP : World → Heap → Prop} {d : DefRec} {K : Params → PySem.W.Frag} {x : Str}
    (hn : l.most = some n) (hn2 : n ≤ sizeLine) (hdf : d.params.defaults = []) (hr : Room k callerA)
    (hY : ∀ (w : World) (h : Heap), YP w h → (K w.params).In h)
    (F : ∀ (w : World) (mg : Str → Option Value) (fa : Addr) (h : Heap), (K w.params).In h → h.Ns mainGlobals mg → mg d.name = some (.ref fa) →
      (∀ (nm : Str) (f : Addr), ((recsOf q).any fun e => e.name == nm) = true → mg nm = some (.ref f) → LamX.OwnTab (K w.params) f h) →
      ∃ (fd : FuncData) (cs : List Maker), TabsOk (K w.params) h cs ∧ (∀ (s : Shared) (u : Value), BindsTo s fd ⟨[u], []⟩ [(x, u)]) ∧
        ∀ base : Heap, (K w.params).In base → base.Ns mainGlobals mg → (∀ m ∈ cs, LamX.TabB base mg m.c m.p) → FnG l.prog w (K w.params) mg base k fa fd [x] (spOf (K w.params) (spLawT n (tabCells cs)))) :
    PySem.W.WalkO q loose XP YP l.row.toRowW d [] (fun f vs => PySem.call f vs) := by
  refine Att.attach_call hn hdf fun w s₀ s₁ mg mb fa o pm cd doc a vs ns G Y ho hd hcd hmg hobj hints hlen hg => ?_
  have KX := hY w _ Y
  have own : ∀ (nm : Str) (f : Addr), ((recsOf q).any fun e => e.name == nm) = true → mg nm = some (.ref f) → LamX.OwnTab (K w.params) f s₁.heap := fun nm f hrec hnm c P o1 fd1 e dd vs1 sl k1 k2 k3 k4 k5 => by
    obtain ⟨r, hm, hname⟩ := List.any_eq_true.mp hrec
    have hname : r.name = nm := beq_iff_eq.mp hname
    obtain ⟨a', o', fd', c', P', h1, h2, h3, h4, h5, h6⟩ := G.T.tab r hm
    rw [hname, hnm] at h1
    cases h1
    rw [KX _ _ k1] at h2
    cases h2
    rw [k2] at h3
    cases h3
    rw [k3] at h4
    cases h4
    obtain ⟨⟨oc, vc, e1, _, e3, e4⟩, hP⟩ := h6
    rw [KX _ _ k4] at e1
    cases e1
    cases e3
    rw [k5] at e4
    cases e4
    exact hP
  obtain ⟨fd, cs, tabs, hb, hF⟩ := F w mg fa _ KX G.T.g hmg own
  have lenV := hints.length
  have hl : ns.length ≤ sizeLine := Nat.le_trans hlen hn2
  have rv := vals_ints hints
  obtain ⟨isT, hT⟩ : ∃ isT : Addr → Bool, ∀ b, isT b = true ↔ ∃ m ∈ cs, m.p = b := ⟨fun b => cs.any fun m => decide (m.p = b), fun b => by simp⟩
  have emptyAt : ∀ b, isT b = true → s₁.heap.get? b = some { cls := .none, data := .fields #[] } := fun b hb => by
    obtain ⟨m, hm, e⟩ := (hT b).mp hb
    rw [← e]
    exact tabs.empty m hm
  have aT : isT a = false := by
    cases z : isT a with
    | false => rfl
    | true =>
      have e := emptyAt a z
      rw [hobj] at e
      have e2 : Data.seq vs.toArray _ = Data.fields #[] := congrArg Obj.data (Option.some.inj e)
      cases e2
  have goal : ∀ H : Hp, (∀ m ∈ cs, H m.p = some (.tbl #[])) → (∀ b, H b = none ∨ isT b = true ∨ ∃ o xs, H b = some (.frz o (.lst xs))) → IsAll (K w.params) [] H [.ro (ns.map .int)] [.ref a] → HOk l.prog w H s₁.heap →
      (∀ b, H b ≠ none → b = a ∨ isT b = true) → (H a ≠ none → (K w.params).lookup a = none) →
      codeAny (model l.prog w) callerA (.call (.ref fa) ⟨[.ref a], []⟩) (fun r s' => r = .ok (.ret (.bool true)) ∧ OldK s₁.heap s'.heap ∧ s'.os = s₁.os ∧ AllBare s'.gens) s₁ := by
    intro H atT kinds scr hok onlyA notK
    have free_of : ∀ {b : Addr} {ob : Obj}, s₁.heap.get? b = some ob → (∀ vs' n', ob.data ≠ .seq vs' n') → ob.data ≠ .fields #[] → H b = none := by
      intro b ob hget hdat hdat2
      match hHb : H b with
      | none => rfl
      | some u =>
        rcases onlyA b (by rw [hHb]; exact Option.some_ne_none u) with hba | hbt
        · rw [hba, hobj] at hget
          have hob := Option.some.inj hget
          exact absurd rfl (by rw [← hob] at hdat; exact hdat _ _)
        · rw [emptyAt b hbt] at hget
          have hob := Option.some.inj hget
          exact absurd rfl (by rw [← hob] at hdat2; exact hdat2)
    have ns_hid : ∀ {b : Addr} {m : Str → Option Value}, s₁.heap.Ns b m → (hidT s₁.heap H).Ns b m := by
      intro b m hns
      obtain ⟨ob, es, ep, hget, hdat, rest⟩ := hns
      refine ⟨ob, es, ep, hidT_get hget (free_of hget ?_ ?_), hdat, rest⟩
      · intro vs' n' z
        rw [hdat] at z
        cases z
      · intro z
        rw [hdat] at z
        cases z
    have kin_hid : (K w.params).In (hidT s₁.heap H) := by
      intro b ob hlook
      refine hidT_get (KX b ob hlook) ?_
      match hHb : H b with
      | none => rfl
      | some u =>
        rcases onlyA b (by rw [hHb]; exact Option.some_ne_none u) with hba | hbt
        · subst hba
          have := notK (by rw [hHb]; exact Option.some_ne_none u)
          rw [this] at hlook
          cases hlook
        · obtain ⟨m, hm, e⟩ := (hT b).mp hbt
          rw [← e, tabs.out m hm] at hlook
          cases hlook
    have TB : ∀ m ∈ cs, LamX.TabB (hidT s₁.heap H) mg m.c m.p := fun m hm => by
      have hTp := tabs.empty m hm
      refine ⟨?_, ?_, fun z => ?_⟩
      · obtain ⟨o, us, file, tf, flags, tg, inF, text, tt, e1, r1, r2, r3, r4, r5, r6, r7, r8, hne⟩ := tabs.code m hm
        refine ⟨o, us, file, tf, flags, tg, inF, text, tt, hidT_get e1 (free_of e1 (fun vs n z => ?_) fun z => ?_), r1, r2, r3, r4, r5, r6, r7, r8, hne⟩
        · rw [r2] at z
          cases z
        · rw [r2] at z
          cases z
          simp at r3
      · obtain ⟨bm, ob, b1, b2, b3, b4, b5, b6⟩ := G.T.bmain
        have nG : bm ≠ mainGlobals := fun q => by
          obtain ⟨o, es, ep, e, hd, _⟩ := G.T.g
          rw [q, e] at b3
          cases b3
          rw [hd] at b6
          cases b6
        have nP : bm ≠ m.p := fun q => by
          rw [q, hTp] at b3
          cases b3
          cases b6
        refine ⟨bm, ob, b1, b2, nG, nP, hidT_get b3 (free_of b3 (fun vs n z => ?_) fun z => ?_), b4, b5, b6⟩
        · rw [b6] at z
          cases z
        · rw [b6] at z
          cases z
      · obtain ⟨o, es, ep, e, hd, _⟩ := G.T.g
        rw [z, hTp] at e
        cases e
        cases hd
    obtain ⟨mc, lim1, lim2⟩ := G.T.nolimit
    have modu : Mod (K w.params) mg (hidT s₁.heap H) := ⟨kin_hid, ns_hid G.T.g, ⟨mb, ns_hid G.T.b, G.T.builtins⟩, ⟨mc, ns_hid lim1, lim2⟩⟩
    have en0 : Env0 l.prog w (K w.params) mg (hidT s₁.heap H) callerA [] s₁ H :=
      ⟨rfl, modu, fun b ob z => of_hidT z, Nat.le_of_eq (hidT_size _ _), trivial, fun b z => absurd (show b ∈ ([] : List Addr) from z) (by simp), hok, .of_eq hg⟩
    have relT : Rel (K w.params) ((tabCells cs).map (·.1)) ((tabCells cs).map fun p => O.tab p.1 p.2) H := by
      refine rel_tabs ?_ fun p hp => ?_
      · unfold tabCells
        rw [List.map_map]
        exact tabs.nd
      · obtain ⟨m, hm, e⟩ := List.mem_map.mp hp
        rw [← e]
        exact atT m hm
    have scr' : IsAll (K w.params) ((tabCells cs).map (·.1)) H [.ro (ns.map .int)] [.ref a] := IsAll.stp ⟨fun _ _ z => by simp at z, HX.refl H⟩ _ _ scr
    have promise : spOf (K w.params) (spLawT n (tabCells cs)) [.ref a] H (fun v _ => v = .bl true) (fun _ _ _ => False) :=
      ⟨_, _, _, fun d _ => d = .bl true, fun _ _ _ => False, relT, scr', ⟨ns, rfl, hlen, rfl, fun _ => rfl⟩,
        fun v dd ι' μ' H' _ _ i z => by
          subst z
          exact i, fun _ _ _ _ _ _ _ _ _ z => z⟩
    have run := (hF _ kin_hid (ns_hid G.T.g) TB).run callerA [] s₁ H ⟨[.ref a], []⟩ [.ref a] [.ref a] _ _ rfl hr en0 (hb s₁ (.ref a)) (.cons rfl .nil) promise
    refine codeAny_mono run fun r s' hres => ?_
    match r, hres with
    | .error e, hres =>
      obtain ⟨_, _, _, _, _, _, _, _, _, _, _, _, z⟩ := (show L2.CX l.prog w [] H s₁ (fun _ _ _ => False) e s' from hres)
      exact z.elim
    | .ok .next, hres => exact False.elim hres
    | .ok .brk, hres => exact False.elim hres
    | .ok .cont, hres => exact False.elim hres
    | .ok (.ret u), hres =>
      obtain ⟨v, H', os, bare, un, hok', rel', ev⟩ := hres
      have ev' : v = .bl true := ev
      subst ev'
      have eu : u = Value.bool true := rel'
      subst eu
      have key : ∀ b o, isT b = false → s₁.heap.get? b = some o → s'.heap.get? b = some o := fun b o nb hget => by
        match hHb : H b with
        | none => exact un.keep b o hget hHb (fun z => absurd (show b ∈ ([] : List Addr) from z) (by simp)) (by simp)
        | some u' =>
          rcases kinds b with z | z | ⟨of, xs, z⟩
          · rw [hHb] at z
            cases z
          · rw [z] at nb
            cases nb
          · have later := un.frzs b of _ z
            have h1 := (hok b _ z).1
            have h2 := (hok' b _ later).1
            rw [hget] at h1
            cases h1
            exact h2
      have grown : ∀ m ∈ cs, ∃ more : Array Value, s'.heap.get? m.p = some { cls := .none, data := .fields more } := fun m hm => by
        obtain ⟨more, z⟩ := un.tbls m.p #[] (atT m hm)
        exact ⟨_, hok' m.p _ z⟩
      refine ⟨rfl, ⟨fun b o e => ?_, fun b o e => ?_⟩, os, bare⟩
      · cases hb : isT b with
        | true =>
          obtain ⟨m, hm, ep⟩ := (hT b).mp hb
          obtain ⟨more, hmore⟩ := grown m hm
          rw [← ep] at e ⊢
          rw [tabs.empty m hm] at e
          cases e
          exact .inr (.inl ⟨((tabs.code m hm).tab (tabs.empty m hm)).isCodeTable, rfl, #[], more, rfl, by rw [Array.empty_append]; exact hmore⟩)
        | false => exact .inl (key b o hb e)
      · cases hb : isT b with
        | true =>
          obtain ⟨m, hm, ep⟩ := (hT b).mp hb
          obtain ⟨more, hmore⟩ := grown m hm
          rw [← ep]
          exact ⟨_, hmore⟩
        | false => exact ⟨o, key b o hb e⟩
  have tblIs : ∀ m ∈ cs, isT m.p = true := fun m hm => (hT m.p).mpr ⟨m, hm, rfl⟩
  match hlk : (K w.params).lookup a with
  | some ob =>
    have hsame := KX a ob hlk
    rw [hobj] at hsame
    have hob := Option.some.inj hsame
    subst hob
    refine goal (fun b => if isT b = true then some (.tbl #[]) else none) (fun m hm => if_pos (tblIs m hm)) (fun b => ?_) ⟨.ref a, [], rfl, ⟨a, ns.map V.int, rfl, .inr ⟨_, vs.toArray, _, hlk, rfl, rfl, rfl, ?_, ?_⟩, isAll_ints ns⟩, rfl⟩ (fun b u z => ?_) (fun b z => ?_) (fun z => absurd (show (if isT a = true then some (HO.tbl #[]) else none) = none by rw [aT]; rfl) z)
    · cases hb : isT b with
      | true => exact .inr (.inl rfl)
      | false => exact .inl (if_neg Bool.false_ne_true)
    · rw [List.size_toArray, lenV]
      exact hl
    · simpa using rv
    · cases hb : isT b with
      | true =>
        have z2 : (if isT b = true then some (HO.tbl #[]) else none) = some u := z
        rw [hb, if_pos rfl] at z2
        have z' := Option.some.inj z2
        subst z'
        exact emptyAt b hb
      | false =>
        have z2 : (if isT b = true then some (HO.tbl #[]) else none) = some u := z
        rw [hb, if_neg Bool.false_ne_true] at z2
        cases z2
    · cases hb : isT b with
      | true => exact .inr rfl
      | false => exact absurd (show (if isT b = true then some (HO.tbl #[]) else none) = none by rw [hb]; exact if_neg Bool.false_ne_true) z
  | none =>
    refine goal (fun b => if b = a then some (.frz { cls := .type "list", data := .seq vs.toArray } (.lst (ns.map V.int))) else if isT b = true then some (.tbl #[]) else none) (fun m hm => ?_) (fun b => ?_) ⟨.ref a, [], rfl, ⟨a, ns.map V.int, rfl, .inl ⟨_, if_pos rfl⟩, isAll_ints ns⟩, rfl⟩ (fun b u z => ?_) (fun b z => ?_) (fun _ => hlk)
    · have ne : m.p ≠ a := fun z => by
        have := tblIs m hm
        rw [z, aT] at this
        cases this
      exact (if_neg ne).trans (if_pos (tblIs m hm))
    · by_cases hb : b = a
      · exact .inr (.inr ⟨_, _, if_pos hb⟩)
      · cases ht : isT b with
        | true => exact .inr (.inl rfl)
        | false => exact .inl ((if_neg hb).trans (if_neg Bool.false_ne_true))
    · by_cases hb : b = a
      · have z' := (if_pos hb).symm.trans z
        cases z'
        rw [hb]
        exact ⟨hobj, by rw [List.length_map]; exact hl, vs, _, rv, hobj⟩
      · have z1 := (if_neg hb).symm.trans z
        cases ht : isT b with
        | true =>
          rw [ht, if_pos rfl] at z1
          have z' := Option.some.inj z1
          subst z'
          exact emptyAt b ht
        | false =>
          rw [ht, if_neg Bool.false_ne_true] at z1
          cases z1
    · by_cases hb : b = a
      · exact .inl hb
      · cases ht : isT b with
        | true => exact .inr rfl
        | false => exact absurd ((if_neg hb).trans (by rw [ht]; exact if_neg Bool.false_ne_true)) z

/-! ### what the text gives -/
theorem exm_refl {K : PySem.W.Frag} {C : Addr} (hb : PySem.W.subIn K (.ref C) (.type "BaseException") = some true) (hc : PySem.W.isClsIn K C = true) (ht : PySem.W.typeIn K (.ref C) = some (.type "type")) (hs : PySem.W.subIn K (.ref C) (.ref C) = some true) :
    PySem.W.exmOne K (.ref C) (.ref C) = some true := by
  have isC : (PySem.W.clsIn K C).isSome = true := hc
  have a : (PySem.W.subIn K (.ref C) (.type "BaseException") == some true) = true := by rw [hb] <;> rfl
  have b : ((PySem.W.clsIn K C).isSome && PySem.W.typeIn K (.ref C) == some (.type "type")) = true := by rw [isC, ht] <;> rfl
  show (if (PySem.W.subIn K (.ref C) (.type "BaseException") == some true) = true then (if ((PySem.W.clsIn K C).isSome && PySem.W.typeIn K (.ref C) == some (.type "type")) = true then PySem.W.subIn K (.ref C) (.ref C) else none) else none) = some true
  rw [if_pos a, if_pos b, hs]
/-- an own error class of the text -/
structure ErrT (K : PySem.W.Frag) (mg : Str → Option Value) (x f : Str) (newId : String) where
  C : Addr
  fI : Addr
  t : ErrTxt K mg x f newId C fI
  x : PySem.W.exmOne K (.ref C) (.ref C) = some true
/-- a def of the text that makes lambdas -/
structure MkT (K : PySem.W.Frag) (x : Str) (st : Stmt) (f : Addr) (fd : FuncData) where
  of ::
  c : Addr
  p : Addr
  fc : FunC K x x st f fd c
  lc : ∃ e dd vs sl, K.lookup c = some ⟨e, dd, .fields vs, sl⟩ ∧ vs[11]? = some (.ref p)
  hd : PySem.W.codeHdIn K c p = true
  out : K.lookup p = none
def MkT.mk {K : PySem.W.Frag} {x : Str} {st : Stmt} {f : Addr} {fd : FuncData} (m : MkT K x st f fd) (q : Str) : HD.Maker := ⟨m.c, m.p, q⟩
theorem codeHd_by {K : PySem.W.Frag} {c P : Addr} {dd : Option Addr} {vs : Array Value} {sl : Array (Option Value)} (h : K.lookup c = some ⟨.type "code", dd, .fields vs, sl⟩)
    (hv : ((match (vs[11]? : Option Value) with | some (.ref P') => P' == P | _ => false) && (match vs.getD 18 .none with | .str _ _ => true | _ => false) && (match vs.getD 7 .none with | .int _ _ => true | _ => false) &&
      (match vs.getD 9 .none with | .bool _ => true | _ => false) && (match vs.getD 10 .none with | .int _ _ => true | _ => false) && c != P) = true) : PySem.W.codeHdIn K c P = true := by
  unfold PySem.W.codeHdIn
  rw [h]
  exact hv
theorem tabsOk_one {K : PySem.W.Frag} {h : Heap} {x : Str} {st : Stmt} {f : Addr} {fd : FuncData} (X : K.In h) (m : MkT K x st f fd) (own : LamX.OwnTab K f h) (q : Str) : TabsOk K h [m.mk q] := by
  obtain ⟨oc, od, kV, doc, pm, an, ct, osl, e, lk, _⟩ := m.fc.ex
  obtain ⟨e', dd, vs, sl, l2, hv⟩ := m.lc
  have emp : h.get? m.p = some { cls := .none, data := .fields #[] } := own m.c m.p _ fd e' dd vs sl lk rfl ((congrArg FuncData.code e).trans rfl) l2 hv
  refine ⟨by simp, fun z hz => ?_, fun z hz => ?_, fun z hz => ?_⟩
  · rw [List.mem_singleton.mp hz]
    exact emp
  · rw [List.mem_singleton.mp hz]
    exact m.out
  · rw [List.mem_singleton.mp hz]
    exact PySem.W.codeHd_of_K X m.hd
end HD
/-! HD10: constants of the top that are tuples; in over flat items; isqrt. -/
namespace HD
open PySem PySem.Spec PyProof.Rows L2

mutual
/-- the written part holds this datum at v -/
def kD (K : PySem.W.Frag) : D → Value → Bool
  | .non, v => match v with
    | .none => true
    | _ => false
  | .bl b, v => match v with
    | .bool c => b == c
    | _ => false
  | .int i, v => match v with
    | .int j _ => i == j
    | _ => false
  | .str x, v => match v with
    | .str y _ => x == y
    | _ => false
  | .tup ds, v => match v with
    | .ref a => match K.lookup a with
      | some o => (match o.cls with
        | .type n => n == "tuple"
        | _ => false) && match o.data with
        | .seq its _ => decide (its.size ≤ 1000) && kDs K ds its.toList
        | _ => false
      | none => false
    | _ => false
  | _, _ => false
def kDs (K : PySem.W.Frag) : List D → List Value → Bool
  | [], vs => vs.isEmpty
  | d :: ds, vs => match vs with
    | v :: r => kD K d v && kDs K ds r
    | [] => false
end
mutual
theorem kD_is {K : PySem.W.Frag} : ∀ (d : D) (v : Value), kD K d v = true → ∃ u, RelV u v ∧ ∀ ι H, Is K ι H d u
  | .non, v, h => by
    unfold kD at h
    split at h
    · exact ⟨.non, rfl, fun _ _ => rfl⟩
    · cases h
  | .bl b, v, h => by
    unfold kD at h
    split at h
    · rename_i c
      have e : b = c := by simpa using h
      subst e
      exact ⟨.bl b, rfl, fun _ _ => rfl⟩
    · cases h
  | .int i, v, h => by
    unfold kD at h
    split at h
    · rename_i c t
      have e : i = c := by simpa using h
      subst e
      exact ⟨.int i, ⟨t, rfl⟩, fun _ _ => rfl⟩
    · cases h
  | .str i, v, h => by
    unfold kD at h
    split at h
    · rename_i c t
      have e : i = c := by simpa using h
      subst e
      exact ⟨.str i, ⟨t, rfl⟩, fun _ _ => rfl⟩
    · cases h
  | .tup ds, v, h => by
    unfold kD at h
    split at h
    · rename_i a
      split at h
      · rename_i o eo
        rw [Bool.and_eq_true] at h
        obtain ⟨h1, h2⟩ := h
        split at h1
        · rename_i n ec
          have en : n = "tuple" := by simpa using h1
          subst en
          split at h2
          · rename_i its nn ed
            rw [Bool.and_eq_true] at h2
            obtain ⟨xs, r, g⟩ := kDs_is ds its.toList h2.2
            exact ⟨.ref a, rfl, fun ι H => ⟨a, xs, rfl, .inr ⟨o, its, nn, eo, ec, ed, le_line (of_decide_eq_true h2.1), r⟩, g ι H⟩⟩
          · cases h2
        · cases h1
      · cases h
    · cases h
  | .ty _, _, h => by unfold kD at h; cases h
  | .adr _, _, h => by unfold kD at h; cases h
  | .ref _, _, h => by unfold kD at h; cases h
  | .ro _, _, h => by unfold kD at h; cases h
  | .exc _ _ _ _ _, _, h => by unfold kD at h; cases h
  | .lam _ _ _ _ _ _, _, h => by unfold kD at h; cases h
theorem kDs_is {K : PySem.W.Frag} : ∀ (ds : List D) (vs : List Value), kDs K ds vs = true → ∃ xs, Vals xs vs ∧ ∀ ι H, IsAll K ι H ds xs
  | [], vs, h => by
    unfold kDs at h
    have e : vs = [] := by simpa using h
    subst e
    exact ⟨[], .nil, fun _ _ => rfl⟩
  | d :: ds, vs, h => by
    unfold kDs at h
    split at h
    · rename_i v r
      rw [Bool.and_eq_true] at h
      obtain ⟨u, hu, gu⟩ := kD_is d v h.1
      obtain ⟨xs, hx, gx⟩ := kDs_is ds r h.2
      exact ⟨u :: xs, .cons hu hx, fun ι H => ⟨u, xs, rfl, gu ι H, gx ι H⟩⟩
    · cases h
end
section
variable {X : Cx} {W : WX} {pos : Pos}
/-- a constant of the module: a datum -/
theorem q_globD {x : Str} {d : D} {v : Value} (hg : Gl X x) (hm : X.mg x = some v) (hk : kD X.K d v = true) (hd : (x == ("__debug__" : Str)) = false := by decide) : QE X W (.Name x pos) (wC d) := by
  obtain ⟨u, hu, gu⟩ := kD_is d v hk
  exact ⟨_, pe_glob (v := u) hg hm hu hd, fun _ _ _ _ _ _ _ _ c h k => k.at c.rel (gu _ _) h⟩
/-- an int in a list or tuple of ints -/
def wInI : WO := fun d e μ P => match d with
  | .int i => ∃ ns : List Int, itemsOf μ e = some (ns.map D.int) ∧ P (.bl (ns.contains i)) μ
  | _ => False
theorem vals_ints {K : PySem.W.Frag} {ι : List Addr} {H : Hp} : ∀ {ns : List Int} {ys : List V}, IsAll K ι H (ns.map D.int) ys → ys = ns.map V.int
  | [], _, h => h
  | n :: ns, _, h => by
    obtain ⟨v, r, e, i, t⟩ := h
    have i' : v = .int n := i
    rw [e, i', vals_ints t]
    rfl
theorem inV_ints (i : Int) : ∀ ns : List Int, inV (.int i) (ns.map V.int) = ns.contains i
  | [] => rfl
  | n :: ns => by
    have ih := inV_ints i ns
    unfold inV at ih ⊢
    rw [List.map_cons, List.any_cons, ih, List.contains_cons]
    show ((n == i) || ns.contains i) = ((i == n) || ns.contains i)
    rw [show (n == i) = (i == n) from Bool.eq_iff_iff.mpr ⟨fun h => by simpa using (beq_iff_eq.mp h).symm, fun h => by simpa using (beq_iff_eq.mp h).symm⟩]
theorem flat_ints : ∀ ns : List Int, (ns.map V.int).all flatV = true
  | [] => rfl
  | n :: ns => by
    rw [List.map_cons, List.all_cons, flat_ints ns]
    rfl
theorem qo_inI : QO X (compareOp .In) wInI := ⟨_, op_in_seq, fun ι μ H x y d e P Q r i1 i2 h k => by
  unfold wInI at h
  split at h
  · rename_i i
    obtain ⟨ns, en, q⟩ := h
    obtain ⟨a, ys, ev, hq, ht⟩ := items_seq r i2 en
    have ey := vals_ints ht
    subst ey
    have ex : x = .int i := i1
    subst ex
    refine ⟨a, _, ev, ?_, rfl, flat_ints ns, ?_⟩
    · cases hk : isTup e with
      | true =>
        rw [hk] at hq
        exact .inr hq
      | false =>
        rw [hk] at hq
        exact .inl hq
    · rw [if_neg Bool.false_ne_true, inV_ints]
      exact k.at r (d := .bl _) rfl q
  · exact h.elim⟩
def wNotInI : WO := fun d e μ P => match d with
  | .int i => ∃ ns : List Int, itemsOf μ e = some (ns.map D.int) ∧ P (.bl (!ns.contains i)) μ
  | _ => False
/-- isqrt of an int that is not huge -/
def rIsqrt : List V → Hp → VK → Prop := fun vs H Q => ∃ a : Int, vs = [.int a] ∧ 0 ≤ a ∧ a.toNat.log2 < 9000 ∧ Q (.int ((Float64.isqrt a.toNat : Nat) : Int)) H
theorem cr_isqrt : CallR X (.builtin "math.isqrt") rIsqrt := by
  intro pins s σ H vs us Q I r h
  obtain ⟨a, rfl, h0, h1, q⟩ := h
  cases r with
  | cons r1 r2 =>
    cases r2
    obtain ⟨t, rfl⟩ := r1
    exact call_function_meets PySem.W.MGF.kind_isqrt PySem.W.MGF.plain_isqrt PySem.W.MGF.entry_isqrt (PySem.W.MGF.args_isqrt _) (PySem.W.mg_run_isqrt a t (by omega) (by omega) (by omega)).meets ⟨.int _, H, I.tok _, ⟨_, rfl⟩, q⟩
def wIsqrt : WB := fun ds μ P => ints1 (fun i => (0 ≤ i ∧ i < 2 ^ 8000) ∧ ∀ r : Int, 0 ≤ r → r * r ≤ i → i < (r + 1) * (r + 1) → P (.int r) μ) ds
theorem qb_isqrt : QB X (.builtin "math.isqrt") wIsqrt := ⟨_, cr_isqrt, fun ι μ H vs ds P Q r i h k => by
  obtain ⟨n, e, ⟨h0, h1⟩, q⟩ := ints1_of h
  subst e
  obtain ⟨v, e1, iv⟩ := isAll1 i
  have iv' : v = .int n := iv
  subst iv'
  have hlog : n.toNat.log2 < 9000 := by
    by_cases hz : n = 0
    · subst hz
      decide
    · have := (divOk (j := n) (by omega) h1).2
      rw [show n.natAbs = n.toNat by omega] at this
      exact this
  have sp := Float64.isqrt_spec n.toNat
  refine ⟨n, e1, h0, hlog, k.at r (d := .int _) rfl (q _ (Int.natCast_nonneg _) ?_ ?_)⟩
  · have := Int.ofNat_le.mpr sp.1
    rw [Int.natCast_mul] at this
    omega
  · have := Int.ofNat_lt.mpr sp.2
    rw [Int.natCast_mul, Int.natCast_add] at this
    have e : ((n.toNat : Nat) : Int) = n := by omega
    rw [e] at this
    exact this⟩
end

/-! ### defs with defaults -/
structure FunDf (K : PySem.W.Frag) (x qual : Str) (st : Stmt) (dds : List D) (f : Addr) (fd : FuncData) : Prop where
  ex : ∃ (oc : Value) (od : Option Addr) (dV kV doc pm : Value) (an : Option Addr) (cdv ct : Value) (osl : Array (Option Value)),
    fd = PySem.W.fnOf x qual (defArgs st) (defBody st) (defScope st) dV kV doc pm an cdv ct ∧ K.lookup f = some ⟨oc, od, .func fd, osl⟩ ∧ PySem.W.codeIn K cdv qual = true ∧ kD K (.tup dds) dV = true
  kp : PySem.W.keepIn K (.ref f) = true
theorem fnG_df {P : Program} {w : World} {K : PySem.W.Frag} {mg : Str → Option Value} {base : Heap} {x qual : Str} {st : Stmt} {dds : List D} {f : Addr} {fd : FuncData} {N ps : List Str} {k : Nat} {sp : Sp}
    (F : FunDf K x qual st dds f fd) (S : FnScope N ps (defScope st)) (hn : ∀ vs H Q E, sp vs H Q E → vs.length = ps.length)
    (body : ∀ (cdv : Value) (A : Around) (outer : List Env) (s : Shared) (H : Hp) (vs : List V) (Q : VK) (E : XK), A.guards = some [] → Room k (A.deeper (envOfC qual (defScope st) s.heap.objs.size f cdv)) → sp vs H Q E →
      ∃ t, PSs (cxOf (L2.CX P w) P w K mg base N qual (defScope st) f cdv A outer s H E) (defBody st) t ∧ t { nx := fun _ H' => Q .non H', rt := Q } (start N vs) H) :
    FnG P w K mg base (k + 1) f fd ps sp := by
  obtain ⟨oc, od, dV, kV, doc, pm, an, cdv, ct, osl, rfl, lk, hcd, _⟩ := F.ex
  refine ⟨hn, fun A outer s H args us vs Q E hgd hrm e0 hbind hvals hspec => ?_⟩
  have hlen : vs.length = ps.length := hn vs H Q E hspec
  have kin : K.In s.heap := fnG_of.Frag_keeps e0
  have nolim : s.heap.NoLimit := fnG_of.nolim_keeps e0
  have kinds : ∀ y ∈ ps.zip us, (defScope st).names.lookup y.1 = some .local ∨ ((defScope st).names.lookup y.1 = some .cell ∧
      ((cellsFrom (s.heap.objs.size + 1) (defScope st).names []).lookup y.1).isSome = true) := by
    intro y hy
    cases S.par y.1 (List.of_mem_zip (a := y.1) (b := y.2) hy).1 with
    | inl q => exact Or.inl q
    | inr q => exact Or.inr ⟨q, PySem.W.cellsFrom_some _ _ _ (Or.inl q)⟩
  have enter := hbind
  refine codeAny_call_function hrm.depth
    (kin _ _ lk) rfl S.co S.gen rfl
    (PySem.W.codeRec_of kin hcd) (enter _ _ _ _ ?_)
  refine wpAny_newFunctionEnv_cells S.kind kinds
    fun env' henv s' inC => ?_
  subst henv
  refine ⟨nolim.keeps inC.toInCall.keep, codeAny_func ?_⟩
  obtain ⟨t, hps, hstart⟩ := body cdv A outer s H vs Q E hgd (hrm.deeper _) hspec
  have inv0 := inv_start (CX := L2.CX P w) (P := P) (w := w) (K := K) (mg := mg) (base := base) (qual := qual) (f := f) (cd := cdv) (E := E) S hrm.hd e0 hlen hvals inC
  refine wpAny_mono (hps.run [] s' (start N vs) H _ inv0 hstart) (fun fl s2 hend => ?_) (fun _ _ z => z)
  match fl, hend with
  | .ret u, hend =>
    obtain ⟨v, σ2, H2, J, rv, q⟩ := hend
    exact ⟨v, H2, J.os, J.bare, J.base, J.hok, rv, q⟩
  | .next, hend =>
    obtain ⟨σ2, H2, J, q⟩ := hend
    exact ⟨.non, H2, J.os, J.bare, J.base, J.hok, (show RelV V.non Value.none from rfl), q⟩
  | .brk, hend =>
    obtain ⟨_, _, _, q⟩ := hend
    exact q.elim
  | .cont, hend =>
    obtain ⟨_, _, _, q⟩ := hend
    exact q.elim
theorem defDf {P : Program} {w : World} {K : PySem.W.Frag} {mg : Str → Option Value} {base : Heap} {x qual : Str} {st : Stmt} {dds : List D} {f : Addr} {fd : FuncData} {N ps : List Str} {k : Nat} {sp : SpD} {ws : WS}
    (F : FunDf K x qual st dds f fd) (S : FnScope N ps (defScope st)) (hl : ∀ ds μ Pd R, sp ds μ Pd R → ds.length = ps.length)
    (der : ∀ (cdv : Value) (A : Around) (outer : List Env) (s : Shared) (H : Hp) (E : XK), A.guards = some [] → Room k (A.deeper (envOfC qual (defScope st) s.heap.objs.size f cdv)) →
      QSs (cxOf (L2.CX P w) P w K mg base N qual (defScope st) f cdv A outer s H E) (fun cls d _ H => E cls d H) (defBody st) ws)
    (vc : ∀ ds μ Pd R, sp ds μ Pd R → ws (fun _ C fs μ' => R C fs μ') { nx := fun _ μ' => Pd .non μ', rt := Pd } (startD N.length ds) μ) : FnG P w K mg base (k + 1) f fd ps (spOf K sp) := by
  have hpl : ps.length ≤ N.length := by
    have := congrArg List.length S.pre
    rw [List.length_take] at this
    omega
  refine fnG_df F S (fun vs H Q E h => ?_) (fun cdv A outer s H vs Q E gd hr h => ?_)
  · obtain ⟨ι, μ, ds, Pd, R, r, i, q, _, _⟩ := h
    rw [i.length]
    exact hl _ _ _ _ q
  · obtain ⟨ι, μ, ds, Pd, R, r, i, q, kt, kx⟩ := h
    obtain ⟨t, h1, h2⟩ := der cdv A outer s H E gd hr
    refine ⟨t, h1, ?_⟩
    have env := env_start ds vs N (by rw [hl _ _ _ _ q]; exact hpl) i
    refine h2 (fun _ C fs μ' => R C fs μ') ι μ _ _ H _ _ ⟨r, env, ?_⟩ (vc ds μ Pd R q) ?_
    · exact fun ι' μ' δ' σ' H' C fs d s' r' e' hf z => kx C fs d ι' μ' H' s' r' hf z
    · exact ⟨fun ι' μ' H' δ' σ' s' r' e' z => kt .non .non ι' μ' H' s' r' rfl z, fun v d ι' μ' H' s' r' i' z => kt v d ι' μ' H' s' r' i' z, fun _ _ _ _ _ _ _ _ z => z.elim, fun _ _ _ _ _ _ _ _ z => z.elim⟩
/-- how a call binds that leaves out the last ones: dds fill up -/
def BdD (K : PySem.W.Frag) (fd : FuncData) (ps : List Str) (dds : List D) : Prop := ∃ (dvs : List V) (ds : List Value), Vals dvs ds ∧ (∀ ι H, IsAll K ι H dds dvs) ∧ Binds K fd ps ds
theorem bdD_of {K : PySem.W.Frag} {x qual : Str} {st : Stmt} {dds : List D} {f : Addr} {fd : FuncData} {ps : List Str} (F : FunDf K x qual st dds f fd) (n j : Nat) (hn : n + (dds.length - j) = ps.length)
    (h : ∀ (T : Addr) (kV doc pm : Value) (an : Option Addr) (cdv ct : Value) (us its : List Value), us.length = n → its.length = dds.length →
      ∃ k, bindArgs (PySem.W.fnOf x qual (defArgs st) (defBody st) (defScope st) (.ref T) kV doc pm an cdv ct) ⟨us, []⟩ = seqItems? (.ref T) >>= k ∧ k (some its.toArray) = pure (ps.zip (us ++ its.drop j))) : BdD K fd ps (dds.drop j) := by
  obtain ⟨oc, od, dV, kV, doc, pm, an, cdv, ct, osl, rfl, lk, hcd, hk⟩ := F.ex
  unfold kD at hk
  split at hk
  · rename_i T
    split at hk
    · rename_i o lT
      rw [Bool.and_eq_true] at hk
      have hk2 := hk.2
      split at hk2
      · rename_i its nn ed
        rw [Bool.and_eq_true] at hk2
        obtain ⟨xs, r, g⟩ := kDs_is dds its.toList hk2.2
        refine ⟨xs.drop j, its.toList.drop j, r.drop j, fun ι H => (g ι H).drop j, fun s us X hlen => ?_⟩
        have l1 : its.toList.length = dds.length := r.length.symm.trans (g [] fun _ => none).length
        have l2 : us.length = n := by
          rw [List.length_append, List.length_drop, l1] at hlen
          omega
        obtain ⟨k, e1, e2⟩ := h T kV doc pm an cdv ct us its.toList l2 l1
        refine BindsTo.of_looks fun M => ?_
        rw [e1]
        exact looks_items X lT ed (.of_pure (by simpa using e2))
      · cases hk2
    · cases hk
  · cases hk
section
variable {X : Cx} {W : WX} {k : Nat} {f : Addr} {fd : FuncData} {ps : List Str} {sp : Sp} {x : Str} {p pos : Pos} {e : Expr} {es : List Expr} {t : TA} {E : L2.St → XK}
def tCallD (sp : Sp) (dvs : List V) (E : L2.St → XK) (t : TA) : TE := fun σ H Q => t σ H fun vs H1 => sp (vs ++ dvs) H1 Q (E σ)
theorem pe_callGd {ds : List Value} {dvs : List V} (F : FnG X.prog X.w X.K X.mg X.base k f fd ps sp) (gd : X.A.guards = some []) (hr : Room k X.A) (hg : Gl X x) (hm : X.mg x = some (.ref f)) (hk : PySem.W.keepIn X.K (.ref f) = true) (hb : Binds X.K fd ps ds) (hd : Vals dvs ds)
    (hx : ∀ σ, PassesAt (L2.CX X.prog X.w) X σ (E σ)) (ha : PA X (e :: es) t) (hdb : (x == ("__debug__" : Str)) = false := by decide)
    (he : starEach (e :: es) X.env = (false, eval e X.env) :: starEach es X.env := by rfl) (hpl : (backTo pos (starEach es X.env)).any (·.1) = false := by rfl) :
    PE X (.Call (.Name x p) (e :: es) [] pos) (tCallD sp dvs E t) := by
  refine ⟨fun pins s σ H Q I h => ?_⟩
  refine wpAny_Call_Name_kw (ld_glob I hg hm ?_ hdb)
  have args := ha.run pos pins s σ H _ I h
  refine PySem.W.callWith_K (h₀ := X.base) I.ok.mod.kin hk (thn args ?_) he hpl
  intro us s1 hq
  obtain ⟨vs, H1, I1, r, q⟩ := hq
  refine ⟨I1.kIn, ?_⟩
  have rr : Vals (vs ++ dvs) (us ++ ds) := r.append hd
  have hl : (us ++ ds).length = ps.length := rr.length.symm.trans (F.len _ _ _ _ q)
  exact runG F gd hr (hx σ) I1 (hb s1 us I1.kIn hl) rr q
def catD : List D → List D → List D
  | [], es => es
  | d :: r, es => d :: catD r es
theorem catD_eq : ∀ ds es : List D, catD ds es = ds ++ es
  | [], _ => rfl
  | d :: r, es => by rw [catD, catD_eq r es, List.cons_append]
def wCallD (sp : SpD) (dds : List D) (wa : WA) : WE := fun R δ μ P => wa R δ μ fun ds μ1 => sp (catD ds dds) μ1 P fun C fs μ2 => R δ C fs μ2
theorem q_callD {sp : SpD} {dds : List D} {wa : WA} (F : FnG X.prog X.w X.K X.mg X.base k f fd ps (spOf X.K sp)) (gd : X.A.guards = some []) (hr : Room k X.A) (hg : Gl X x) (hm : X.mg x = some (.ref f)) (hk : PySem.W.keepIn X.K (.ref f) = true) (hb : BdD X.K fd ps dds)
    (tk : Takes X W) (ha : QA X W (e :: es) wa) (hdb : (x == ("__debug__" : Str)) = false := by decide)
    (he : starEach (e :: es) X.env = (false, eval e X.env) :: starEach es X.env := by rfl) (hpl : (backTo pos (starEach es X.env)).any (·.1) = false := by rfl) :
    QE X W (.Call (.Name x p) (e :: es) [] pos) (wCallD sp dds wa) := by
  obtain ⟨t, h1, h2⟩ := ha
  obtain ⟨dvs, ds, hv, hi, hb⟩ := hb
  refine ⟨_, pe_callGd (E := L2.WE W) F gd hr hg hm hk hb hv (fun σ => passAt tk σ) h1 hdb he hpl, fun R ι μ δ σ H P Q c h kt => ?_⟩
  exact h2 R ι μ δ σ H _ _ c h fun vs ds' ι1 μ1 H1 s1 r1 i1 q1 => ⟨ι1, μ1, catD ds' dds, P, _, r1, by rw [catD_eq]; exact i1.app (hi ι1 H1), q1, kt.stp s1, ktx_of (μ' := μ1) c.xl c.env s1⟩
end
/-- such a def of the top, as the head leaves it -/
structure FnTd (K : PySem.W.Frag) (mg : Str → Option Value) (x : Str) (st : Stmt) (dds : List D) where
  a : Addr
  fd : FuncData
  fn : FunDf K x x st dds a fd
  gl : mg x = some (.ref a)
theorem fundf_mk {K : PySem.W.Frag} {x qual : Str} {st : Stmt} {dds : List D} {f : Addr} {oc : Value} {od : Option Addr} {dV kV doc pm : Value} {an : Option Addr} {cdv ct : Value} {osl : Array (Option Value)}
    (lk : K.lookup f = some ⟨oc, od, .func (PySem.W.fnOf x qual (defArgs st) (defBody st) (defScope st) dV kV doc pm an cdv ct), osl⟩) (hc : PySem.W.codeIn K cdv qual = true) (hd : kD K (.tup dds) dV = true) (kp : PySem.W.keepIn K (.ref f) = true) : FunDf K x qual st dds f (PySem.W.fnOf x qual (defArgs st) (defBody st) (defScope st) dV kV doc pm an cdv ct) :=
  ⟨⟨oc, od, dV, kV, doc, pm, an, cdv, ct, osl, rfl, lk, hc, hd⟩, kp⟩
end HD
/-! HD11: sets of ints made of lists, sorted; &; any, tuple, sorted. -/
namespace HD
open PySem PySem.Spec PyProof.Rows L2
section
variable {P : Program} {w : World} {A : Around} {E : Value → Shared → Prop} {s : Shared}
/-- an empty set as it is made -/
abbrev so0 (w : World) : Obj := { cls := .type "set", dict := none, data := .set #[] 0 (.fresh 0 0 (!w.params.followText "set-order")) }
/-- the heap behind its making -/
abbrev hp1 (w : World) (s : Shared) : Heap := s.heap.push (so0 w)
abbrev n0 (s : Shared) : Addr := s.heap.objs.size
/-- what stands behind the filling -/
def Filled (w : World) (s : Shared) (ns : List Int) (v : Value) (z : Shared) : Prop := v = .none ∧ ∃ h' tk c, z = { s with heap := h', toks := tk } ∧ SetR w h' (n0 s) (fun j => decide (j ∈ ns)) c ∧ c ≤ ns.length ∧
  ∀ b o, s.heap.get? b = some o → h'.get? b = some o
theorem set_fill {l : Addr} {its : Array Value} {ns : List Int} {B : Around} (hh : B.in1.in1.handled = none) (hl : s.heap.IsList l its) (hit : IntsAre its.toList ns) (hb : ns.length + 1 < scanBound) :
    wpAny (model P w) B.in1 (Builtin.«set.__init__» ⟨[.ref (n0 s), .ref l], []⟩) (fun f z => ∃ v, f = .done (.ret v) ∧ Filled w s ns v z) E { s with heap := hp1 w s } := by
  have hisz : its.size = ns.length := by
    rw [← Array.length_toList]
    exact IntsAre.length hit
  have hS : (hp1 w s).get? (n0 s) = some (so0 w) := Heap.get?_push_size _ rfl
  have hT : Shared.TypeIs { s with heap := hp1 w s } (.ref (n0 s)) "set" := ⟨_, hS, rfl⟩
  obtain ⟨⟨oc, odi, oda, osl⟩, hol, hc, nl, hd⟩ := hl
  simp only at hc hd
  subst hc hd
  have hol' : (hp1 w s).get? l = some ⟨.type "list", odi, .seq its nl, osl⟩ := Heap.get?_push_of_some _ hol
  have z1 := F.sub_list_set
  have z2 := F.sub_list_frozenset
  have z3 : (Value.type "list" == Value.type "dict") = false := by decide
  have hl1 : (hp1 w s).IsList l its := ⟨_, hol', rfl, nl, rfl⟩
  unfold Builtin.«set.__init__» noKeywords Builtin.Frozenset.updateFrom
  generalize hPI : pyIter = PI
  wp_walk
  subst hPI
  refine wpAny_pyIter_list hl1 ?_
  refine wpAny_bind (wpAny_runValue ?_)
  have lt0 : l < n0 s := Heap.lt_size hol
  have sz1 : (hp1 w s).objs.size = n0 s + 1 := Heap.size_push ..
  have ne1 : l ≠ (hp1 w s).objs.size := by
    rw [sz1]
    exact Nat.ne_of_lt (Nat.lt_succ_of_lt lt0)
  have off : n0 s ∉ [(hp1 w s).objs.size, l] := by
    rw [sz1]
    intro z
    rcases List.mem_cons.mp z with z | z
    · exact absurd z (Nat.ne_of_lt (Nat.lt_succ_self _))
    · exact absurd (List.mem_singleton.mp z) (Nat.ne_of_gt lt0)
  have item : ∀ (i : Nat) (v : Value), its[i]? = some v → ∃ k t, ns[i]? = some k ∧ v = .int k t := fun i v hv => by
    have hi : i < ns.length := by
      rw [← hisz]
      exact (Array.getElem?_eq_some_iff.mp hv).1
    obtain ⟨t, e⟩ := IntsAre.int_at hit i v (by rw [Array.getElem?_toList]; exact hv)
    refine ⟨ns[i], t, List.getElem?_eq_getElem hi, ?_⟩
    rw [e, List.getD_eq_getElem?_getD, List.getElem?_eq_getElem hi]
    rfl
  refine set_update_ints (P := P) (w := w) ((Walks.list (A := B.in1.in1) hh _ l ne1 its).toS) (n0 s) off ns hisz hb item (its.size - 0) 0 _ (by omega) (Nat.zero_le _) ⟨⟨_, Heap.get?_push_size _ rfl, rfl, rfl⟩, hl1.push _⟩ ?hA ?hB
  case hA =>
    refine ⟨0, Nat.le_refl 0, setR_new_at (Heap.get?_push_of_some _ hS)⟩
  case hB =>
    intro z c hm hc hz
    obtain ⟨hz', gz, dz, tz, oz⟩ := z
    have e1 : gz = s.gens := hm.gens
    have e2 : dz = s.drawn := hm.drawn
    have e3 : oz = s.os := hm.os
    subst e1 e2 e3
    refine wpAny_pure ?_
    show wpAny _ _ (ret Value.none) _ _ _
    rw [hisz] at hc
    refine wpAny_pure ⟨.none, rfl, rfl, hz', tz, c, rfl, hz, hc, fun b o e => ?_⟩
    have lb : b < n0 s := Heap.lt_size e
    refine hm.heap b o (fun m => ?_) (Heap.get?_push_of_some _ (Heap.get?_push_of_some _ e))
    rcases List.mem_cons.mp m with m | m
    · exact absurd m (Nat.ne_of_lt lb)
    · have m' := List.mem_singleton.mp m
      rw [sz1] at m'
      exact absurd m' (Nat.ne_of_lt (Nat.lt_succ_of_lt lb))
theorem set_of_list {l : Addr} {its : Array Value} {ns : List Int} {Q : Value → Shared → Prop} (hh : A.handled = none) (hl : s.heap.IsList l its) (hit : IntsAre its.toList ns) (hb : ns.length + 1 < scanBound)
    (hQ : ∀ (h' : Heap) (tk c : Nat), SetR w h' (n0 s) (fun j => decide (j ∈ ns)) c → c ≤ ns.length → (∀ b o, s.heap.get? b = some o → h'.get? b = some o) → Q (.ref (n0 s)) { s with heap := h', toks := tk }) :
    wpAny (model P w) A (call (.type "set") [.ref l]) Q E s := by
  obtain ⟨c0, tl0, m1⟩ := F.called_set.mro
  have m2 := F.called_set.made
  have m3 := F.called_set.sub
  have m4 := F.called_set.notType
  have m5 := F.called_set.canCreate
  have m6 := F.typeCall_set_1 (.ref l)
  refine wpAny_call (codeAny_of_tree ?_)
  show wpAny _ _ (callAny (.type "set") _) _ _ _
  refine wpAny_pure ⟨Code.quiet_builtin _ (by decide +kernel), codeAny_builtin F.entry_type_call ?_⟩
  rw [Around.under_plain (weight_type_call_type "set" [.ref l] []) rfl]
  repeat (any_goals (first | assumption | wp_step))
  refine codeAny_mono (code_set_led1 (.ref l) (E := E) (Q₁ := fun v z => v = .ref (n0 s) ∧ z = { s with heap := hp1 w s }) ⟨rfl, rfl⟩) fun r z hr => ?_
  match r, hr with
  | .error e, hr => exact hr
  | .ok .next, hr => exact hr.elim
  | .ok .brk, hr => exact hr.elim
  | .ok .cont, hr => exact hr.elim
  | .ok (.ret v), hr =>
    obtain ⟨ev, ez⟩ := hr
    subst ev ez
    have hS : (hp1 w s).get? (n0 s) = some (so0 w) := Heap.get?_push_size _ rfl
    have hT : Shared.TypeIs { s with heap := hp1 w s } (.ref (n0 s)) "set" := ⟨_, hS, rfl⟩
    have m7 := F.called_set.init.lookup
    have m8 := F.called_set.init.bind (.ref (n0 s))
    repeat (any_goals (first | assumption | wp_step))
    refine codeAny_mono (codeAny_call_builtin (R := wants (Filled w s ns) E) F.called_set.init.plain F.entry_set_init (check_set_init_1 hT ?_)) fun r2 z2 hr2 => ?_
    · refine wpAny_mono (set_fill hh hl hit hb) (fun f z' hf => ?_) fun _ _ h => h
      obtain ⟨u, ef, hu⟩ := hf
      subst ef
      exact hu
    · match r2, hr2 with
      | .error e, hr2 => exact hr2
      | .ok .next, hr2 => exact hr2.elim
      | .ok .brk, hr2 => exact hr2.elim
      | .ok .cont, hr2 => exact hr2.elim
      | .ok (.ret u), hr2 =>
        obtain ⟨eu, h', tk, c, ez, g1, g2, g3⟩ := hr2
        subst eu ez
        repeat (any_goals (first | assumption | wp_step))
        exact hQ h' tk c g1 g2 g3
end
section
variable {X : Cx} {W : WX}
/-- set(xs), xs a list of ints -/
def rSetI (K : PySem.W.Frag) (w : World) : List V → Hp → VK → Prop := fun vs H Q => ∃ (l : Addr) (ns : List Int), vs = [.ref l] ∧ SqL K H l (ns.map V.int) ∧ ns.length ≤ 1000 ∧ ∀ p c, H p = none → c ≤ ns.length → Q (.ref p) (upd H p (SetO w p (fun j => decide (j ∈ ns)) c))
theorem ints_vals : ∀ {ns : List Int} {us : List Value}, Vals (ns.map V.int) us → IntsAre us ns
  | [], _, .nil => .nil
  | n :: ns, _, .cons r t => by
    obtain ⟨k, rfl⟩ := r
    exact .cons n k (ints_vals t)
theorem cr_setI (hc : X.calm = true) : CallR X (.type "set") (rSetI X.K X.w) := by
  intro pins s σ H vs us Q I r h
  obtain ⟨l, ns, rfl, hq, hl, q⟩ := h
  rw [Vals.ref1 r]
  obtain ⟨its, rv, pl, hz⟩ := I.list hq
  refine set_of_list (I.ok.hd hc) pl.isList (by simpa using ints_vals rv) (by unfold scanBound; omega) fun h' tk c R hcl hk => ?_
  exact ⟨.ref (n0 s), _, I.laid (t' := tk) hk (Nat.le_refl _) (setO_new R), rfl, q _ c (I.hok.fresh (Nat.le_refl _)) hcl⟩
/-- sorted(set(xs)), fewer than 64 of them -/
def wSortSet (wa : WE) : WE := fun R δ μ P => wa R δ μ fun d μ1 => ∃ ns : List Int, isTup d = false ∧ itemsOf μ1 d = some (ns.map D.int) ∧ ns.length < 64 ∧ ∀ ms : List Int, ms.Pairwise (· < ·) → (∀ k, k ∈ ms ↔ k ∈ ns) → P (.ref μ1.length) (μ1 ++ [.lst (ms.map D.int)])
theorem q_sortSet {a : Expr} {wa : WE} {p p2 q pos : Pos} (hc : X.calm = true) (hg : Gl X "sorted") (hm : X.mg "sorted" = none) (hg2 : Gl X "set") (hm2 : X.mg "set" = none) (hv : bootBuiltins "sorted" = some (.builtin "sorted")) (hv2 : bootBuiltins "set" = some (.type "set")) (ha : QE X W a wa)
    (na : starEach [a] X.env = (false, eval a X.env) :: starEach [] X.env := by rfl) (nb : (backTo q (starEach [] X.env)).any (·.1) = false := by rfl)
    (nc : starEach [.Call (.Name "set" p2) [a] [] q] X.env = (false, eval (.Call (.Name "set" p2) [a] [] q) X.env) :: starEach [] X.env := by rfl) (nd : (backTo pos (starEach [] X.env)).any (·.1) = false := by rfl) :
    QE X W (.Call (.Name "sorted" p) [.Call (.Name "set" p2) [a] [] q] [] pos) (wSortSet wa) := by
  obtain ⟨t, a1, a2⟩ := ha
  refine ⟨_, pe_callB (cr_sortedSet hc) hg hm hv (pa_cons (pe_callTy (cr_setI hc) hg2 hm2 hv2 (pa_cons a1 pa_nil na) (by decide) (by decide) na nb) pa_nil nc) (by decide) (by decide) nc nd, fun R ι μ δ σ H P Q c h k => ?_⟩
  refine a2 R ι μ δ σ H _ _ c h fun v d ι1 μ1 H1 s1 r1 i1 q1 => ?_
  obtain ⟨ns, ht, hi, hl, q⟩ := q1
  obtain ⟨l, ys, ev, hq, hy⟩ := items_seq r1 i1 hi
  rw [ht] at hq
  have ey := vals_ints hy
  subst ey
  refine ⟨l, ns, by rw [ev], hq, by omega, fun b n hb hn => ?_⟩
  refine ⟨b, _, n, rfl, upd_same, by omega, fun ms b2 hs hmem _ hb2 => ?_⟩
  have s2 : Stp ι1 H1 ι1 (upd H1 b (SetO X.w b (fun j => decide (j ∈ ns)) n)) := Stp.new hb
  have r2 : Rel X.K ι1 μ1 (upd H1 b (SetO X.w b (fun j => decide (j ∈ ns)) n)) := r1.new hb
  exact (k.stp s1) (.ref b2) (.ref μ1.length) (ι1 ++ [b2]) _ _ (s2.trans (Stp.push hb2)) (r2.pushLst hb2 (isAll_ints ms)) (is_pushed r2) (q ms hs fun j => (hmem j).trans decide_eq_true_iff)
/-- & -/
def wBand : WO := wI0 fun i j => .int (Builtin.bitAnd i j)
/-- tuple of a list, of a tuple -/
def wTupOf : WB := fun ds μ P => match ds with
  | [d] => ∃ xs, itemsOf μ d = some xs ∧ P (.tup xs) μ
  | _ => False
end
/-! ### the lowest bit -/
/-! ### statements of their own: y = [..]; x, y, z = a, b, c -/
section
variable {X : Cx} {W : WX} {pos p spos : Pos} {elt iter : Expr} {ifs : List Expr} {scope : Scope} {x : Str} {i : Nat} {wt : WT} {we : WE}
def wPar3 (i j l : Nat) (wa : WA) : WS := fun R E δ μ => wa R δ μ fun ds μ1 => match ds with
  | [d, f, g] => E.nx (put (put (put δ i (some d)) j (some f)) l (some g)) μ1
  | _ => False
theorem qs_par3 {i j l : Nat} {x y z : Str} {a b c : Expr} {wa : WA} {px py pz pt : Pos} {kt k2 pt2} (hc : X.calm = true) (hN : X.N.Nodup) (hi : X.N[i]? = some x) (hj : X.N[j]? = some y) (hl : X.N[l]? = some z) (hij : i ≠ j) (hil : i ≠ l) (hjl : j ≠ l)
    (hx : X.env.scope.names.lookup x = some .local) (hy : X.env.scope.names.lookup y = some .local) (hz : X.env.scope.names.lookup z = some .local) (ha : QA X W [a, b, c] wa)
    (hw : swappedStores [.Tuple [.Name x px, .Name y py, .Name z pz] kt pt] (.Tuple [a, b, c] k2 pt2) X.env = pure (some [x, y, z]))
    (hs : swapsWithSole [.Tuple [.Name x px, .Name y py, .Name z pz] kt pt] (.Tuple [a, b, c] k2 pt2) pos.line X.env = pure false := by rfl) :
    QS X W (.Assign [.Tuple [.Name x px, .Name y py, .Name z pz] kt pt] (.Tuple [a, b, c] k2 pt2) pos) (wPar3 i j l wa) := by
  obtain ⟨t, a1, a2⟩ := ha
  refine ⟨_, ps_par3 hc hN hi hj hl hij hil hjl hx hy hz a1 hw hs, fun R ι μ δ σ H E D cn h lk => a2 R ι μ δ σ H _ _ cn h fun vs ds ι1 μ1 H1 s1 r1 i1 q1 => ?_⟩
  unfold wPar3 at h
  match ds, i1, q1 with
  | [d, f, g], i1, q1 =>
    obtain ⟨v, u, w, e1, iv, iu, iw⟩ := isAll3 i1
    exact ⟨v, u, w, e1, lk.nx ι1 μ1 H1 _ _ s1 r1 ((((cn.env.stp s1).put iv).put iu).put iw) q1⟩
  | [], _, q1 => exact q1.elim
  | [_], _, q1 => exact q1.elim
  | [_, _], _, q1 => exact q1.elim
  | _ :: _ :: _ :: _ :: _, _, q1 => exact q1.elim
end
end HD
/-! HD12: comprehensions over range(a, b); max and min of lists and tuples. -/
namespace HD
open PySem PySem.Spec PyProof.Rows L2
section
variable {X : Cx} {W : WX} {pos p spos : Pos} {elt iter : Expr} {ifs : List Expr} {scope : Scope} {x : Str} {i : Nat} {wt : WT} {we : WE}
/-! max of a tuple of ints -/
end
end HD
/-! HD13: comprehensions whose target is a tuple of names. -/
namespace HD
open PySem PySem.Spec PyProof.Rows L2
def sets : L2.St → List Nat → List V → L2.St
  | σ, i :: is, v :: vs => sets (σ.set i (some v)) is vs
  | σ, _, _ => σ
def gNames : List Nat → TGs
  | [] => gNil
  | i :: is => gCons (gName i) (gNames is)
section
variable {X : Cx} {W : WX} {pos p spos : Pos} {elt iter : Expr} {ifs : List Expr} {scope : Scope} {own : List (Str × Nat)} {is : List Nat} {n : Nat} {wt : WT} {we : WE}
/-- the names of a target, each with its slot -/
inductive TNs (X : Cx) : List Expr → List Nat → Prop
  | nil : TNs X [] []
  | cons {x : Str} {i : Nat} {p : Pos} {es : List Expr} {is : List Nat} : PG X (.Name x p) (gName i) → TNs X es is → TNs X (.Name x p :: es) (i :: is)
theorem TNs.pg {X : Cx} : ∀ {es : List Expr} {is : List Nat}, TNs X es is → PGs X es (gNames is) ∧ (assignEach es X.env).length = is.length ∧ (assignEach es X.env).findIdx? (·.1) = none
  | _, _, .nil => ⟨pgs_nil, rfl, rfl⟩
  | _, _, .cons h t => by
    obtain ⟨a, b, c⟩ := t.pg
    refine ⟨pgs_cons h a (by rfl), ?_, ?_⟩
    · show (assignEach _ X.env).length + 1 = _
      rw [b]
      rfl
    · show (List.findIdx? _ (_ :: assignEach _ X.env)) = none
      rw [List.findIdx?_cons]
      simp [c]
end
/-! xs[::-1], a list -/
end HD
/-! HD14: defs that call themselves; shifts of any size. -/
namespace HD
open PySem PySem.Spec PyProof.Rows L2

/-- nothing is promised -/
def spNone : SpD := fun _ _ _ _ => False
theorem fnG_none {P : Program} {w : World} {K : PySem.W.Frag} {mg : Str → Option Value} {base : Heap} {k : Nat} {f : Addr} {fd : FuncData} {ps : List Str} : FnG P w K mg base k f fd ps (spOf K spNone) :=
  ⟨fun _ _ _ _ ⟨_, _, _, _, _, _, _, z, _⟩ => z.elim, fun _ _ _ _ _ _ _ _ _ _ _ _ _ _ ⟨_, _, _, _, _, _, _, z, _⟩ => z.elim⟩
/-- what a def's own call promises, one turn deeper -/
def recS (s : Nat → SpD) : Nat → SpD
  | 0 => spNone
  | d + 1 => s d
section
variable {X : Cx}
def wShr : WO := wI (fun _ j => 0 ≤ j) fun i j => .int (i / 2 ^ j.toNat)
theorem qo_shr : QO X (binaryOp .RShift) wShr := ⟨_, op_shr, ro_I⟩
def wShlW : WO := wI CShl fun i j => .int (i * 2 ^ j.toNat)
theorem qo_shlW : QO X (binaryOp .LShift) wShlW := ⟨_, op_shlW, ro_I⟩
end
/-! ### what a def leaves behind and no one can reach is forgotten -/
mutual
/-- places of the store that a datum names lie below n -/
def low (n : Nat) : D → Bool
  | .ref k => decide (k < n)
  | .tup ds => lowAll n ds
  | .ro ds => lowAll n ds
  | .exc _ _ _ _ ds => lowAll n ds
  | .lam _ _ _ _ _ ds => lowAll n ds
  | .non => true
  | .bl _ => true
  | .int _ => true
  | .str _ => true
  | .ty _ => true
  | .adr _ => true
def lowAll (n : Nat) : List D → Bool
  | [] => true
  | d :: ds => low n d && lowAll n ds
end
section
variable {K : PySem.W.Frag} {ι ι' : List Addr} {H H' : Hp}
mutual
theorem Is.low : ∀ (d : D) (v : V), Is K ι H d v → low ι.length d = true
  | .ref k, _, h => by
    obtain ⟨a, e, _⟩ := h
    exact decide_eq_true (List.getElem?_eq_some_iff.mp e).1
  | .tup ds, _, h => by
    obtain ⟨a, xs, _, _, r⟩ := h
    exact IsAll.low ds xs r
  | .ro ds, _, h => by
    obtain ⟨a, xs, _, _, r⟩ := h
    exact IsAll.low ds xs r
  | .exc _ _ _ _ ds, _, h => by
    obtain ⟨_, vs, _, _, r⟩ := h
    exact IsAll.low ds vs r
  | .lam _ _ _ _ _ ds, _, h => by
    obtain ⟨_, _, _, _, vs, r, _⟩ := h
    exact IsAll.low ds vs r
  | .non, _, _ => rfl
  | .bl _, _, _ => rfl
  | .int _, _, _ => rfl
  | .str _, _, _ => rfl
  | .ty _, _, _ => rfl
  | .adr _, _, _ => rfl
theorem IsAll.low : ∀ (ds : List D) (xs : List V), IsAll K ι H ds xs → lowAll ι.length ds = true
  | [], _, _ => rfl
  | d :: ds, _, h => by
    obtain ⟨v, r, _, q, t⟩ := h
    exact Bool.and_eq_true_iff.mpr ⟨Is.low d v q, IsAll.low ds r t⟩
end
mutual
theorem Is.down (s : ∀ (k : Nat) (a : Addr), ι'[k]? = some a → k < ι.length → ι[k]? = some a) : ∀ (d : D) (v : V), HD.low ι.length d = true → Is K ι' H d v → Is K ι H d v
  | .ref k, _, l, h => by
    obtain ⟨a, e, q⟩ := h
    exact ⟨a, s k a e (of_decide_eq_true l), q⟩
  | .tup ds, _, l, h => by
    obtain ⟨a, xs, e, q, r⟩ := h
    exact ⟨a, xs, e, q, IsAll.down s ds xs l r⟩
  | .ro ds, _, l, h => by
    obtain ⟨a, xs, e, q, r⟩ := h
    exact ⟨a, xs, e, q, IsAll.down s ds xs l r⟩
  | .exc _ _ _ _ ds, _, l, h => by
    obtain ⟨e, vs, q, z, r⟩ := h
    exact ⟨e, vs, q, z, IsAll.down s ds vs l r⟩
  | .lam _ _ _ _ _ ds, _, l, h => by
    obtain ⟨e, q, l1, l2, vs, r, t⟩ := h
    exact ⟨e, q, l1, l2, vs, IsAll.down s ds vs l r, t⟩
  | .non, _, _, h => h
  | .bl _, _, _, h => h
  | .int _, _, _, h => h
  | .str _, _, _, h => h
  | .ty _, _, _, h => h
  | .adr _, _, _, h => h
theorem IsAll.down (s : ∀ (k : Nat) (a : Addr), ι'[k]? = some a → k < ι.length → ι[k]? = some a) : ∀ (ds : List D) (xs : List V), lowAll ι.length ds = true → IsAll K ι' H ds xs → IsAll K ι H ds xs
  | [], _, _, h => h
  | d :: ds, _, l, h => by
    obtain ⟨v, r, e, q, t⟩ := h
    obtain ⟨l1, l2⟩ := Bool.and_eq_true_iff.mp l
    exact ⟨v, r, e, Is.down s d v l1 q, IsAll.down s ds r l2 t⟩
end
theorem Stp.back (s : Stp ι H ι' H') : ∀ (k : Nat) (a : Addr), ι'[k]? = some a → k < ι.length → ι[k]? = some a := fun k a e l => by
  have e1 : ι[k]? = some ι[k] := List.getElem?_eq_getElem l
  have e2 := s.ext k _ e1
  rw [e] at e2
  rw [e1, e2]
/-- all cells stand -/
def ExtS (μ μ' : Sto) : Prop := ∀ k o, cell μ k = some o → cell μ' k = some o
theorem Rel.forget {μ μ' : Sto} (r : Rel K ι μ H) (r' : Rel K ι' μ' H') (s : Stp ι H ι' H') (e : ExtS μ μ') : Rel K ι μ H' :=
  ⟨r.len, r.inj, fun k o hc => by
    obtain ⟨a, ea, q⟩ := r.at_ k o hc
    obtain ⟨a', ea', q'⟩ := r'.at_ k o (e k o hc)
    have := s.ext k a ea
    rw [ea'] at this
    cases this
    refine ⟨a, ea, ?_⟩
    cases o with
    | lst ds =>
      obtain ⟨xs, _, i⟩ := q
      obtain ⟨xs', e', i'⟩ := q'
      exact ⟨xs', e', IsAll.down s.back ds xs' (IsAll.low ds xs i) i'⟩
    | tab p q => exact q'
    | ins C fs =>
      obtain ⟨dx, xs, _, i⟩ := q
      obtain ⟨dx', xs', e', i'⟩ := q'
      exact ⟨dx', xs', e', IsAll.down s.back _ xs' (IsAll.low _ xs i) i'⟩
    | dct kvs =>
      obtain ⟨xs, _, i⟩ := q
      obtain ⟨xs', e', i'⟩ := q'
      exact ⟨xs', e', IsAll.down s.back _ xs' (IsAll.low _ xs i) i'⟩⟩
end
/-- a def that leaves the store as it found it, but for what no one can reach -/
theorem defDp {P : Program} {w : World} {K : PySem.W.Frag} {mg : Str → Option Value} {base : Heap} {x qual : Str} {st : Stmt} {f : Addr} {fd : FuncData} {N ps : List Str} {k : Nat} {sp : SpD} {ws : WS}
    (F : Fun K x qual st f fd) (S : FnScope N ps (defScope st)) (hl : ∀ ds μ Pd R, sp ds μ Pd R → ds.length = ps.length)
    (der : ∀ (cdv : Value) (A : Around) (outer : List Env) (s : Shared) (H : Hp) (E : XK), A.guards = some [] → Room k (A.deeper (envOfC qual (defScope st) s.heap.objs.size f cdv)) →
      QSs (cxOf (L2.CX P w) P w K mg base N qual (defScope st) f cdv A outer s H E) (fun cls d _ H => E cls d H) (defBody st) ws)
    (vc : ∀ ds μ Pd R, sp ds μ Pd R → ws (fun _ C fs μ' => R C fs μ') { nx := fun _ μ' => ExtS μ μ' ∧ Pd .non μ, rt := fun d μ' => ExtS μ μ' ∧ low μ.length d = true ∧ Pd d μ } (startD N.length ds) μ) : FnG P w K mg base (k + 1) f fd ps (spOf K sp) := by
  have hpl : ps.length ≤ N.length := by
    have := congrArg List.length S.pre
    rw [List.length_take] at this
    omega
  refine fnG_of F S (fun vs H Q E h => ?_) (fun cdv A outer s H vs Q E gd hr h => ?_)
  · obtain ⟨ι, μ, ds, Pd, R, r, i, q, _, _⟩ := h
    rw [i.length]
    exact hl _ _ _ _ q
  · obtain ⟨ι, μ, ds, Pd, R, r, i, q, kt, kx⟩ := h
    obtain ⟨t, h1, h2⟩ := der cdv A outer s H E gd hr
    refine ⟨t, h1, ?_⟩
    have env := env_start ds vs N (by rw [hl _ _ _ _ q]; exact hpl) i
    refine h2 (fun _ C fs μ' => R C fs μ') ι μ _ _ H _ _ ⟨r, env, ?_⟩ (vc ds μ Pd R q) ?_
    · exact fun ι' μ' δ' σ' H' C fs d s' r' e' hf z => kx C fs d ι' μ' H' s' r' hf z
    · refine ⟨fun ι' μ' H' δ' σ' s' r' e' z => ?_, fun v d ι' μ' H' s' r' i' z => ?_, fun _ _ _ _ _ _ _ _ z => z.elim, fun _ _ _ _ _ _ _ _ z => z.elim⟩
      · obtain ⟨z1, z2⟩ := z
        exact kt .non .non ι μ H' ⟨fun _ _ e => e, s'.hx⟩ (r.forget r' s' z1) rfl z2
      · obtain ⟨z1, z2, z3⟩ := z
        exact kt v d ι μ H' ⟨fun _ _ e => e, s'.hx⟩ (r.forget r' s' z1) (Is.down s'.back d v (by rw [r.len]; exact z2) i') z3
end HD
/-! HD15: instances of own classes: made, their fields read and stored, their methods and properties. -/
namespace HD
open PySem PySem.Spec PyProof.Rows L2

section
variable {K : PySem.W.Frag} {ι ι' : List Addr} {H H' : Hp}
/-- a field is stored -/
def fputD (f : Str) (d : D) : List (Str × D) → List (Str × D)
  | [] => [(f, d)]
  | (g, x) :: r => if g = f then (g, d) :: r else (g, x) :: fputD f d r
theorem look_zip : ∀ {fs : List (Str × D)} {vs : List V} {f : Str} {d : D}, IsAll K ι H (fs.map (·.2)) vs → fs.lookup f = some d → ∃ v, ((fs.map (·.1)).zip vs).lookup f = some v ∧ Is K ι H d v
  | [], _, _, _, _, e => by cases e
  | (g, x) :: r, _, f, d, h, e => by
    obtain ⟨v, vr, rfl, q, t⟩ := h
    show ∃ w, List.lookup f ((g, v) :: (r.map (·.1)).zip vr) = some w ∧ _
    rw [List.lookup_cons] at e ⊢
    cases c : f == g with
    | true =>
      rw [c] at e
      cases e
      exact ⟨v, rfl, q⟩
    | false =>
      rw [c] at e
      exact look_zip t e
theorem look_none : ∀ {fs : List (Str × D)} {vs : List V} {f : Str}, IsAll K ι H (fs.map (·.2)) vs → fs.lookup f = none → ((fs.map (·.1)).zip vs).lookup f = none
  | [], _, _, _, _ => by cases ‹List V› <;> rfl
  | (g, x) :: r, _, f, h, e => by
    obtain ⟨v, vr, rfl, q, t⟩ := h
    show List.lookup f ((g, v) :: (r.map (·.1)).zip vr) = none
    rw [List.lookup_cons] at e ⊢
    cases c : f == g with
    | true =>
      rw [c] at e
      cases e
    | false =>
      rw [c] at e
      exact look_none t e
theorem put_zip : ∀ {fs : List (Str × D)} {vs : List V} (f : Str) {d : D} {v : V}, IsAll K ι H (fs.map (·.2)) vs → Is K ι H d v → ∃ vs', putF f v ((fs.map (·.1)).zip vs) = ((fputD f d fs).map (·.1)).zip vs' ∧ IsAll K ι H ((fputD f d fs).map (·.2)) vs'
  | [], vs, f, d, v, h, q => by
    have e : vs = [] := h
    subst e
    exact ⟨[v], rfl, v, [], rfl, q, rfl⟩
  | (g, x) :: r, _, f, d, v, h, q => by
    obtain ⟨w, vr, rfl, q1, t⟩ := h
    show ∃ vs', putF f v ((g, w) :: (r.map (·.1)).zip vr) = _ ∧ _
    unfold putF fputD
    by_cases c : g = f
    · rw [if_pos c, if_pos c]
      exact ⟨v :: vr, rfl, v, vr, rfl, q, t⟩
    · rw [if_neg c, if_neg c]
      obtain ⟨vs', e1, e2⟩ := put_zip f t q
      rw [e1]
      exact ⟨w :: vs', rfl, w, vs', rfl, q1, e2⟩
theorem zip_len : ∀ {fs : List (Str × D)} {vs : List V}, IsAll K ι H (fs.map (·.2)) vs → ((fs.map (·.1)).zip vs).length = fs.length := fun {fs vs} h => by
  rw [List.length_zip, List.length_map, h.length, List.length_map, Nat.min_self]
theorem Rel.ins {μ : Sto} (r : Rel K ι μ H) {k : Nat} {C : Addr} {fs : List (Str × D)} (h : cell μ k = some (.ins C fs)) : ∃ a dx vs, ι[k]? = some a ∧ H a = some (.ins C dx ((fs.map (·.1)).zip vs)) ∧ IsAll K ι H (fs.map (·.2)) vs := by
  obtain ⟨a, e, dx, vs, h1, h2⟩ := r.at_ k _ h
  exact ⟨a, dx, vs, e, h1, h2⟩
end

/-! ### fields -/
section
variable {X : Cx} {W : WX} {e o value : Expr} {we wo wv : WE} {wa wk : WA} {pos apos p : Pos} {C : Addr} {f m x : Str}
def wFld (C : Addr) (f : Str) (we : WE) : WE := fun R δ μ P => we R δ μ fun d μ1 => match d with
  | .ref k => match cell μ1 k with
    | some (.ins C' fs) => C' = C ∧ match fs.lookup f with
      | some v => P v μ1
      | none => False
    | _ => False
  | _ => False
theorem q_fld (hc : Cls X.K C) (hn : NoAttr X.K C f) (he : QE X W e we) (hb : attributeBase e f X.env (eval e X.env) = eval e X.env := by rfl) : QE X W (.Attribute e f pos) (wFld C f we) := by
  obtain ⟨t, h1, h2⟩ := he
  refine ⟨_, pe_fld h1 hb, fun R ι μ δ σ H P Q c h k => h2 R ι μ δ σ H _ _ c h fun v d ι1 μ1 H1 s1 r1 i1 q1 => ?_⟩
  split at q1
  · split at q1
    · rename_i C' fs ec
      obtain ⟨rfl, q1⟩ := q1
      split at q1
      · rename_i d' el
        obtain ⟨a, dx, vs, e1, e2, e3⟩ := r1.ins ec
        obtain ⟨a', ea, rfl⟩ := i1
        rw [e1] at ea
        cases ea
        obtain ⟨w, l, iw⟩ := look_zip e3 el
        exact ⟨a, _, dx, _, w, rfl, e2, hc, hn, l, k w d' ι1 μ1 H1 s1 r1 iw q1⟩
      · exact q1.elim
    · exact q1.elim
  · exact q1.elim
def wSetF (C : Addr) (f : Str) (wo wv : WE) : WS := fun R E δ μ => wv R δ μ fun d μ1 => wo R δ μ1 fun o μ2 => match o with
  | .ref k => match cell μ2 k with
    | some (.ins C' fs) => C' = C ∧ fs.length < 1000 ∧ E.nx δ (μ2.set k (.ins C (fputD f d fs)))
    | _ => False
  | _ => False
theorem qs_fld (hc : Cls X.K C) (hn : NoAttr X.K C f) (ho : QE X W o wo) (hv : QE X W value wv) (hs : swapsWith value (some (.Attribute o f p)) pos.line X.env = pure false := by rfl) : QS X W (.Assign [.Attribute o f p] value pos) (wSetF C f wo wv) := by
  obtain ⟨t, h1, h2⟩ := ho
  obtain ⟨t', h3, h4⟩ := hv
  refine ⟨_, ps_fld h1 h3 hs, fun R ι μ δ σ H E D c h l => h4 R ι μ δ σ H _ _ c h fun v d ι1 μ1 H1 s1 r1 i1 q1 => h2 R ι1 μ1 δ σ H1 _ _ (c.stp s1 r1) q1 fun y d' ι2 μ2 H2 s2 r2 i2 q2 => ?_⟩
  split at q2
  · split at q2
    · rename_i kk C' fs ec
      obtain ⟨rfl, hl, q2⟩ := q2
      obtain ⟨a, dx, vs, e1, e2, e3⟩ := r2.ins ec
      obtain ⟨a', ea, rfl⟩ := i2
      rw [e1] at ea
      cases ea
      obtain ⟨vs', p1, p2⟩ := put_zip f e3 (Is.stp s2 d v i1)
      refine ⟨a, _, dx, _, rfl, e2, hc, hn, by rw [zip_len e3]; exact hl, ?_⟩
      rw [p1]
      have sm : Stp ι2 H2 ι2 (upd H2 a (.ins C' dx (((fputD f d fs).map (·.1)).zip vs'))) := Stp.mut e2 rfl
      exact l.nx ι2 _ _ δ σ ((s1.trans s2).trans sm) (r2.writeO (u := .ins C' (fputD f d fs)) ec e1 e2 rfl ⟨dx, vs', upd_same, IsAll.stp sm _ _ p2⟩) ((c.env.stp (s1.trans s2)).stp sm) q2
    · exact q2.elim
  · exact q2.elim
end

/-! ### methods, making -/
section
variable {X : Cx} {k : Nat} {f C : Addr} {fd : FuncData} {ps : List Str} {sp : Sp}
theorem bnd {K : PySem.W.Frag} {fd : FuncData} {ps : List Str} {us : List Value} {s : Shared} (hb : Binds K fd ps []) (h : us.length = ps.length) (kin : K.In s.heap) : BindsTo s fd ⟨us, []⟩ (ps.zip us) := by
  have b := hb s us kin (by rw [List.append_nil]; exact h)
  rwa [List.append_nil] at b
theorem run_makeG {pins : List (Addr × Obj)} {σ : L2.St} {H : Hp} {s : Shared} {Q : VK} {us : List Value} {kw : List (Str × Value)} {E : XK} (g : Addr → List V) (gx : Addr → List Value)
    (M : Mk X.K C f) (F : FnG X.prog X.w X.K X.mg X.base k f fd ps sp) (gd : X.A.guards = some []) (hr : Room (k + 1) X.A) (hx : PassesAt (L2.CX X.prog X.w) X σ E) (I : Inv X pins σ H s)
    (hb : ∀ (x : Addr) (s' : Shared), X.K.In s'.heap → BindsTo s' fd ⟨.ref x :: us, kw⟩ (ps.zip (gx x))) (r : ∀ x, Vals (g x) (gx x))
    (h : ∀ x dx, H x = none → H dx = none → dx ≠ x → sp (g x) (upd (upd H dx (.own x)) x (.ins C dx [])) (fun v H2 => v = .non ∧ Q (.ref x) H2) E) :
    wpAny (model X.prog X.w) X.A (call (.ref C) us kw) (EP X pins σ Q) X.xe s := by
  have hq := h (s.heap.objs.size + 1) s.heap.objs.size (I.hok.fresh (Nat.le_succ _)) (I.hok.fresh (Nat.le_refl _)) (Nat.ne_of_lt (Nat.lt_succ_self _))
  have I2 := Inv.made (C := C) I
  have gd2 : (X.A.under (.builtin "type.__call__" ⟨.ref C :: us, kw⟩)).guards = some [] := by
    show pushGuards (Code.guards (.builtin "type.__call__" ⟨.ref C :: us, kw⟩)) X.A.guards = some []
    rw [gd]
    rfl
  refine wpAny_call (make_map (f := f) I.kIn M.makes M.init (beq_iff_eq.mp M.fn) (codeAny_mono (F.run _ X.stack _ _ ⟨Value.ref (s.heap.objs.size + 1) :: us, kw⟩ (gx (s.heap.objs.size + 1)) _ _ E gd2 (hr.make C us kw)
    (I2.env0.make C us kw) (hb _ _ I2.kIn) (r _) hq) fun r s' hq' => ?_))
  cases r with
  | error e => exact hx pins _ _ e s' I2 hq'
  | ok fl =>
    cases fl with
    | ret u =>
      obtain ⟨v, H', I3, rv, ev, q3⟩ := I2.after hq'
      subst ev
      exact ⟨rv, ⟨V.ref (s.heap.objs.size + 1), H', I3, rfl, q3⟩⟩
    | next => exact False.elim hq'
    | brk => exact False.elim hq'
    | cont => exact False.elim hq'
variable {x m : Str} {p pos apos : Pos} {e o : Expr} {es : List Expr} {t tk : TA} {ta : TE} {E : L2.St → XK} {kws : List Keyword} {ks : List Str} {n : Nat} {g : {α : Type} → List α → List α → List α}
def tMakeG (C : Addr) (sp : Sp) (E : L2.St → XK) (t : TA) : TE := fun σ H Q => t σ H fun vs H1 => vs.length + 1 = 0 + (vs.length + 1) ∧ ∀ x dx, H1 x = none → H1 dx = none → dx ≠ x →
  sp (.ref x :: vs) (upd (upd H1 dx (.own x)) x (.ins C dx [])) (fun v H2 => v = .non ∧ Q (.ref x) H2) (E σ)
theorem pe_makeG (M : Mk X.K C f) (F : FnG X.prog X.w X.K X.mg X.base k f fd ps sp) (gd : X.A.guards = some []) (hr : Room (k + 1) X.A) (hg : Gl X x) (hm : X.mg x = some (.ref C)) (hb : Binds X.K fd ps [])
    (hx : ∀ σ, PassesAt (L2.CX X.prog X.w) X σ (E σ)) (ha : PA X (e :: es) t) (hdb : (x == ("__debug__" : Str)) = false := by decide)
    (he : starEach (e :: es) X.env = (false, eval e X.env) :: starEach es X.env := by rfl) (hpl : (backTo pos (starEach es X.env)).any (·.1) = false := by rfl) :
    PE X (.Call (.Name x p) (e :: es) [] pos) (tMakeG C sp E t) := by
  refine ⟨fun pins s σ H Q I h => ?_⟩
  refine wpAny_Call_Name_kw (ld_glob I hg hm ?_ hdb)
  refine PySem.W.callWith_K (h₀ := X.base) I.ok.mod.kin M.kp (thn (ha.run pos pins s σ H _ I h) fun us s1 ⟨vs, H1, I1, r, _, q⟩ => ⟨I1.kIn, ?_⟩) he hpl
  refine run_makeG (fun x => .ref x :: vs) (fun x => .ref x :: us) M F gd hr (hx σ) I1 (fun x s' kin => bnd hb ?_ kin) (fun x => .cons rfl r) q
  have := F.len _ _ _ _ (q (s1.heap.objs.size + 1) s1.heap.objs.size (I1.hok.fresh (Nat.le_succ _)) (I1.hok.fresh (Nat.le_refl _)) (Nat.ne_of_lt (Nat.lt_succ_self _)))
  show us.length + 1 = _
  rw [← this, ← r.length]
  rfl
end

/-! ### .. on data -/
section
variable {X : Cx} {W : WX} {k : Nat} {f C : Addr} {fd : FuncData} {ps : List Str} {sp : SpD} {x m : Str} {p pos apos : Pos} {e o : Expr} {es : List Expr} {wa wk : WA} {wo : WE} {kws : List Keyword} {ks : List Str} {g : {α : Type} → List α → List α → List α}
def wMake (C : Addr) (sp : SpD) (wa : WA) : WE := fun R δ μ P => wa R δ μ fun ds μ1 => sp (.ref μ1.length :: ds) (μ1 ++ [.ins C []]) (fun d μ2 => d = .non ∧ P (.ref μ1.length) μ2) fun C fs μ2 => R δ C fs μ2
theorem made_rel {K : PySem.W.Frag} {ι : List Addr} {μ : Sto} {H : Hp} (r : Rel K ι μ H) {x dx : Addr} (hx : H x = none) (hdx : H dx = none) (ne : dx ≠ x) :
    Rel K (ι ++ [x]) (μ ++ [.ins C []]) (upd (upd H dx (.own x)) x (.ins C dx [])) ∧ Stp ι H (ι ++ [x]) (upd (upd H dx (.own x)) x (.ins C dx [])) := by
  have h1 : upd H dx (.own x) x = none := by rw [upd_ne (Ne.symm ne)]; exact hx
  exact ⟨(r.new hdx).push (u := .ins C []) h1 ⟨dx, [], upd_same, rfl⟩, ((Stp.new hdx).trans (Stp.push h1))⟩
theorem made_kt {K : PySem.W.Frag} {ι : List Addr} {μ : Sto} {H H1 : Hp} {P : D → Sto → Prop} {Q : V → Hp → Prop} {x : Addr} (r : Rel K ι μ H) (s : Stp ι H (ι ++ [x]) H1) (kt : Kt K ι H P Q) :
    Kt K (ι ++ [x]) H1 (fun d μ2 => d = .non ∧ P (.ref μ.length) μ2) (fun v H2 => v = .non ∧ Q (.ref x) H2) := by
  intro v d ι2 μ2 H2 s2 r2 i2 q2
  obtain ⟨rfl, q2⟩ := q2
  refine ⟨i2, kt (.ref x) (.ref μ.length) ι2 μ2 H2 (s.trans s2) r2 ⟨x, s2.ext _ _ ?_, rfl⟩ q2⟩
  rw [← r.len, List.getElem?_append_right (Nat.le_refl _), Nat.sub_self]
  rfl
theorem q_make (M : Mk X.K C f) (F : FnG X.prog X.w X.K X.mg X.base k f fd ps (spOf X.K sp)) (gd : X.A.guards = some []) (hr : Room (k + 1) X.A) (hg : Gl X x) (hm : X.mg x = some (.ref C)) (hb : Binds X.K fd ps [])
    (tk : Takes X W) (ha : QA X W (e :: es) wa) (hdb : (x == ("__debug__" : Str)) = false := by decide)
    (he : starEach (e :: es) X.env = (false, eval e X.env) :: starEach es X.env := by rfl) (hpl : (backTo pos (starEach es X.env)).any (·.1) = false := by rfl) :
    QE X W (.Call (.Name x p) (e :: es) [] pos) (wMake C sp wa) := by
  obtain ⟨t, h1, h2⟩ := ha
  refine ⟨_, pe_makeG (E := L2.WE W) M F gd hr hg hm hb (fun σ => passAt tk σ) h1 hdb he hpl, fun R ι μ δ σ H P Q c h kt => ?_⟩
  refine h2 R ι μ δ σ H _ _ c h fun vs ds ι1 μ1 H1 s1 r1 i1 q1 => ⟨by omega, fun x dx hx hdx ne => ?_⟩
  obtain ⟨r2, s2⟩ := made_rel (C := C) r1 hx hdx ne
  refine ⟨ι1 ++ [x], μ1 ++ [.ins C []], .ref μ1.length :: ds, _, _, r2, ⟨.ref x, vs, rfl, ⟨x, ?_, rfl⟩, IsAll.stp s2 _ _ i1⟩, q1, made_kt r1 s2 (kt.stp s1), ktx_of (μ' := μ1) c.xl c.env (s1.trans s2)⟩
  rw [← r1.len, List.getElem?_append_right (Nat.le_refl _), Nat.sub_self]
  rfl
/-- the instance at k, of the class C, without this attribute of its own -/
def insOk (C : Addr) (m : Str) (μ : Sto) : D → Prop
  | .ref k => match cell μ k with
    | some (.ins C' fs) => C' = C ∧ fs.lookup m = none
    | _ => False
  | _ => False
theorem insOk.at {K : PySem.W.Frag} {ι : List Addr} {μ : Sto} {H : Hp} {C : Addr} {m : Str} {d : D} {v : V} (h : insOk C m μ d) (r : Rel K ι μ H) (i : Is K ι H d v) : ∃ a dx fs, v = .ref a ∧ H a = some (.ins C dx fs) ∧ fs.lookup m = none := by
  unfold insOk at h
  split at h
  · split at h
    · rename_i C' fs ec
      obtain ⟨rfl, l⟩ := h
      obtain ⟨a, dx, vs, e1, e2, e3⟩ := r.ins ec
      obtain ⟨a', ea, rfl⟩ := i
      rw [e1] at ea
      cases ea
      exact ⟨a, dx, _, rfl, e2, look_none e3 l⟩
    · exact h.elim
  · exact h.elim
/-- an instance of the class C -/
def insAt (C : Addr) (μ : Sto) : D → Prop
  | .ref k => match cell μ k with
    | some (.ins C' _) => C' = C
    | _ => False
  | _ => False
theorem insAt.at {K : PySem.W.Frag} {ι : List Addr} {μ : Sto} {H : Hp} {C : Addr} {d : D} {v : V} (h : insAt C μ d) (r : Rel K ι μ H) (i : Is K ι H d v) : ∃ a dx fs, v = .ref a ∧ H a = some (.ins C dx fs) := by
  unfold insAt at h
  split at h
  · split at h
    · rename_i C' fs ec
      subst h
      obtain ⟨a, dx, vs, e1, e2, e3⟩ := r.ins ec
      obtain ⟨a', ea, rfl⟩ := i
      rw [e1] at ea
      cases ea
      exact ⟨a, dx, _, rfl, e2⟩
    · exact h.elim
  · exact h.elim
end
end HD
/-! HD16: == and != by an own __eq__; isinstance of own classes. -/
namespace HD
open PySem PySem.Spec PyProof.Rows L2

section
open PySem.W
variable {prog : Program} {w : World} {A : Around} {E : Value → Shared → Prop} {s : Shared} {K : Frag} {x C L f : Addr} {h₀ : Heap} {m : Str → Option Value} {ox : Obj} {od : Option Obj} {b tb : Value}
theorem ne_bound {M : Model} {args : List Value} {Q : Option Value → Shared → Prop} (X : K.In s.heap) (I : InstAt s.heap x ox C od) (hs : findIn K (.ref C) "__ne__" = some (some (.builtin "object.__ne__")))
    (h : wpAny M A (call (.builtin "object.__ne__") (.ref x :: args)) (fun v => Q (some v)) E s) : wpAny M A (callSpecialIfBound? (.ref x) "__ne__" args) Q E s := by
  simp only [callSpecialIfBound?, bindSpecialIfBound?]
  refine wpAny_holding (wpAny_bind (wpAny_bind (wpAny_bind (I.type.here ((looks_findIn X hs).here ?_)))))
  simp only [F.cmp_object.ne.bind]
  refine wpAny_bind (wpAny_askSetting (wpAny_ite ?_))
  have fin : wpAny M A (call (.builtin "object.__ne__") ([.ref x] ++ args) >>= fun v => pure (some v)) Q E s := wpAny_bind (wpAny_mono h (fun v s' h' => wpAny_pure h') fun _ _ h' => h')
  split
  · exact wpAny_bind (wpAny_pure (wpAny_pure (by exact fin)))
  · exact wpAny_tryCatch (wpAny_bind (wpAny_pure (wpAny_pure (by exact fin))))
theorem ne_check {M : Model} {rest : List Value} {Q : Unit → Shared → Prop} (X : K.In s.heap) (I : InstAt s.heap x ox C od) (ho : subIn K (.ref C) (.type "object") = some true)
    (ha : argsOk "object.__ne__" ⟨.ref x :: rest, []⟩) (hq : Q () s) : wpAny M A (checkBuiltinCall "object.__ne__" ⟨.ref x :: rest, []⟩) Q E s := by
  simp only [checkBuiltinCall, F.cmpKind_ne, F.cmpSplit_ne]
  refine wpAny_bind ?_
  have LI : Looks M s.heap (isInstance (.ref x) (.type "object")) true := I.type.andThen (looks_subIn X ho)
  refine LI.here ?_
  simp only [Bool.not_true, Bool.false_eq_true, if_false]
  cases hsig : Manifest.signature? "object.__ne__" with
  | none => exact wpAny_pure hq
  | some sig =>
    simp only [argsOk, hsig] at ha
    have h2 : Bind.checkArgs "object.__ne__" sig ⟨.ref x :: rest, []⟩ = pure () := ha
    show wpAny M A (Bind.checkArgs "object.__ne__" sig ⟨.ref x :: rest, []⟩) Q E _
    rw [h2]
    exact wpAny_pure hq
theorem ne_call {Q : Value → Shared → Prop} (hu : A.units + 1 < cLine) (X : K.In s.heap) (I : InstAt s.heap x ox C od) (ho : subIn K (.ref C) (.type "object") = some true) (he : findIn K (.ref C) "__eq__" = some (some (.ref f))) (hf : isFn K (.ref f) = true)
    (h : wpAny (model prog w) A.in1 (call (.ref f) [.ref x, b]) (fun v s' => ∃ k, v = .bool k ∧ Q (.bool (!k)) s') (fun _ _ => False) s) : wpAny (model prog w) A (call (.builtin "object.__ne__") [.ref x, b]) Q E s := by
  refine wpAny_call (codeAny_call_builtin F.cmp_object.ne.plain F.cmpEntry_ne (ne_check X I ho (F.cmpArgs_ne _ _) ?_))
  unfold Builtin.«object.__ne__»
  have hu1 : A.in1.units < cLine := hu
  have go : ∀ {Q' : Option Value → Shared → Prop} {E' : Value → Shared → Prop}, (∀ k s', Q (.bool (!k)) s' → Q' (some (.bool k)) s') → wpAny (model prog w) A.in1 (callSpecialIfBound? (.ref x) "__eq__" [b]) Q' E' s := fun {Q' E'} hk =>
    ifBound_K X I he hf (wpAny_mono h (fun v s' ⟨k, e, q⟩ => by rw [e]; exact hk k s' q) fun _ _ z => z.elim)
  repeat (first | with_reducible refine wpAny_cRoomFor hu1 ?_ | with_reducible refine go ?_ | wp_step)
  intro k s' q
  repeat wp_step
  exact q
theorem ne_K {Q : Value → Shared → Prop} (hu : A.units + 1 < cLine) (F : Fr h₀ L s.heap m) (X₀ : K.In h₀) (I : InstAt s.heap x ox C od) (hb : Looks (model prog w) s.heap (typeOf b) tb) (hn : notFirst K C tb = true)
    (hs : findIn K (.ref C) "__ne__" = some (some (.builtin "object.__ne__"))) (ho : subIn K (.ref C) (.type "object") = some true) (he : findIn K (.ref C) "__eq__" = some (some (.ref f))) (hf : isFn K (.ref f) = true)
    (h : wpAny (model prog w) A.in1 (call (.ref f) [.ref x, b]) (fun v s' => ∃ k, v = .bool k ∧ Q (.bool (!k)) s') (fun _ _ => False) s) : wpAny (model prog w) A (richCompare .NotEq (.ref x) b) Q E s := by
  have X := X₀.keeps F.keep
  have one : wpAny (model prog w) A (tryCompare (.ref x) "__ne__" b) (fun r s' => ∃ v, r = some v ∧ Q v s') E s := by
    unfold tryCompare
    refine wpAny_bind (ne_bound X I hs (ne_call hu X I ho he hf (wpAny_mono h (fun v s' ⟨k, e, q⟩ => ⟨k, e, ?_⟩) fun _ _ z => z)))
    exact wpAny_pure ⟨_, rfl, q⟩
  unfold richCompare
  simp only [oneThing_ref]
  refine wpAny_holding (wpAny_bind (wpAny_cRoomFor (by omega) ?_))
  refine wpAny_bind (I.type.here (wpAny_bind (hb.here ?_)))
  split
  · rename_i q
    have e : subIn K tb (.ref C) = some false := by
      rcases Bool.or_eq_true_iff.mp hn with e | e
      · rw [beq_iff_eq.mp e] at q; simp at q
      · exact beq_iff_eq.mp e
    refine wpAny_bind ((looks_subIn X e).here ?_)
    simp only [Bool.false_eq_true, if_false]
    refine wpAny_bind (wpAny_mono one (fun r s' z => ?_) fun _ _ e => e)
    obtain ⟨v, rfl, hq⟩ := z
    exact wpAny_pure hq
  · refine wpAny_bind (wpAny_pure ?_)
    simp only [Bool.false_eq_true, if_false]
    refine wpAny_bind (wpAny_mono one (fun r s' z => ?_) fun _ _ e => e)
    obtain ⟨v, rfl, hq⟩ := z
    exact wpAny_pure hq
end
end HD
/-! HD17: the facts of an own class; isinstance, == and != on data. -/
namespace HD
open PySem PySem.Spec PyProof.Rows L2

/-- what the text has of an own class named x -/
structure ClsT (K : PySem.W.Frag) (mg : Str → Option Value) (x : Str) where
  C : Addr
  gC : mg x = some (.ref C)
  cls : Cls K C
  makes : PySem.W.makesIn K C = true
  kp : PySem.W.keepIn K (.ref C) = true
  ob : PySem.W.subIn K (.ref C) (.type "object") = some true
  ca : PySem.W.findIn K (.ref C) "__class__" = some (some (.builtin "object.__class__"))
  cg : PySem.W.specialIn K (.builtin "object.__class__") "__get__" = some (some (.builtin "getset_descriptor.__get__"))
  ct : PySem.W.takesIn K (.builtin "object.__class__") = some true
  cm : PySem.W.mroIn K C (.type "object") = some true
  self : PySem.W.kitOne K (.ref C) (.ref C) = some true
  no : ∀ t, t ∈ ["int", "bool", "str", "NoneType", "tuple", "list", "dict"] → PySem.W.kitOne K (.type t) (.ref C) = some false
theorem no7 {K : PySem.W.Frag} {C : Addr} (h0 : PySem.W.kitOne K (.type "int") (.ref C) = some false) (h1 : PySem.W.kitOne K (.type "bool") (.ref C) = some false) (h2 : PySem.W.kitOne K (.type "str") (.ref C) = some false) (h3 : PySem.W.kitOne K (.type "NoneType") (.ref C) = some false)
    (h4 : PySem.W.kitOne K (.type "tuple") (.ref C) = some false) (h5 : PySem.W.kitOne K (.type "list") (.ref C) = some false) (h6 : PySem.W.kitOne K (.type "dict") (.ref C) = some false) :
    ∀ t, t ∈ ["int", "bool", "str", "NoneType", "tuple", "list", "dict"] → PySem.W.kitOne K (.type t) (.ref C) = some false := by
  intro t ht
  simp only [List.mem_cons, List.mem_nil_iff, or_false] at ht
  rcases ht with rfl | rfl | rfl | rfl | rfl | rfl | rfl <;> assumption
theorem kit_self {K : PySem.W.Frag} {v : Value} : PySem.W.kitOne K v v = some true := by
  unfold PySem.W.kitOne
  rw [if_pos (beq_self_eq_true v)]
theorem kit_no {K : PySem.W.Frag} {C : Addr} {t : String} (hd : PySem.W.hasDictIn K C = true) (ty : PySem.W.typeIn K (.ref C) = some (.type "type")) (h : PySem.W.subIn K (.type t) (.ref C) = some false) : PySem.W.kitOne K (.type t) (.ref C) = some false := by
  obtain ⟨cd, hc, _⟩ := PySem.W.any_some hd
  show (if ((PySem.W.clsIn K C).isSome && PySem.W.typeIn K (.ref C) == some (.type "type")) = true then PySem.W.subIn K (.type t) (.ref C) else none) = some false
  rw [hc, ty, if_pos (by simp)]
  exact h
/-- .. of a method of it -/
structure MthT (K : PySem.W.Frag) (C : Addr) (x q : Str) (st : Stmt) (ps : List Str) where
  a : Addr
  fd : FuncData
  fn : Fun K x q st a fd
  me : Meth K C x a
  bd : Binds K fd ps []
/-- .. of a property of it -/
structure PrpT (K : PySem.W.Frag) (C : Addr) (x q : Str) (st : Stmt) (ps : List Str) where
  a : Addr
  p : Addr
  fd : FuncData
  fn : Fun K x q st a fd
  pr : PropOf K C x p a
  bd : Binds K fd ps []
def MthT.mkr {K : PySem.W.Frag} {mg : Str → Option Value} {x : Str} (c : ClsT K mg x) {y q : Str} {st : Stmt} {ps : List Str} (m : MthT K c.C y q st ps) (h : y = "__init__") : Mk K c.C m.a := ⟨c.makes, by rw [← h]; exact m.me.at_, m.me.fn, c.kp⟩
section
variable {X : Cx} {C : Addr}
/-- == of two instances of C by the own __eq__ -/
def wEqI (C : Addr) (neg : Bool) (sp : SpD) : WO := fun d e μ P => insAt C μ d ∧ insAt C μ e ∧ sp [d, e] μ (fun r μ' => match r with
  | .bl k => P (.bl (k != neg)) μ'
  | _ => False) fun _ _ _ => False
variable {k : Nat} {f : Addr} {fd : FuncData} {ps : List Str} {sp : Sp} {spd : SpD}
def rOwn (C : Addr) (neg : Bool) (sp : Sp) : R2 := fun x y H Q => ∃ a b dx dy fs gs, x = .ref a ∧ y = .ref b ∧ H a = some (.ins C dx fs) ∧ H b = some (.ins C dy gs) ∧ sp [.ref a, .ref b] H (fun v H' => ∃ k : Bool, v = .bl k ∧ Q (.bl (k != neg)) H') fun _ _ _ => False
theorem op_neOwn (F : FnG X.prog X.w X.K X.mg X.base k f fd ps sp) (gd : X.A.guards = some []) (hr : Room (k + 1) X.A) (hs : PySem.W.findIn X.K (.ref C) "__eq__" = some (some (.ref f))) (hf : PySem.W.isFn X.K (.ref f) = true) (hb : Binds X.K fd ps [])
    (hne : PySem.W.findIn X.K (.ref C) "__ne__" = some (some (.builtin "object.__ne__"))) (ho : PySem.W.subIn X.K (.ref C) (.type "object") = some true) : OpR X (compareOp .NotEq) (rOwn C true sp) := by
  intro pins s σ H x y u v Q I rx ry d
  obtain ⟨a, b, dx, dy, fs, gs, rfl, rfl, ha, hb', hsp⟩ := d
  cases rx
  cases ry
  obtain ⟨mA, J, _⟩ := ins_get I.hok ha
  obtain ⟨mB, J', _⟩ := ins_get I.hok hb'
  obtain ⟨od, J, _⟩ := J.look
  obtain ⟨od', J', _⟩ := J'.look
  obtain ⟨m, hF⟩ := I.fr
  refine ne_K (tb := .ref C) (by have := hr.units; omega) hF I.ok.mod.kin J J'.type (by simp [PySem.W.notFirst]) hne ho hs hf ?_
  have r2 : Vals [V.ref a, V.ref b] [Value.ref a, Value.ref b] := .cons rfl (.cons rfl .nil)
  refine wpAny_call (codeAny_mono (F.run X.A.in1 X.stack s H ⟨[.ref a, .ref b], []⟩ _ _ _ _ gd hr.in1 I.env0.in1 (bnd hb (r2.length.symm.trans (F.len _ _ _ _ hsp)) I.kIn) r2 hsp) fun r s' hq => ?_)
  cases r with
  | error e =>
    obtain ⟨_, _, _, _, _, _, _, _, _, _, _, _, z⟩ := hq
    exact z.elim
  | ok fl =>
    cases fl with
    | ret w =>
      obtain ⟨z, H', I', rz, kk, ez, q⟩ := I.after hq
      subst ez
      cases rz
      refine ⟨kk, rfl, .bl (kk != true), H', I', ?_, q⟩
      show Value.bool (!kk) = Value.bool (kk != true)
      cases kk <;> rfl
    | next => exact False.elim hq
    | brk => exact False.elim hq
    | cont => exact False.elim hq
theorem ro_own {neg : Bool} : RO X.K (rOwn C neg (spOf X.K spd)) (wEqI C neg spd) := fun ι μ H x y d e P Q r i1 i2 h k => by
  obtain ⟨h1, h2, h3⟩ := h
  obtain ⟨a, dx, fs, rfl, ea⟩ := h1.at r i1
  obtain ⟨b, dy, gs, rfl, eb⟩ := h2.at r i2
  refine ⟨a, b, dx, dy, fs, gs, rfl, rfl, ea, eb, ι, μ, [d, e], _, _, r, ⟨_, _, rfl, i1, _, _, rfl, i2, rfl⟩, h3, fun v d' ι' μ' H' s' r' i' q => ?_, fun _ _ _ _ _ _ _ _ _ z => z.elim⟩
  cases d' with
  | bl kk => exact ⟨kk, i', k _ (.bl (kk != neg)) ι' μ' H' s' r' rfl q⟩
  | _ => exact q.elim
theorem qo_neI (F : FnG X.prog X.w X.K X.mg X.base k f fd ps (spOf X.K spd)) (gd : X.A.guards = some []) (hr : Room (k + 1) X.A) (hm : Meth X.K C "__eq__" f) (hb : Binds X.K fd ps [])
    (hne : PySem.W.findIn X.K (.ref C) "__ne__" = some (some (.builtin "object.__ne__"))) (ho : PySem.W.subIn X.K (.ref C) (.type "object") = some true) : QO X (compareOp .NotEq) (wEqI C true spd) :=
  ⟨_, op_neOwn F gd hr hm.at_ hm.fn hb hne ho, ro_own⟩
end
end HD
/-! HD18: for a, b in zip(xs, ys). -/
namespace HD
open PySem PySem.Spec PyProof.Rows L2
def ItZ (K : PySem.W.Frag) (k : Bool) (a b : Addr) : It := match k with
  | true => RZ.ItzT K a b
  | false => Itz K a b
section
variable {K : PySem.W.Frag} {a b : Addr} {i : Nat} {H : Hp}
theorem ItZ.go {k : Bool} {xs ys : List V} {x y : V} (qx : Sq K k H a xs) (qy : Sq K k H b ys) (ex : xs[i]? = some x) (ey : ys[i]? = some y) : (ItZ K k a b).go i H := by
  cases k
  · exact ⟨xs, ys, x, y, qx, qy, ex, ey⟩
  · exact ⟨xs, ys, x, y, qx, qy, ex, ey⟩
theorem ItZ.stop {k : Bool} {xs ys : List V} (qx : Sq K k H a xs) (qy : Sq K k H b ys) (e : xs.length ≤ i ∨ ys.length ≤ i) : (ItZ K k a b).stop i H := by
  cases k
  · exact ⟨xs, ys, qx, qy, e⟩
  · exact ⟨xs, ys, qx, qy, e⟩
theorem ItZ.yld {k : Bool} {v : V} {H' : Hp} (h : (ItZ K k a b).yld i H v H') : ∃ T x y, v = .ref T ∧ H T = none ∧ H' = upd H T (.tup [x, y]) ∧ (∀ xs, Sq K k H a xs → xs[i]? = some x) ∧ ∀ ys, Sq K k H b ys → ys[i]? = some y := by
  cases k
  · exact h
  · exact h
end
section
variable {X : Cx} {W : WX} {pos p tpos : Pos}
def wForZ (wa : WA) (wg : WG) (wb : WS) : WS := fun R E δ μ => wa R δ μ fun ds μ1 => match ds with
  | [d1, d2] => ∃ (xs ys : List D) (Pv : Nat → En → Sto → Prop), isTup d1 = isTup d2 ∧ Pv 0 δ μ1 ∧ (∀ i δ' μ', Pv i δ' μ' → itemsOf μ' d1 = some xs ∧ itemsOf μ' d2 = some ys) ∧
    (∀ i x y δ' μ', xs[i]? = some x → ys[i]? = some y → Pv i δ' μ' → wg R (.tup [x, y]) δ' μ' fun δ2 μ2 => wb R { E with nx := Pv (i + 1), ct := Pv (i + 1), bk := E.nx } δ2 μ2) ∧ ∀ δ' μ', Pv (min xs.length ys.length) δ' μ' → E.nx δ' μ'
  | _ => False
theorem qs_forZ {elts : List Expr} {kk : Nat} {e e2 : Expr} {body : List Stmt} {wa : WA} {wg : WG} {wb : WS} (hp : PassesOwn (model X.prog X.w) X.A X.env X.xe) (hc : X.calm = true) (hg : Gl X "zip") (hm : X.mg "zip" = none) (ha : QA X W [e, e2] wa) (hgt : QG X W (.Tuple elts kk tpos) wg) (hb : QSs X W body wb)
    (hst : starEach [e, e2] X.env = (false, eval e X.env) :: starEach [e2] X.env := by rfl) (hpl : (backTo p (starEach [e2] X.env)).any (·.1) = false := by rfl)
    (hs : ∀ x, foldedSetIterable (.Call (.Name "zip" p0) [e, e2] [] p) X.env x = pure x := by intro _; rfl) : QS X W (.For (.Tuple elts kk tpos) (.Call (.Name "zip" p0) [e, e2] [] p) body [] pos) (wForZ wa wg wb) := by
  obtain ⟨tl, l1, l2⟩ := ha
  obtain ⟨g, g1, g2⟩ := hgt
  obtain ⟨tb, b1, b2⟩ := hb
  refine ⟨_, ps_for hp hc (RZ.pi_zipA hg hm l1 hst hpl) g1 b1 hs, fun R ι μ δ σ H E D c h l => l2 R ι μ δ σ H _ _ c h fun vs ds ι1 μ1 H1 s1 r1 i1 q1 => ?_⟩
  split at q1
  · rename_i d1 d2
    obtain ⟨xs, ys, Pv, hk, h0, hl, ht, hd⟩ := q1
    obtain ⟨v, u, ev, iv, iu⟩ := isAll2 i1
    obtain ⟨e1, e2⟩ := hl 0 δ μ1 h0
    obtain ⟨a, us0, rfl, qa0, ta0⟩ := items_seq r1 iv e1
    obtain ⟨b, ws0, rfl, qb0, tb0⟩ := items_seq r1 iu e2
    rw [← hk] at qb0
    have main : ∃ Wv : Nat → Nat → L2.St → Hp → Prop, (∃ m, Wv 0 m σ H1) ∧ ∀ i m σ H, Wv i m σ H →
      ((ItZ X.K (isTup d1) a b).stop i H ∧ D.nx σ H) ∨ ((ItZ X.K (isTup d1) a b).go i H ∧ ∃ N : L2.St → Hp → Prop, (∀ σ' H', N σ' H' → ∃ m', m' < m ∧ Wv (i + 1) m' σ' H') ∧ ∀ x H', (ItZ X.K (isTup d1) a b).yld i H x H' → g x σ H' fun σ2 H2 => tb { D with nx := N, ct := N, bk := D.nx } σ2 H2) := by
      refine ⟨fun i m σ' H' => m = min xs.length ys.length - i ∧ i ≤ min xs.length ys.length ∧ ∃ ι' μ' δ', Stp ι1 H1 ι' H' ∧ Rel X.K ι' μ' H' ∧ EnvIs X.K ι' H' δ' σ' ∧ Pv i δ' μ',
        ⟨min xs.length ys.length, rfl, Nat.zero_le _, ι1, μ1, δ, Stp.refl _ _, r1, c.env.stp s1, h0⟩, fun i m σ' H' hw => ?_⟩
      obtain ⟨em, hle, ι', μ', δ', s', r', e', w'⟩ := hw
      obtain ⟨f1, f2⟩ := hl i δ' μ' w'
      obtain ⟨a', us, ea, qa, ta⟩ := items_seq r' (Is.stp s' _ _ iv) f1
      obtain ⟨b', ws, eb, qb, tb'⟩ := items_seq r' (Is.stp s' _ _ iu) f2
      cases ea
      cases eb
      rw [← hk] at qb
      by_cases hlt : i < min xs.length ys.length
      · have hx : i < xs.length := Nat.lt_of_lt_of_le hlt (Nat.min_le_left _ _)
        have hy : i < ys.length := Nat.lt_of_lt_of_le hlt (Nat.min_le_right _ _)
        obtain ⟨vx, hvx, ix⟩ := ta.get (i := i) (d := xs[i]) (List.getElem?_eq_getElem hx)
        obtain ⟨vy, hvy, iy⟩ := tb'.get (i := i) (d := ys[i]) (List.getElem?_eq_getElem hy)
        refine .inr ⟨ItZ.go qa qb hvx hvy, fun σ2 H2 => ∃ ι2 μ2 δ2, Stp ι1 H1 ι2 H2 ∧ Rel X.K ι2 μ2 H2 ∧ EnvIs X.K ι2 H2 δ2 σ2 ∧ Pv (i + 1) δ2 μ2, fun σ2 H2 z => ⟨min xs.length ys.length - (i + 1), by omega, rfl, hlt, z⟩, fun x H2 hx' => ?_⟩
        obtain ⟨T, x', y', rfl, nT, rfl, fx, fy⟩ := ItZ.yld hx'
        have ex : x' = vx := Option.some.inj ((fx _ qa).symm.trans hvx)
        have ey : y' = vy := Option.some.inj ((fy _ qb).symm.trans hvy)
        subst ex ey
        have sn : Stp ι' H' ι' (upd H' T (.tup [x', y'])) := Stp.new nT
        refine g2 R ι' μ' δ' σ' _ (.ref T) (.tup [xs[i], ys[i]]) _ _ ⟨r'.new nT, e'.stp sn, c.xl.stp ((s1.trans s').trans sn)⟩ ⟨T, [x', y'], rfl, SqT.of upd_same, x', [y'], rfl, Is.stp sn _ _ ix, y', [], rfl, Is.stp sn _ _ iy, rfl⟩ (ht i xs[i] ys[i] δ' μ' (List.getElem?_eq_getElem hx) (List.getElem?_eq_getElem hy) w') fun ι2 μ2 H3 δ2 σ2 s2 r2 e2 q2 => ?_
        refine b2 R ι2 μ2 δ2 σ2 H3 _ _ ⟨r2, e2, c.xl.stp (((s1.trans s').trans sn).trans s2)⟩ q2 ?_
        have lk := l.stp (((s1.trans s').trans sn).trans s2)
        exact ⟨fun ι3 μ3 H4 δ3 σ3 s3 r3 e3 q3 => ⟨ι3, μ3, δ3, ((s'.trans sn).trans s2).trans s3, r3, e3, q3⟩, lk.rt, lk.nx,
          fun ι3 μ3 H4 δ3 σ3 s3 r3 e3 q3 => ⟨ι3, μ3, δ3, ((s'.trans sn).trans s2).trans s3, r3, e3, q3⟩⟩
      · have ei : i = min xs.length ys.length := by omega
        subst ei
        refine .inl ⟨ItZ.stop qa qb ?_, l.nx ι' μ' H' δ' σ' (s1.trans s') r' e' (hd δ' μ' w')⟩
        rw [ta.length, tb'.length]
        omega
    refine ⟨a, b, us0, ws0, ev, ?_⟩
    cases hb' : isTup d1 with
    | false =>
      rw [hb'] at qa0 qb0 main
      exact .inl ⟨qa0, qb0, main⟩
    | true =>
      rw [hb'] at qa0 qb0 main
      exact .inr ⟨qa0, qb0, main⟩
  · exact q1.elim
end
end HD
/-! HD19: t[::-1], a tuple. -/
namespace HD
open PySem PySem.Spec PyProof.Rows L2 HT
section
variable {prog : Program} {w : World} {A : Around} {E : Value → Shared → Prop} {s : Shared}
end
section
variable {X : Cx} {W : WX}
end
end HD
/-! HD20: dicts with ints as keys; list(range(a, b)); not in, over values. -/
namespace HD
open PySem PySem.Spec PyProof.Rows L2
section
variable {K : PySem.W.Frag} {ι : List Addr} {H : Hp}
theorem Rel.dct {μ : Sto} (r : Rel K ι μ H) {k : Nat} {kvs : List (Key × D)} (h : cell μ k = some (.dct kvs)) : ∃ a vs, ι[k]? = some a ∧ H a = some (.dK ((kvs.map (·.1)).zip vs)) ∧ IsAll K ι H (kvs.map (·.2)) vs := by
  obtain ⟨a, e, vs, h1, h2⟩ := r.at_ k _ h
  exact ⟨a, vs, e, h1, h2⟩
end
section
variable {X : Cx} {W : WX} {pos p : Pos} {o i e a b : Expr} {wo wi we wa wb wd : WE}
/-! {} -/
def wDNew : WE := fun R δ μ P => P (.ref μ.length) (μ ++ [.dct []])
theorem q_dnew : QE X W (.Dict [] [] pos) wDNew := by
  refine ⟨_, pe_dnewK, fun R ι μ δ σ H P Q c h k => fun pn hp => ?_⟩
  exact k (.ref pn) (.ref μ.length) (ι ++ [pn]) _ _ (Stp.push hp) (c.rel.push (u := .dct []) hp ⟨[], upd_same, rfl⟩) (is_pushed c.rel) h
/-! d[n] = v -/
/-! d[n] -/
end
end HD
namespace HD
open PySem PySem.Spec PyProof.Rows L2
section
variable {X : Cx} {W : WX} {pos p pr : Pos} {o i e a b : Expr} {wo wi we wa wb wd : WE}
/-! sorted(d) -/
/-! d == {} -/
/-! list(range(a, b)) -/
/-! v not in l, by values -/
end
end HD
namespace HD
end HD
/-! HD21: for i, x in enumerate(xs), a list or a tuple. -/
namespace PySem
open AutoSeq1 (wpAny_loadPart')
section
variable {prog : Program} {w : World} {A : Around} {E : Value → Shared → Prop} {s : Shared}
end
end PySem
namespace HD
open PySem PySem.Spec PyProof.Rows L2
def IteT (K : PySem.W.Frag) (a : Addr) : It :=
  ⟨fun i H => ∃ (xs : List V) (x : V), SqT K H a xs ∧ xs[i]? = some x, fun i H v H' => ∃ T x, v = .ref T ∧ H T = none ∧ H' = upd H T (.tup [.int (i : Nat), x]) ∧ ∀ xs, SqT K H a xs → xs[i]? = some x, fun i H => ∃ xs : List V, SqT K H a xs ∧ xs.length ≤ i⟩
def ItE (K : PySem.W.Frag) (k : Bool) (a : Addr) : It := match k with
  | true => IteT K a
  | false => Ite K a
section
variable {K : PySem.W.Frag} {a : Addr} {i : Nat} {H : Hp}
theorem ItE.go {k : Bool} {xs : List V} {x : V} (qx : Sq K k H a xs) (ex : xs[i]? = some x) : (ItE K k a).go i H := by
  cases k
  · exact ⟨xs, x, qx, ex⟩
  · exact ⟨xs, x, qx, ex⟩
theorem ItE.stop {k : Bool} {xs : List V} (qx : Sq K k H a xs) (e : xs.length ≤ i) : (ItE K k a).stop i H := by
  cases k
  · exact ⟨xs, qx, e⟩
  · exact ⟨xs, qx, e⟩
theorem ItE.yld {k : Bool} {v : V} {H' : Hp} (h : (ItE K k a).yld i H v H') : ∃ T x, v = .ref T ∧ H T = none ∧ H' = upd H T (.tup [.int (i : Nat), x]) ∧ ∀ xs, Sq K k H a xs → xs[i]? = some x := by
  cases k
  · exact h
  · exact h
end
section
variable {X : Cx} {W : WX} {pos p p0 tpos : Pos}
end
end HD
/-! HD22: [elt for x in xs for y in ys if ..], lists or tuples. -/
namespace HD
open PySem PySem.Spec PyProof.Rows L2
section
variable {X : Cx} {W : WX} {pos : Pos} {elt iter iter2 : Expr} {ifs2 : List Expr} {scope : Scope} {x y : Str} {i j : Nat} {wt : WT} {we w2 : WE}
end
end HD
namespace HD
open PySem PySem.Spec PyProof.Rows L2
section
variable {X : Cx} {W : WX} {pos : Pos} {elt iter iter2 : Expr} {ifs2 : List Expr} {scope : Scope} {x y : Str} {i j : Nat} {wt : WT} {we w2 : WE}
end
end HD
/-! HD23: xs.pop(), xs.pop(k). -/
namespace HD
open PySem PySem.Spec PyProof.Rows L2
section
variable {X : Cx} {W : WX} {o e : Expr} {wo we : WE} {apos cpos : Pos}
end
end HD
/-! math.lcm -/
namespace HD
open PySem PySem.Spec PyProof.Rows L2
section
variable {X : Cx}
end
end HD
/-! HD24: [.. for x, y in zip(xs, ys)]. -/
namespace HD
open PySem PySem.Spec PyProof.Rows L2
section
variable {X : Cx} {W : WX} {pos p spos : Pos} {elt : Expr} {ifs : List Expr} {scope : Scope} {own : List (Str × Nat)} {is : List Nat} {n : Nat} {wt : WT} {we : WE}
end
end HD
/-! HD25: for a, b in zip(xs, ys) of a list and a tuple, in either order. -/
namespace HD
open PySem PySem.Spec PyProof.Rows L2
def seqIs (k : Bool) (h : Heap) (a : Addr) (its : Array Value) : Prop := match k with
  | true => h.IsTuple a its
  | false => h.IsList a its
def itIs (k : Bool) (h : Heap) (it a : Addr) (i : Nat) : Prop := match k with
  | true => h.IsTupleIter it a i
  | false => h.IsListIter it a i
theorem seqIs.at {k : Bool} {h h' : Heap} {a : Addr} {its : Array Value} (p : seqIs k h a its) (q : ∀ o, h.get? a = some o → h'.get? a = some o) : seqIs k h' a its := by
  cases k
  · exact Heap.IsList.at p q
  · exact Heap.IsTuple.at p q
theorem itIs.at {k : Bool} {h h' : Heap} {it a : Addr} {i : Nat} (p : itIs k h it a i) (q : ∀ o, h.get? it = some o → h'.get? it = some o) : itIs k h' it a i := by
  cases k
  · exact Heap.IsListIter.at p q
  · exact Heap.IsTupleIter.at p q
theorem itIs.obj {k : Bool} {h : Heap} {it a : Addr} {i : Nat} (p : itIs k h it a i) : ∃ o, h.get? it = some o ∧ ∀ v, o.data ≠ .seq v := by
  cases k
  · obtain ⟨o, e, _, d⟩ := p
    exact ⟨o, e, fun v q => by rw [d] at q; cases q⟩
  · obtain ⟨o, e, _, d⟩ := p
    exact ⟨o, e, fun v q => by rw [d] at q; cases q⟩
theorem seqIs.lt {k : Bool} {h : Heap} {a : Addr} {its : Array Value} (p : seqIs k h a its) : a < h.objs.size := by
  cases k
  · obtain ⟨o, ho, _⟩ := p
    exact Heap.lt_size ho
  · obtain ⟨o, ho, _⟩ := p
    exact Heap.lt_size ho
section
variable {X : Cx} {W : WX} {pos p tpos p0 : Pos}
end
end HD
/-! HD26: texts: methods, slices, signs, int(text), f-strings, a comprehension over the signs of a text, text * int. -/
namespace HD
open PySem PySem.Spec PyProof.Rows L2
section
variable {X : Cx} {W : WX} {o e : Expr} {wo we : WE} {apos pos : Pos}
/-- x.m(), x a text: what C asks and g gives -/
def wT0 (C : Str → Prop) (g : Str → D) (wo : WE) : WE := fun R δ μ P => wo R δ μ fun d μ1 => match d with
  | .str a => C a ∧ P (g a) μ1
  | _ => False
theorem q_t0 {id : String} {name : Str} {C : Str → Prop} {g : Str → D} {v : Str → V} (hv : ∀ (K : PySem.W.Frag) ι H a, Is K ι H (g a) (v a)) (slot : Slot "str" name id) (ty : typeOf (.builtin id) = pure (.type "method_descriptor"))
    (rule : MtR X id fun x xs H Q => ∃ a, x = .str a ∧ xs = [] ∧ C a ∧ Q (v a) H) (ho : QE X W o wo)
    (hbase : attributeBase o name X.env (eval o X.env) = eval o X.env := by rfl) (hline : (apos.endLine == pos.line) = true := by rfl) : QE X W (.Call (.Attribute o name apos) [] [] pos) (wT0 C g wo) := by
  obtain ⟨to, o1, o2⟩ := ho
  refine ⟨_, pe_m0 slot ty rule o1 hbase hline, fun R ι μ δ σ H P Q c h k => o2 R ι μ δ σ H _ _ c h fun x d ι1 μ1 H1 s1 r1 i1 q1 => ?_⟩
  cases d with
  | str a =>
    have ex : x = .str a := i1
    exact ⟨⟨a, ex⟩, a, ex, rfl, q1.1, k (v a) (g a) ι1 μ1 H1 s1 r1 (hv _ _ _ a) q1.2⟩
  | _ => exact q1.elim
/-- x.m(y), both texts -/
def wT1 (C : Str → Str → Prop) (g : Str → Str → D) (wo we : WE) : WE := fun R δ μ P => wo R δ μ fun d μ1 => match d with
  | .str a => we R δ μ1 fun f μ2 => match f with
    | .str b => C a b ∧ P (g a b) μ2
    | _ => False
  | _ => False
theorem q_t1 {id : String} {name : Str} {C : Str → Str → Prop} {g : Str → Str → D} {v : Str → Str → V} (hv : ∀ (K : PySem.W.Frag) ι H a b, Is K ι H (g a b) (v a b)) (slot : Slot "str" name id) (ty : typeOf (.builtin id) = pure (.type "method_descriptor"))
    (rule : MtR X id fun x xs H Q => ∃ a b, x = .str a ∧ xs = [.str b] ∧ C a b ∧ Q (v a b) H) (ho : QE X W o wo) (he : QE X W e we)
    (hs : starEach [e] X.env = [(false, eval e X.env)] := by rfl) (hbase : attributeBase o name X.env (eval o X.env) = eval o X.env := by rfl) (hline : (apos.endLine == pos.line) = true := by rfl) : QE X W (.Call (.Attribute o name apos) [e] [] pos) (wT1 C g wo we) := by
  obtain ⟨to, o1, o2⟩ := ho
  obtain ⟨te, e1, e2⟩ := he
  refine ⟨_, pe_m1 slot ty rule o1 e1 hs hbase hline, fun R ι μ δ σ H P Q c h k => o2 R ι μ δ σ H _ _ c h fun x d ι1 μ1 H1 s1 r1 i1 q1 => ?_⟩
  cases d with
  | str a =>
    have ex : x = .str a := i1
    refine ⟨⟨a, ex⟩, e2 R ι1 μ1 δ σ H1 _ _ (c.stp s1 r1) q1 fun y f ι2 μ2 H2 s2 r2 i2 q2 => ?_⟩
    cases f with
    | str b =>
      have ey : y = .str b := i2
      exact ⟨a, b, ex, by rw [ey], q2.1, k (v a b) (g a b) ι2 μ2 H2 (s1.trans s2) r2 (hv _ _ _ a b) q2.2⟩
    | _ => exact q2.elim
  | _ => exact q1.elim
/-- x.split(y): a new list of texts -/
def wSplitT (wo we : WE) : WE := fun R δ μ P => wo R δ μ fun d μ1 => match d with
  | .str a => we R δ μ1 fun f μ2 => match f with
    | .str b => (b.length == 0) = false ∧ a.length + 2 ≤ sizeLine ∧ P (.ref μ2.length) (μ2 ++ [.lst ((Txt.split a b).map D.str)])
    | _ => False
  | _ => False
theorem is_strs {K : PySem.W.Frag} {ι : List Addr} {H : Hp} : ∀ ys : List Str, IsAll K ι H (ys.map D.str) (ys.map V.str)
  | [] => rfl
  | y :: ys => ⟨.str y, ys.map V.str, rfl, rfl, is_strs ys⟩
theorem strs_is {K : PySem.W.Frag} {ι : List Addr} {H : Hp} : ∀ {ys : List Str} {vs : List V}, IsAll K ι H (ys.map D.str) vs → vs = ys.map V.str
  | [], _, h => h
  | y :: ys, _, h => by
    obtain ⟨v, r, e, i, t⟩ := h
    have i' : v = .str y := i
    rw [e, i', strs_is t]
    rfl
theorem q_splitT (ho : QE X W o wo) (he : QE X W e we)
    (hs : starEach [e] X.env = [(false, eval e X.env)] := by rfl) (hbase : attributeBase o "split" X.env (eval o X.env) = eval o X.env := by rfl) (hline : (apos.endLine == pos.line) = true := by rfl) : QE X W (.Call (.Attribute o "split" apos) [e] [] pos) (wSplitT wo we) := by
  obtain ⟨to, o1, o2⟩ := ho
  obtain ⟨te, e1, e2⟩ := he
  refine ⟨_, pe_split o1 e1 hs hbase hline, fun R ι μ δ σ H P Q c h k => o2 R ι μ δ σ H _ _ c h fun x d ι1 μ1 H1 s1 r1 i1 q1 => ?_⟩
  cases d with
  | str a =>
    have ex : x = .str a := i1
    refine ⟨⟨a, ex⟩, e2 R ι1 μ1 δ σ H1 _ _ (c.stp s1 r1) q1 fun y f ι2 μ2 H2 s2 r2 i2 q2 => ?_⟩
    cases f with
    | str b =>
      have ey : y = .str b := i2
      refine ⟨a, b, ex, by rw [ey], q2.1, q2.2.1, fun pn hp => ?_⟩
      exact k (.ref pn) (.ref μ2.length) (ι2 ++ [pn]) _ _ ((s1.trans s2).trans (Stp.push hp)) (r2.pushLst hp (is_strs _)) (is_pushed r2) q2.2.2
    | _ => exact q2.elim
  | _ => exact q1.elim
/-- x.join(ys): ys a list or a tuple of texts -/
def wJoinT (wo we : WE) : WE := fun R δ μ P => wo R δ μ fun d μ1 => match d with
  | .str a => we R δ μ1 fun f μ2 => ∃ ys : List Str, itemsOf μ2 f = some (ys.map D.str) ∧ (ys.map (·.length)).sum + ys.length * a.length ≤ 16777216 ∧ P (.str (Txt.join a ys)) μ2
  | _ => False
theorem q_joinT (ho : QE X W o wo) (he : QE X W e we)
    (hs : starEach [e] X.env = [(false, eval e X.env)] := by rfl) (hbase : attributeBase o "join" X.env (eval o X.env) = eval o X.env := by rfl) (hline : (apos.endLine == pos.line) = true := by rfl) : QE X W (.Call (.Attribute o "join" apos) [e] [] pos) (wJoinT wo we) := by
  obtain ⟨to, o1, o2⟩ := ho
  obtain ⟨te, e1, e2⟩ := he
  refine ⟨_, pe_join o1 e1 hs hbase hline, fun R ι μ δ σ H P Q c h k => o2 R ι μ δ σ H _ _ c h fun x d ι1 μ1 H1 s1 r1 i1 q1 => ?_⟩
  cases d with
  | str a =>
    have ex : x = .str a := i1
    refine ⟨⟨a, ex⟩, e2 R ι1 μ1 δ σ H1 _ _ (c.stp s1 r1) q1 fun y f ι2 μ2 H2 s2 r2 i2 q2 => ?_⟩
    obtain ⟨ys, hy, hz, q⟩ := q2
    obtain ⟨p, vs, ey, hq, ht⟩ := items_seq r2 i2 hy
    have ev := strs_is ht
    subst ev
    refine ⟨a, p, ys, ex, by rw [ey], ?_, hz, k (.str _) (.str (Txt.join a ys)) ι2 μ2 H2 (s1.trans s2) r2 rfl q⟩
    cases hk : isTup f with
    | false =>
      rw [hk] at hq
      exact .inl hq
    | true =>
      rw [hk] at hq
      exact .inr hq
  | _ => exact q1.elim
/-- x.partition(y) -/
def wPartT (wo we : WE) : WE := fun R δ μ P => wo R δ μ fun d μ1 => match d with
  | .str a => we R δ μ1 fun f μ2 => match f with
    | .str b => (b.length == 0) = false ∧ a.length ≤ sizeLine ∧ P (.tup [.str (Txt.partition a b).1, .str (Txt.partition a b).2.1, .str (Txt.partition a b).2.2]) μ2
    | _ => False
  | _ => False
theorem q_partT (ho : QE X W o wo) (he : QE X W e we)
    (hs : starEach [e] X.env = [(false, eval e X.env)] := by rfl) (hbase : attributeBase o "partition" X.env (eval o X.env) = eval o X.env := by rfl) (hline : (apos.endLine == pos.line) = true := by rfl) : QE X W (.Call (.Attribute o "partition" apos) [e] [] pos) (wPartT wo we) := by
  obtain ⟨to, o1, o2⟩ := ho
  obtain ⟨te, e1, e2⟩ := he
  refine ⟨_, pe_partition o1 e1 hs hbase hline, fun R ι μ δ σ H P Q c h k => o2 R ι μ δ σ H _ _ c h fun x d ι1 μ1 H1 s1 r1 i1 q1 => ?_⟩
  cases d with
  | str a =>
    have ex : x = .str a := i1
    refine ⟨⟨a, ex⟩, e2 R ι1 μ1 δ σ H1 _ _ (c.stp s1 r1) q1 fun y f ι2 μ2 H2 s2 r2 i2 q2 => ?_⟩
    cases f with
    | str b =>
      have ey : y = .str b := i2
      refine ⟨a, b, ex, by rw [ey], q2.1, q2.2.1, fun pn hp => ?_⟩
      exact k (.ref pn) (.tup [.str (Txt.partition a b).1, .str (Txt.partition a b).2.1, .str (Txt.partition a b).2.2]) ι2 μ2 _ ((s1.trans s2).trans (Stp.new hp)) (r2.new hp) ⟨pn, _, rfl, SqT.of upd_same, is_strs [_, _, _]⟩ q2.2.2
    | _ => exact q2.elim
  | _ => exact q1.elim
/-- x[lo:hi], x a text -/
def wSlT (wa : WE) (wl wh : WP) : WE := fun R δ μ P => wa R δ μ fun d μ1 => wl R δ μ1 fun lo μ2 => wh R δ μ2 fun hi μ3 => match d with
  | .str z => z.length ≤ sizeLine ∧ P (.str (cutS z lo hi)) μ3
  | _ => False
theorem q_sliceT {a : Expr} {wa : WE} {lo hi : Option Expr} {p2 : Pos} {wl wh : WP} (ha : QE X W a wa) (hl : QP X W lo wl) (hh : QP X W hi wh) : QE X W (.Subscript a (.Slice lo hi none p2) pos) (wSlT wa wl wh) := by
  obtain ⟨ta, a1, a2⟩ := ha
  obtain ⟨tl, l1, l2⟩ := hl
  obtain ⟨th, h1, h2⟩ := hh
  refine ⟨_, pe_slice sl_str a1 l1 h1, fun R ι μ δ σ H P Q c hw k => a2 R ι μ δ σ H _ _ c hw fun v d ι1 μ1 H1 s1 r1 i1 q1 => ?_⟩
  refine l2 R ι1 μ1 δ σ H1 _ _ (c.stp s1 r1) q1 fun lo' ι2 μ2 H2 s2 r2 q2 => h2 R ι2 μ2 δ σ H2 _ _ (c.stp (s1.trans s2) r2) q2 fun hi' ι3 μ3 H3 s3 r3 q3 => ?_
  cases d with
  | str z => exact ⟨z, i1, q3.1, (k.stp ((s1.trans s2).trans s3)).at r3 (d := .str _) rfl q3.2⟩
  | _ => exact q3.elim
/-- one sign in a text -/
def wInS : WO := fun d f μ P => match d, f with
  | .str x, .str z => ∃ c, x = ⟨#[c]⟩ ∧ P (.bl (decide (c ∈ z.cps.toList))) μ
  | _, _ => False
theorem qo_inS : QO X (compareOp .In) wInS := ⟨_, op_in_sign, fun ι μ H x y d f P Q r i1 i2 h k => by
  unfold wInS at h
  split at h
  · obtain ⟨c, e1, q⟩ := h
    subst e1
    exact ⟨c, _, i1, i2, k.at r (d := .bl _) rfl q⟩
  · exact h.elim⟩
/-- int(x), x a text -/
def wIntT : WB := fun ds μ P => match ds with
  | [.str a] => ∃ n, PySem.intText? a = some n ∧ a.length ≤ 640 ∧ P (.int n) μ
  | _ => False
theorem qb_intT : QB X (.type "int") wIntT := ⟨_, call_int_str, fun ι μ H vs ds P Q r i h k => by
  unfold wIntT at h
  split at h
  · obtain ⟨n, hn, hl, q⟩ := h
    obtain ⟨v, e1, iv⟩ := isAll1 i
    have iv' : v = .str _ := iv
    exact ⟨_, n, by rw [e1, iv'], hn, hl, k.at r (d := .int _) rfl q⟩
  · exact h.elim⟩
/-- x * n, x a text, n an int -/
def wMulS : WO := fun d f μ P => match d, f with
  | .str x, .int n => 2 ≤ n ∧ n ≤ 1000 ∧ 1 ≤ x.length ∧ x.length ≤ 1000 ∧ P (.str ⟨(List.replicate n.toNat x.cps).foldl (· ++ ·) #[]⟩) μ
  | _, _ => False
theorem rep_len (x : Array Nat) : ∀ (n : Nat) (a : Array Nat), ((List.replicate n x).foldl (· ++ ·) a).size = a.size + n * x.size
  | 0, a => by simp
  | n + 1, a => by
    rw [List.replicate_succ, List.foldl_cons, rep_len x n, Array.size_append, Nat.add_mul]
    omega
theorem op_mulS : OpR X (binaryOp .Mult) (fun x y H Q => ∃ (a : Str) (n : Int), x = .str a ∧ y = .int n ∧ (2 ≤ n ∧ n ≤ 1000 ∧ 1 ≤ a.length ∧ a.length ≤ 1000) ∧ Q (.str ⟨(List.replicate n.toNat a.cps).foldl (· ++ ·) #[]⟩) H) := by
  intro pins s σ H x y v u Q I rx ry h
  obtain ⟨a, n, rfl, rfl, ⟨h1, h2, h3, h4⟩, q⟩ := h
  obtain ⟨t, rfl⟩ := rx
  obtain ⟨t', rfl⟩ := ry
  have c : (n == 1 || a.length == 0) = false := by
    rw [Bool.or_eq_false_iff]
    exact ⟨beq_eq_false_iff_ne.mpr (by omega), beq_eq_false_iff_ne.mpr (by omega)⟩
  have sz : a.length * n.toNat ≤ 1000000 := by
    have := Nat.mul_le_mul h4 (show n.toNat ≤ 1000 by omega)
    omega
  refine PySem.P.mul_str ?_ ?_ ?_ ?_
  · rw [Bool.or_eq_false_iff]
    exact ⟨decide_eq_false (by omega), decide_eq_false (by omega)⟩
  · intro _ _ z
    have : ((2 : Int) ^ 63 - 1) / n ≥ ((2 : Int) ^ 63 - 1) / 1000 := by
      refine Int.le_ediv_of_mul_le (by omega) ?_
      have : ((2 : Int) ^ 63 - 1) / 1000 * n ≤ ((2 : Int) ^ 63 - 1) / 1000 * 1000 := Int.mul_le_mul_of_nonneg_left h2 (by decide)
      have : ((2 : Int) ^ 63 - 1) / 1000 * 1000 ≤ (2 : Int) ^ 63 - 1 := by decide
      omega
    have : ((2 : Int) ^ 63 - 1) / 1000 ≥ 1000000 := by decide
    omega
  · intro _ _
    show decide _ = false
    exact decide_eq_false (by show ¬ _ > sizeLine; have : 1000000 ≤ sizeLine := by decide
                              omega)
  · rw [if_neg (show ¬ n < 1 by omega), c]
    simp only [Bool.false_eq_true, if_false]
    refine ⟨?_, ?_⟩
    · have z : ((List.replicate n.toNat a.cps).foldl (· ++ ·) #[]).size = 0 + n.toNat * a.cps.size := rep_len a.cps n.toNat #[]
      have z2 : n.toNat * a.cps.size ≤ 1000 * 1000 := Nat.mul_le_mul (by omega) h4
      have z3 : 1000000 ≤ sizeLine := by decide
      show ((List.replicate n.toNat a.cps).foldl (· ++ ·) #[]).size ≤ sizeLine
      omega
    · exact ⟨.str _, H, I.tok _, ⟨_, rfl⟩, q⟩
theorem qo_mulS : QO X (binaryOp .Mult) wMulS := ⟨_, op_mulS, fun ι μ H x y d f P Q r i1 i2 h k => by
  unfold wMulS at h
  split at h
  · exact ⟨_, _, i1, i2, ⟨h.1, h.2.1, h.2.2.1, h.2.2.2.1⟩, k.at r (d := .str _) rfl h.2.2.2.2⟩
  · exact h.elim⟩
/-! f-strings -/
/-- {x}, a text or an int -/
def wFmt (we : WE) : WE := fun R δ μ P => we R δ μ fun d μ1 => match d with
  | .str y => y.length ≤ sizeLine ∧ P (.str y) μ1
  | .int i => i.natAbs.log2 < 1920 ∧ P (.str (toString i)) μ1
  | _ => False
theorem q_fmt (he : QE X W e we) : QE X W (.FormattedValue e (-1) none pos) (wFmt we) := by
  obtain ⟨te, e1, e2⟩ := he
  refine ⟨_, pe_fmt e1, fun R ι μ δ σ H P Q c h k => e2 R ι μ δ σ H _ _ c h fun x d ι1 μ1 H1 s1 r1 i1 q1 => ?_⟩
  cases d with
  | str y => exact .inl ⟨y, i1, q1.1, k (.str y) (.str y) ι1 μ1 H1 s1 r1 rfl q1.2⟩
  | int n => exact .inr ⟨n, i1, q1.1, k (.str (toString n)) (.str (toString n)) ι1 μ1 H1 s1 r1 rfl q1.2⟩
  | _ => exact q1.elim
def wJs : List WE → Str → XD → En → Sto → (Str → Sto → Prop) → Prop
  | [], acc, _, _, μ, P => P acc μ
  | w :: ws, acc, R, δ, μ, P => w R δ μ fun d μ1 => match d with
    | .str y => (acc ++ y).length ≤ sizeLine ∧ wJs ws (acc ++ y) R δ μ1 P
    | _ => False
inductive QJ (X : Cx) (W : WX) : List Expr → List WE → Prop where
  | nil : QJ X W [] []
  | cons {e : Expr} {w : WE} {es : List Expr} {ws : List WE} (h : QE X W e w) (r : QJ X W es ws) : QJ X W (e :: es) (w :: ws)
theorem qj_run {es : List Expr} {ws : List WE} (h : QJ X W es ws) : ∃ ts, PJ X es ts ∧ ∀ (acc : Str) R ι μ δ σ H P (Q : Str → Hp → Prop), Cn X.K W ι μ H δ σ R → wJs ws acc R δ μ P →
    (∀ out ι' μ' H', Stp ι H ι' H' → Rel X.K ι' μ' H' → P out μ' → Q out H') → tJs ts acc σ H Q := by
  induction h with
  | nil => exact ⟨[], .nil, fun acc R ι μ δ σ H P Q c h k => k acc ι μ H (Stp.refl ι H) c.rel h⟩
  | @cons e w es ws he _ ih =>
    obtain ⟨t, t1, t2⟩ := he
    obtain ⟨ts, j1, j2⟩ := ih
    refine ⟨t :: ts, .cons t1 j1, fun acc R ι μ δ σ H P Q c h k => t2 R ι μ δ σ H _ _ c h fun x d ι1 μ1 H1 s1 r1 i1 q1 => ?_⟩
    cases d with
    | str y => exact ⟨y, i1, q1.1, j2 (acc ++ y) R ι1 μ1 δ σ H1 P Q (c.stp s1 r1) q1.2 fun out ι2 μ2 H2 s2 r2 q2 => k out ι2 μ2 H2 (s1.trans s2) r2 q2⟩
    | _ => exact q1.elim
def wJoined (ws : List WE) : WE := fun R δ μ P => wJs ws Str.empty R δ μ fun out μ1 => P (.str out) μ1
theorem q_joined {v1 v2 : Expr} {rest : List Expr} {ws : List WE} (h : QJ X W (v1 :: v2 :: rest) ws) : QE X W (.JoinedStr (v1 :: v2 :: rest) pos) (wJoined ws) := by
  obtain ⟨ts, j1, j2⟩ := qj_run h
  exact ⟨_, pe_joined j1, fun R ι μ δ σ H P Q c h k => j2 Str.empty R ι μ δ σ H _ _ c h fun out ι' μ' H' s r q => k (.str out) (.str out) ι' μ' H' s r rfl q⟩
end
/-! [.. for c in x if ..], x a text -/
def wLcS (i : Nat) (wl : WE) (wt : WT) (we : WE) : WE := fun R δ μ P => wl R δ μ fun d μ1 => match d with
  | .str z => lcAll i wt we δ z.cps.size (fun m => .str ⟨#[z.cps.getD m 0]⟩) (fun _ => True) μ1 P
  | _ => False
section
variable {X : Cx} {W : WX} {pos : Pos} {elt iter : Expr} {ifs : List Expr} {scope : Scope} {x : Str} {i : Nat} {wt : WT} {we : WE}
theorem re_lcS {K : PySem.W.Frag} {tl : TE} {tt : TT} {te : TE} {wl : WE} (l2 : RE K W tl wl) (t2 : RT K W0 tt wt) (e2 : RE K W0 te we) : RE K W (tLc (iStr tl) (gName i) tt te [i]) (wLcS i wl wt we) := by
  refine fun R ι μ δ σ H P Q c h kt => l2 R ι μ δ σ H _ _ c h fun v d ι1 μ1 H1 s1 r1 i1 q1 => ?_
  cases d with
  | str z =>
    obtain ⟨Pv, h0, hturn, hd⟩ := q1
    refine ⟨z, i1, fun Dd hD => ?_⟩
    have rel0 : Rel K (ι1 ++ [Dd]) (μ1 ++ [.lst []]) (upd H1 Dd (.lst [])) := r1.pushLst (ds := []) hD rfl
    have kD : (ι1 ++ [Dd])[μ1.length]? = some Dd := by
      rw [← r1.len, List.getElem?_append_right (Nat.le_refl _), Nat.sub_self]
      rfl
    refine ⟨fun m n H' => n = z.cps.size - m ∧ m ≤ z.cps.size ∧ ∃ ι' μ' acc, Stp (ι1 ++ [Dd]) (upd H1 Dd (.lst [])) ι' H' ∧ Rel K ι' μ' H' ∧ cell μ' μ1.length = some (.lst acc) ∧ Pv m acc μ',
      ⟨z.cps.size, rfl, Nat.zero_le _, ι1 ++ [Dd], _, [], Stp.refl _ _, rel0, cell_new μ1 _ [], h0⟩, fun m n H' w => ?_⟩
    obtain ⟨hn, hle, ι', μ', acc, s', r', hc', hp⟩ := w
    have full := (s1.trans (Stp.push (o := .lst []) hD)).trans s'
    by_cases hlt : m < z.cps.size
    · obtain ⟨_, hl⟩ := hturn m acc μ' hlt hc' hp
      refine .inr ⟨hlt, fun H2 => ∃ ι2 μ2 acc, Stp (ι1 ++ [Dd]) (upd H1 Dd (.lst [])) ι2 H2 ∧ Rel K ι2 μ2 H2 ∧ cell μ2 μ1.length = some (.lst acc) ∧ Pv (m + 1) acc μ2, fun H2 w => ⟨z.cps.size - (m + 1), by omega, rfl, hlt, w⟩, fun w H2 hw => ?_⟩
      obtain ⟨eH, cc, ec, ev⟩ := hw
      subst eH ev
      have eg : z.cps.getD m 0 = cc := by
        rw [Array.getD_eq_getD_getElem?, ec]
        rfl
      have hl' : lcTurn i μ1.length wt we δ (.str ⟨#[z.cps.getD m 0]⟩) acc μ' (Pv (m + 1)) := hl
      rw [eg] at hl'
      refine lc_turn t2 e2 r' (c.env.stp full) (show Is K ι' H2 (.str ⟨#[cc]⟩) (.str ⟨#[cc]⟩) from rfl) (s'.ext _ _ kD) hl' fun acc' ι2 μ2 H3 s2 r2 hc2 hn => ?_
      exact ⟨ι2, μ2, acc', s'.trans s2, r2, hc2, hn⟩
    · have em : m = z.cps.size := by omega
      subst em
      obtain ⟨_, hP⟩ := hd acc μ' hc' hp
      exact .inl ⟨Nat.le_refl _, kt (.ref Dd) (.ref μ1.length) ι' μ' H' full r' ⟨Dd, s'.ext _ _ kD, rfl⟩ hP⟩
  | _ => exact q1.elim
theorem qe_lcS {px : Pos} {wl : WE} (hc : X.calm = true) (hN : X.N.Nodup) (hi : QE X W iter wl) (ok : BlkOk X.N X.env.scope scope [(x, i)])
    (hg : ∀ (s : Shared) (H : Hp) (C : Addr) (cl : List (Str × Addr)) (fp : List Addr), PG (X.blk s H scope (compEnvC scope cl C X.env) fp) (.Name x px) (gName i))
    (ht : ∀ (s : Shared) (H : Hp) (C : Addr) (cl : List (Str × Addr)) (fp : List Addr), QTs (X.blk s H scope (compEnvC scope cl C X.env) fp) W0 ifs wt)
    (he : ∀ (s : Shared) (H : Hp) (C : Addr) (cl : List (Str × Addr)) (fp : List Addr), QE (X.blk s H scope (compEnvC scope cl C X.env) fp) W0 elt we)
    (hs : ∀ z, foldedSetIterable iter X.env z = pure z := by intro _; rfl) :
    QE X W (.ListComp elt [⟨.Name x px, iter, ifs, 0⟩] scope pos) (wLcS i wl wt we) := by
  obtain ⟨tl, l1, l2⟩ := hi
  exact ⟨_, pe_lc (own := [(x, i)]) hc hN (pi_str l1) ok hg (fun s H C cl fp => QTs.canon (ht s H C cl fp)) (fun s H C cl fp => QE.canon (he s H C cl fp)) hs, re_lcS l2 rt_rd re_rd⟩
end
end HD
/-! HD27: more of texts: what signs they hold, prefixes, a list of a text's signs; not in a text; isinstance and repr of an empty dict too. -/
namespace HD
open PySem PySem.Spec PyProof.Rows L2
section
variable {X : Cx} {W : WX} {o e : Expr} {wo we : WE} {apos pos : Pos}
def wAscii (wo : WE) : WE := wT0 (fun _ => True) (fun a => .bl (Txt.isascii a)) wo
theorem q_ascii (ho : QE X W o wo) (hbase : attributeBase o "isascii" X.env (eval o X.env) = eval o X.env := by rfl) (hline : (apos.endLine == pos.line) = true := by rfl) : QE X W (.Call (.Attribute o "isascii" apos) [] [] pos) (wAscii wo) :=
  q_t0 (v := fun a => .bl (Txt.isascii a)) (fun _ _ _ _ => rfl) F.slot_str_isascii F.type_str_isascii mt_isascii ho hbase hline
def wDecimal (wo : WE) : WE := wT0 (fun _ => True) (fun a => .bl (Txt.isdecimal a)) wo
theorem q_decimal (ho : QE X W o wo) (hbase : attributeBase o "isdecimal" X.env (eval o X.env) = eval o X.env := by rfl) (hline : (apos.endLine == pos.line) = true := by rfl) : QE X W (.Call (.Attribute o "isdecimal" apos) [] [] pos) (wDecimal wo) :=
  q_t0 (v := fun a => .bl (Txt.isdecimal a)) (fun _ _ _ _ => rfl) F.slot_str_isdecimal F.type_str_isdecimal mt_isdecimal ho hbase hline
def wUnPre (wo we : WE) : WE := wT1 (fun a _ => a.length ≤ sizeLine) (fun a b => .str (Txt.removeprefix a b)) wo we
theorem q_unpre (ho : QE X W o wo) (he : QE X W e we)
    (hs : starEach [e] X.env = [(false, eval e X.env)] := by rfl) (hbase : attributeBase o "removeprefix" X.env (eval o X.env) = eval o X.env := by rfl) (hline : (apos.endLine == pos.line) = true := by rfl) : QE X W (.Call (.Attribute o "removeprefix" apos) [e] [] pos) (wUnPre wo we) :=
  q_t1 (v := fun a b => .str (Txt.removeprefix a b)) (fun _ _ _ _ _ => rfl) F.slot_str_removeprefix F.type_str_removeprefix mt_removeprefix ho he hs hbase hline
/-- list(x), x a text -/
theorem vals_signs (x : Str) : ∀ (l : List Value) (n : Nat), (∀ j v, l[j]? = some v → SignAt x (n + j) v) → Vals ((x.cps.toList.drop n).take l.length |>.map fun c => V.str ⟨#[c]⟩) l
  | [], n, _ => by
    show Vals (((x.cps.toList.drop n).take 0).map _) []
    rw [List.take_zero]
    exact .nil
  | v :: l, n, h => by
    obtain ⟨c, u, hc, ev⟩ := h 0 v rfl
    have hc' : x.cps.toList[n]? = some c := by rw [Array.getElem?_toList]; exact hc
    have hlt : n < x.cps.toList.length := by
      rcases Nat.lt_or_ge n x.cps.toList.length with z | z
      · exact z
      · rw [List.getElem?_eq_none z] at hc'
        cases hc'
    have e : x.cps.toList.drop n = c :: x.cps.toList.drop (n + 1) := by
      rw [List.drop_eq_getElem_cons hlt]
      rw [List.getElem?_eq_getElem hlt] at hc'
      rw [Option.some.inj hc']
    rw [e, List.length_cons, List.take_succ_cons, List.map_cons]
    refine .cons ⟨u, ev⟩ (vals_signs x l (n + 1) fun j w hw => ?_)
    have := h (j + 1) w (by rw [List.getElem?_cons_succ]; exact hw)
    rwa [show n + (j + 1) = n + 1 + j by omega] at this
theorem call_listT (hc : X.calm = true) : CallR X (.type "list") (fun xs H Q => ∃ x : Str, xs = [.str x] ∧ x.length ≤ sizeLine ∧ ∀ l, H l = none → Q (.ref l) (upd H l (.lst (x.cps.toList.map fun c => .str ⟨#[c]⟩)))) := by
  intro pins s σ H xs us Q I r h
  obtain ⟨x, rfl, hz, q⟩ := h
  obtain ⟨u, rfl, t, rfl⟩ := vals1 r
  refine call_list_str (I.ok.hd hc) x t (fun h' tk acc' c' hk e hi => ?_) hz
  refine ⟨.ref s.heap.objs.size, _, I.laid (t' := tk) hk (Nat.le_refl _) (show ObjOk X.prog X.w _ h' _ (.lst _) from ⟨?_, acc'.toList, c', ?_, e⟩), rfl, q _ (I.hok.fresh (Nat.le_refl _))⟩
  · rw [List.length_map, Array.length_toList]
    exact hz
  · have := vals_signs x acc'.toList 0 fun j v hv => by
      rw [Nat.zero_add]
      exact hi.2 j v (by rw [← Array.getElem?_toList]; exact hv)
    rw [List.drop_zero, List.take_of_length_le (by rw [Array.length_toList, Array.length_toList, hi.1]; exact Nat.le_refl _)] at this
    exact this
def wListT : WB := fun ds μ P => match ds with
  | [.str x] => x.length ≤ sizeLine ∧ P (.ref μ.length) (μ ++ [.lst (x.cps.toList.map fun c => .str ⟨#[c]⟩)])
  | _ => False
theorem isAll_signs {K : PySem.W.Frag} {ι : List Addr} {H : Hp} : ∀ l : List Nat, IsAll K ι H (l.map fun c => D.str ⟨#[c]⟩) (l.map fun c => V.str ⟨#[c]⟩)
  | [] => rfl
  | c :: l => ⟨_, _, rfl, rfl, isAll_signs l⟩
theorem qb_listT (hc : X.calm = true) : QB X (.type "list") wListT := ⟨_, call_listT hc, fun ι μ H vs ds P Q r i h k => by
  unfold wListT at h
  split at h
  · obtain ⟨hz, q⟩ := h
    obtain ⟨v, e1, iv⟩ := isAll1 i
    have iv' : v = .str _ := iv
    subst iv'
    refine ⟨_, e1, hz, fun p hp => ?_⟩
    exact k (.ref p) (.ref μ.length) (ι ++ [p]) _ _ (Stp.push hp) (r.pushLst hp (isAll_signs _)) (is_pushed r) q
  · exact h.elim⟩
/-- isinstance(x, a built-in class), x may be a dict -/
def tyOf2 (μ : Sto) (d : D) : Option String := match d with
  | .ref k => match cell μ k with
    | some (.dct _) => some "dict"
    | _ => tyOf μ (.ref k)
  | d => tyOf μ d
def wIsi2 (T : String) : WB := fun ds μ P => match ds with
  | [d, .ty n] => n = T ∧ ∃ t b, tyOf2 μ d = some t ∧ kitB t T = some b ∧ P (.bl b) μ
  | _ => False
theorem tyx_of2 {K : PySem.W.Frag} {ι : List Addr} {μ : Sto} {H : Hp} {d : D} {v : V} {t : String} (r : Rel K ι μ H) (i : Is K ι H d v) (h : tyOf2 μ d = some t) : TyX K H v (.type t) := by
  unfold tyOf2 at h
  split at h
  · split at h
    · rename_i kk kvs hc
      obtain ⟨a, vs, e1, e2, _⟩ := r.dct hc
      obtain ⟨a', ea, ev⟩ := i
      rw [e1] at ea
      cases ea
      cases h
      rw [ev]
      exact .base (.dK e2)
    · exact tyx_of r i h
  · exact tyx_of r i h
theorem qb_isi2 (T : String) : QB X (.builtin "isinstance") (wIsi2 T) := ⟨_, call_isi, fun ι μ H vs ds P Q r i h k => by
  unfold wIsi2 at h
  split at h
  · rename_i d n
    obtain ⟨en, t, b, ht, hb, q⟩ := h
    subst en
    obtain ⟨v, u, e1, iv, iu⟩ := isAll2 i
    have iu' : u = .ty n := iu
    subst iu'
    exact ⟨v, .ty n, .type t, .type n, b, e1, .ty n, tyx_of2 r iv ht, kit_ty hb, k.at r (d := .bl b) rfl q⟩
  · exact h.elim⟩
/-- repr of data, or of an empty dict -/
def emD (μ : Sto) : D → Bool
  | .ref k => match cell μ k with
    | some (.dct []) => true
    | _ => false
  | _ => false
def wRepr2 : WB := fun ds μ P => match ds with
  | [d] => match emD μ d with
    | true => P (.str "{}") μ
    | false => ∃ p, Py μ d p ∧ p.showable = true ∧ p.depth ≤ 60 ∧ p.shown.length ≤ sizeLine ∧ P (.str p.shown) μ
  | _ => False
end
end HD
/-! HD28: count and index of truth values; a caught error that is handed to a def. -/
namespace HD
open PySem PySem.Spec PyProof.Rows L2
section
variable {X : Cx} {W : WX} {o e : Expr} {wo we : WE} {apos cpos : Pos}
theorem count_flat {y : V} : ∀ {ys : List V} {us : List Value}, Vals ys us → ys.all flatV = true → us.countP (eqU y) = ys.countP (fun z => eqV z y)
  | _, _, .nil, _ => rfl
  | z :: ys, u :: us, .cons r t, f => by
    rw [List.all_cons, Bool.and_eq_true] at f
    rw [List.countP_cons, List.countP_cons, count_flat t f.2, eqU_of r f.1]
def rCntF (K : PySem.W.Frag) : V → List V → Hp → VK → Prop := fun x xs H Q => ∃ (p : Addr) (ys : List V) (y : V), x = .ref p ∧ xs = [y] ∧ SqL K H p ys ∧ flatV y = true ∧ ys.all flatV = true ∧ Q (.int (ys.countP (fun z => eqV z y) : Nat)) H
theorem mt_countF : MtR X "list.count" (rCntF X.K) := by
  intro pins s σ H x xs v us Q I rx rxs h
  obtain ⟨p, ys, y, rfl, rfl, hs, fy, fys, q⟩ := h
  cases rx
  obtain ⟨u, rfl, ru⟩ := rxs.one
  obtain ⟨its, rv, ⟨⟨cls, dd, data, sl⟩, n, ho, hc, hdn, hd⟩, hlen⟩ := I.list hs
  simp only at hc hd
  subst hc hd
  refine call_meets PySem.F.slot_list_count ⟨_, ho, rfl⟩ PySem.F.entry_list_count (PySem.F.args_list_count_2 _ _)
    (SeqAt.list_countAt p its.toArray n dd sl u (eqU y)) ⟨ho, fun z hz => mem_eqAt ru fy rv fys z (by simpa using hz), ?_⟩
  have ec : its.toArray.toList.countP (eqU y) = ys.countP (fun z => eqV z y) := count_flat rv fys
  refine ⟨.int (ys.countP (fun z => eqV z y) : Nat), H, I.tok _, ⟨s.toks, ?_⟩, q⟩
  show Value.int ((its.toArray.toList.countP (eqU y) : Nat) : Int) s.toks = _
  rw [ec]
/-- xs.count(b), xs.index(b), truth values -/
def wCntB (wo we : WE) : WE := fun R δ μ P => wo R δ μ fun x μ1 => match x with
  | .ref k => (∃ ys, lstAt μ1 k = some ys) ∧ we R δ μ1 fun d μ2 => match d with
    | .bl b => ∃ bs : List Bool, lstAt μ2 k = some (bs.map D.bl) ∧ P (.int (bs.count b : Nat)) μ2
    | _ => False
  | _ => False
def wIdxB (wo we : WE) : WE := fun R δ μ P => wo R δ μ fun x μ1 => match x with
  | .ref k => (∃ ys, lstAt μ1 k = some ys) ∧ we R δ μ1 fun d μ2 => match d with
    | .bl b => ∃ (bs : List Bool) (j : Nat), lstAt μ2 k = some (bs.map D.bl) ∧ bs[j]? = some b ∧ (∀ m, m < j → bs[m]? ≠ some b) ∧ P (.int (j : Nat)) μ2
    | _ => False
  | _ => False
theorem flat_bls : ∀ bs : List Bool, (bs.map V.bl).all flatV = true
  | [] => rfl
  | _ :: bs => flat_bls bs
theorem count_bls (b : Bool) : ∀ bs : List Bool, (bs.map V.bl).countP (fun z => eqV z (.bl b)) = bs.count b
  | [] => rfl
  | c :: bs => by
    rw [List.map_cons, List.countP_cons, List.count_cons, count_bls b bs]
    rfl
theorem q_cntB (ho : QE X W o wo) (he : QE X W e we)
    (hbase : attributeBase o "count" X.env (eval o X.env) = eval o X.env := by rfl)
    (hfew : ((backTo cpos (starEach (e :: []) X.env)).all (fun x => !x.1) && (backToKw cpos (keywordEach [] X.env)).all (fun x => x.1.isSome)
      && decide ((e :: ([] : List Expr)).length + ([] : List Keyword).length + (if ([] : List Keyword).isEmpty then 0 else 1) < 30)) = true := by rfl)
    (hline : (apos.endLine == cpos.line) = true := by rfl) (hs : starEach (e :: []) X.env = (false, eval e X.env) :: starEach [] X.env := by rfl) (hplain : (backTo cpos (starEach [] X.env)).any (·.1) = false := by rfl) :
    QE X W (.Call (.Attribute o "count" apos) [e] [] cpos) (wCntB wo we) := by
  obtain ⟨to, o1, o2⟩ := ho
  obtain ⟨te, e1, e2⟩ := he
  refine ⟨_, pe_bm PySem.F.plainAttrs_list PySem.F.slot_list_count PySem.F.type_list_count mt_countF o1 (pa_cons e1 pa_nil hs) hbase hfew hline hs hplain, fun R ι μ δ σ H P Q c h k => o2 R ι μ δ σ H _ _ c h fun v x ι1 μ1 H1 s1 r1 i1 q1 => ?_⟩
  cases x with
  | ref n =>
    obtain ⟨⟨ys, hys⟩, q1⟩ := q1
    obtain ⟨a, ea, ev⟩ := i1
    subst ev
    obtain ⟨a', zs, ea', hz, _⟩ := r1.lst hys
    rw [ea] at ea'
    obtain rfl : a = a' := Option.some.inj ea'
    refine ⟨.inl ⟨rfl, zs, SqL.of hz⟩, e2 R ι1 μ1 δ σ H1 _ _ (c.stp s1 r1) q1 fun u d ι2 μ2 H2 s2 r2 i2 q2 => ?_⟩
    cases d with
    | bl b =>
      have eu : u = .bl b := i2
      subst eu
      obtain ⟨bs, hb, q⟩ := q2
      obtain ⟨a2, us, ea2, hu, ht⟩ := r2.lst hb
      rw [s2.ext n a ea] at ea2
      obtain rfl : a = a2 := Option.some.inj ea2
      have := isAll_bls ht
      subst this
      refine ⟨a, bs.map V.bl, .bl b, rfl, rfl, SqL.of hu, rfl, flat_bls bs, ?_⟩
      rw [count_bls]
      exact k (.int _) (.int _) ι2 μ2 H2 (s1.trans s2) r2 rfl q
    | _ => exact q2.elim
  | _ => exact q1.elim
theorem q_idxB (ho : QE X W o wo) (he : QE X W e we)
    (hbase : attributeBase o "index" X.env (eval o X.env) = eval o X.env := by rfl)
    (hfew : ((backTo cpos (starEach (e :: []) X.env)).all (fun x => !x.1) && (backToKw cpos (keywordEach [] X.env)).all (fun x => x.1.isSome)
      && decide ((e :: ([] : List Expr)).length + ([] : List Keyword).length + (if ([] : List Keyword).isEmpty then 0 else 1) < 30)) = true := by rfl)
    (hline : (apos.endLine == cpos.line) = true := by rfl) (hs : starEach (e :: []) X.env = (false, eval e X.env) :: starEach [] X.env := by rfl) (hplain : (backTo cpos (starEach [] X.env)).any (·.1) = false := by rfl) :
    QE X W (.Call (.Attribute o "index" apos) [e] [] cpos) (wIdxB wo we) := by
  obtain ⟨to, o1, o2⟩ := ho
  obtain ⟨te, e1, e2⟩ := he
  refine ⟨_, pe_bm PySem.F.plainAttrs_list PySem.F.slot_list_index PySem.F.type_list_index mt_index o1 (pa_cons e1 pa_nil hs) hbase hfew hline hs hplain, fun R ι μ δ σ H P Q c h k => o2 R ι μ δ σ H _ _ c h fun v x ι1 μ1 H1 s1 r1 i1 q1 => ?_⟩
  cases x with
  | ref n =>
    obtain ⟨⟨ys, hys⟩, q1⟩ := q1
    obtain ⟨a, ea, ev⟩ := i1
    subst ev
    obtain ⟨a', zs, ea', hz, _⟩ := r1.lst hys
    rw [ea] at ea'
    obtain rfl : a = a' := Option.some.inj ea'
    refine ⟨.inl ⟨rfl, zs, SqL.of hz⟩, e2 R ι1 μ1 δ σ H1 _ _ (c.stp s1 r1) q1 fun u d ι2 μ2 H2 s2 r2 i2 q2 => ?_⟩
    cases d with
    | bl b =>
      have eu : u = .bl b := i2
      subst eu
      obtain ⟨bs, j, hb, hj, hno, q⟩ := q2
      obtain ⟨a2, us, ea2, hu, ht⟩ := r2.lst hb
      rw [s2.ext n a ea] at ea2
      obtain rfl : a = a2 := Option.some.inj ea2
      have := isAll_bls ht
      subst this
      refine ⟨a, bs.map V.bl, .bl b, j, .bl b, rfl, rfl, SqL.of hu, rfl, flat_bls bs, by rw [List.getElem?_map, hj]; rfl, beq_self_eq_true b, fun m z' hm hz' => ?_, k (.int _) (.int _) ι2 μ2 H2 (s1.trans s2) r2 rfl q⟩
      rw [List.getElem?_map] at hz'
      cases hbm : bs[m]? with
      | none =>
        rw [hbm] at hz'
        cases hz'
      | some c =>
        rw [hbm] at hz'
        have ez : z' = .bl c := (Option.some.inj hz').symm
        subst ez
        have ne : c ≠ b := fun z => hno m hm (by rw [hbm, z])
        exact beq_eq_false_iff_ne.mpr ne
    | _ => exact q2.elim
  | _ => exact q1.elim
end
/-! isinstance of an error that has fields -/
section
variable {prog : Program} {w : World} {A : Around} {E : Value → Shared → Prop} {s : Shared} {K : PySem.W.Frag} {x D : Addr} {ox : Obj} {od : Option Obj}
open PySem.W in
theorem class_of_err {Q : Option Value → Shared → Prop} (C : ExcC K D) (hf : findObj K D od "__class__" = some (.bind (.builtin "getset_descriptor.__get__") (.builtin "object.__class__"))) (X : K.In s.heap) (I : InstAt s.heap x ox D od) (h : Q (some (.ref D)) { s with toks := s.toks + 1 }) :
    wpAny (model prog w) A (getAttr? (.ref x) "__class__") Q E s := by
  obtain ⟨hp, g, dr, t, os⟩ := s
  have ty := I.type (M := model prog w)
  have find := looks_find (M := model prog w) X I hf
  have sub : Looks (model prog w) hp (isInstance (.ref x) (.type "BaseException")) true := ty.andThen (looks_subIn X C.hs)
  have other : (Value.builtin "BaseException.__getattribute__" == Value.builtin "object.__getattribute__") = false := by decide +kernel
  unfold getAttr? getAttrBy? getAttrBy
  refine wpAny_bind (wpAny_mkText (wpAny_bind (wpAny_attempt (wpAny_holding (wpAny_bind (ty.at (wpAny_bind ((looks_findIn (M := model prog w) X C.hg).at ?_))))))))
  show wpAny _ _ (if (onTheHeap (Value.ref D) && Value.builtin "BaseException.__getattribute__" == Value.builtin "object.__getattribute__") = true then _ else _) _ _ _
  rw [other, Bool.and_false, if_neg Bool.false_ne_true]
  unfold getAttrByItsOwn hookBefore
  refine wpAny_bind ?_
  rw [if_pos (show onTheHeap (Value.ref D) = true from rfl)]
  refine (looks_findIn (M := model prog w) X C.hk).at (wpAny_bind (wpAny_attempt (wpAny_holding ?_)))
  unfold callGetattribute
  rw [show (false && onTheHeap (Value.builtin "BaseException.__getattribute__")) = false from rfl, if_neg Bool.false_ne_true]
  unfold boundAndCalled
  rw [PySem.F.excAttr_ValueError.ga.bind (.ref x)]
  refine wpAny_bind (wpAny_pure ?_)
  show wpAny _ _ (call (.builtin "BaseException.__getattribute__") [.ref x, .str "__class__" t]) _ _ _
  refine wpAny_call (codeAny_call_builtin PySem.F.excAttr_ValueError.ga.plain PySem.F.entry_bexc_ga ?_)
  refine @check_slot (model prog w) _ _ ⟨hp, g, dr, t + 1, os⟩ "BaseException.__getattribute__" "BaseException" "__getattribute__" (.ref x) [.str "__class__" t] [] _ (by decide +kernel) (by decide +kernel) sub (PySem.F.args_bexc_ga (.ref x) (.str "__class__" t)) ?_
  unfold Builtin.«object.__getattribute__»
  refine wpAny_bind (wpAny_of_eq (a := ((Value.ref x : Value), [Value.str "__class__" t])) (by first | rfl | (simp only [slotArgs]; rfl)) ?_)
  refine wpAny_bind (wpAny_pure (wpAny_bind (ty.at (wpAny_bind (find.at ?_)))))
  show wpAny _ _ (holding [Value.builtin "object.__class__"] (call (.builtin "getset_descriptor.__get__") [.builtin "object.__class__", .ref x, .ref D]) >>= ret) _ _ _
  refine wpAny_bind (wpAny_holding (wpAny_call (class_get (s := ⟨hp, g, dr, t + 1, os⟩) (ox := ox) (od := od) X I C.hm (wpAny_pure ?_))))
  show wpAny _ _ (handedOut (.ref D)) _ _ _
  rw [handedOut_of (v := .ref D) rfl]
  first
    | exact wpAny_pure (wpAny_pure h)
    | exact wpAny_pure h
    | exact wpAny_pure (wpAny_bind (wpAny_pure (wpAny_pure h)))
open PySem.W in
theorem kit_err (C : ExcC K D) (o : Obj) : KitX K (.ref x) (.ref D) (fun h => InstAt h x ox D (some o)) := by
  have hc : (clsIn K D).isSome = true := by
    obtain ⟨cd, h, _⟩ := any_some C.hd
    rw [h]
    rfl
  refine ⟨fun _ _ _ I => I.type, ?_, ?_, ?_⟩
  · intro M h X _
    obtain ⟨cd, e⟩ := Option.isSome_iff_exists.mp hc
    unfold clsIn at e
    split at e
    · rename_i l
      intro A' Q' E' s' k q
      unfold isType loadHead
      exact wpAny_bind (wpAny_loadPart (k _ _ (X _ _ l)) (wpAny_pure q))
    · cases e
  · intro h tp dd its n sl X ht
    refine beq_eq_false_iff_ne.mpr fun q => ?_
    have ed : D = tp := Value.ref.inj q
    subst ed
    obtain ⟨cd, e⟩ := Option.isSome_iff_exists.mp hc
    unfold clsIn at e
    split at e
    · rename_i l
      have z := (X _ _ l).symm.trans ht
      cases z
    · cases e
  · exact fun X I k => class_of_err C (findObj_data hc C.ha C.hn C.ht) X I k
end
/-! room within a suite -/
theorem _root_.L2H.RoomH.units {k : Nat} {A : Around} (r : L2H.RoomH k A) : A.units + 64 < cLine := by have := r.un; omega
theorem roomH_suite {k : Nat} {A : Around} (r : Room k A) (h : Option Value) : L2H.RoomH k (A.mark h) := ⟨r.dp, r.un⟩
theorem room65H {k : Nat} {A : Around} (r : L2H.RoomH k A) : A.units + 65 < cLine := by have := r.un; omega
/-! a def that is handed a caught error: its object is not among the caller's things, nor a frame -/
structure AtE (outer : List Env) (s : Shared) (H : Hp) (a : Addr) (oe : Obj) : Prop where
  get : s.heap.get? a = some oe
  non : H a = none
  fr : a ∉ frs outer
theorem AtE.later {X : Cx} {pins : List (Addr × Obj)} {σ : L2.St} {H : Hp} {s : Shared} {a : Addr} {oe : Obj} (t : AtE X.outer X.s_0 X.H_0 a oe) (hx : X.ex = []) (I : Inv X pins σ H s) : s.heap.get? a = some oe :=
  I.base.keep a oe t.get t.non t.fr (by rw [hx]; exact List.not_mem_nil)
theorem AtE.pinned {X : Cx} {pins : List (Addr × Obj)} {σ : L2.St} {H : Hp} {s : Shared} {a : Addr} {oe : Obj} (hs : X.stack = X.env :: X.outer) (hf : X.env.frame = some X.env.locals) (hm : (a, oe) ∈ X.pn ++ pins) (I : Inv X pins σ H s) : AtE X.stack s H a oe := by
  obtain ⟨h1, h2, h3, h4, _⟩ := I.pin (a, oe) hm
  refine ⟨h1, h2, ?_⟩
  rw [hs]
  intro z
  have e : frs (X.env :: X.outer) = X.env.locals :: frs X.outer := by
    unfold frs
    rw [List.filterMap_cons, hf]
  rw [e] at z
  rcases List.mem_cons.mp z with z | z
  · exact h3 z
  · exact h4 z
structure FnE (a : Addr) (oe : Obj) (P : Program) (w : World) (K : PySem.W.Frag) (mg : Str → Option Value) (base : Heap) (k : Nat) (f : Addr) (fd : FuncData) (ps : List Str) (sp : Sp) : Prop where
  len : ∀ vs H Q E, sp vs H Q E → vs.length = ps.length
  run : ∀ (A : Around) (outer : List Env) (s : Shared) (H : Hp) (args : Args) (us : List Value) (vs : List V) (Q : VK) (E : XK), A.guards = some [] → L2H.RoomH k A →
    Env0 P w K mg base A outer s H → AtE outer s H a oe → BindsTo s fd args (ps.zip us) → Vals vs us → sp vs H Q E → codeAny (model P w) A (.call (.ref f) args) (CR (L2.CX P w) outer P w H s Q E) s
theorem fnE_of {a : Addr} {oe : Obj} {P : Program} {w : World} {K : PySem.W.Frag} {mg : Str → Option Value} {base : Heap} {x qual : Str} {st : Stmt} {f : Addr} {fd : FuncData} {N ps : List Str} {k : Nat} {sp : Sp}
    (F : Fun K x qual st f fd) (S : FnScope N ps (defScope st)) (hcl : ∀ v, oe.data ≠ .cell v) (hn : ∀ vs H Q E, sp vs H Q E → vs.length = ps.length)
    (body : ∀ (cdv : Value) (A : Around) (outer : List Env) (s : Shared) (H : Hp) (vs : List V) (Q : VK) (E : XK), A.guards = some [] → L2H.RoomH k (A.deeper (envOfC qual (defScope st) s.heap.objs.size f cdv)) → AtE outer s H a oe → sp vs H Q E →
      ∃ t, PSs (L2H.cxH (L2.CX P w) P w K mg base N qual (defScope st) f cdv A outer s H E (a, oe)) (defBody st) t ∧ t { nx := fun _ H' => Q .non H', rt := Q } (start N vs) H) :
    FnE a oe P w K mg base (k + 1) f fd ps sp := by
  obtain ⟨oc, od, kV, doc, pm, an, cdv, ct, osl, rfl, lk, hcd⟩ := F.ex
  refine ⟨hn, fun A outer s H args us vs Q E hgd hrm e0 hat hbind hvals hspec => ?_⟩
  have hlen : vs.length = ps.length := hn vs H Q E hspec
  have kin : K.In s.heap := fnG_of.Frag_keeps e0
  have nolim : s.heap.NoLimit := fnG_of.nolim_keeps e0
  have kinds : ∀ y ∈ ps.zip us, (defScope st).names.lookup y.1 = some .local ∨ ((defScope st).names.lookup y.1 = some .cell ∧
      ((cellsFrom (s.heap.objs.size + 1) (defScope st).names []).lookup y.1).isSome = true) := by
    intro y hy
    cases S.par y.1 (List.of_mem_zip (a := y.1) (b := y.2) hy).1 with
    | inl q => exact Or.inl q
    | inr q => exact Or.inr ⟨q, PySem.W.cellsFrom_some _ _ _ (Or.inl q)⟩
  have enter := hbind
  refine codeAny_call_function hrm.depth
    (kin _ _ lk) rfl S.co S.gen rfl
    (PySem.W.codeRec_of kin hcd) (enter _ _ _ _ ?_)
  refine wpAny_newFunctionEnv_cells S.kind kinds
    fun env' henv s' inC => ?_
  subst henv
  refine ⟨nolim.keeps inC.toInCall.keep, codeAny_func ?_⟩
  obtain ⟨t, hps, hstart⟩ := body cdv A outer s H vs Q E hgd (hrm.deeper _) hat hspec
  have inv0 := L2H.inv_startH (CX := L2.CX P w) (P := P) (w := w) (K := K) (mg := mg) (base := base) (qual := qual) (f := f) (cd := cdv) (E := E) (p := (a, oe)) S ⟨hat.get, hat.non, hat.fr, hcl⟩ e0 hlen hvals inC
  refine wpAny_mono (hps.run [] s' (start N vs) H _ inv0 hstart) (fun fl s2 hend => ?_) (fun _ _ z => z)
  match fl, hend with
  | .ret u, hend =>
    obtain ⟨v, σ2, H2, J, rv, q⟩ := hend
    exact ⟨v, H2, J.os, J.bare, J.base, J.hok, rv, q⟩
  | .next, hend =>
    obtain ⟨σ2, H2, J, q⟩ := hend
    exact ⟨.non, H2, J.os, J.bare, J.base, J.hok, (show RelV V.non Value.none from rfl), q⟩
  | .brk, hend =>
    obtain ⟨_, _, _, q⟩ := hend
    exact q.elim
  | .cont, hend =>
    obtain ⟨_, _, _, q⟩ := hend
    exact q.elim
theorem defE {a : Addr} {oe : Obj} {P : Program} {w : World} {K : PySem.W.Frag} {mg : Str → Option Value} {base : Heap} {x qual : Str} {st : Stmt} {f : Addr} {fd : FuncData} {N ps : List Str} {k : Nat} {sp : SpD} {ws : WS}
    (F : Fun K x qual st f fd) (S : FnScope N ps (defScope st)) (hfs : ∃ vs, oe.data = .fields vs) (hl : ∀ ds μ Pd R, sp ds μ Pd R → ds.length = ps.length)
    (der : ∀ (cdv : Value) (A : Around) (outer : List Env) (s : Shared) (H : Hp) (E : XK), A.guards = some [] → L2H.RoomH k (A.deeper (envOfC qual (defScope st) s.heap.objs.size f cdv)) → AtE outer s H a oe →
      QSs (L2H.cxH (L2.CX P w) P w K mg base N qual (defScope st) f cdv A outer s H E (a, oe)) (fun cls d _ H => E cls d H) (defBody st) ws)
    (vc : ∀ ds μ Pd R, sp ds μ Pd R → ws (fun _ C fs μ' => R C fs μ') { nx := fun _ μ' => Pd .non μ', rt := Pd } (startD N.length ds) μ) 
    : FnE a oe P w K mg base (k + 1) f fd ps (spOf K sp) := by
  have hpl : ps.length ≤ N.length := by
    have := congrArg List.length S.pre
    rw [List.length_take] at this
    omega
  refine fnE_of F S (fun v z => by obtain ⟨vs, e⟩ := hfs; rw [e] at z; cases z) (fun vs H Q E h => ?_) (fun cdv A outer s H vs Q E gd hr hat h => ?_)
  · obtain ⟨ι, μ, ds, Pd, R, r, i, q, _, _⟩ := h
    rw [i.length]
    exact hl _ _ _ _ q
  · obtain ⟨ι, μ, ds, Pd, R, r, i, q, kt, kx⟩ := h
    obtain ⟨t, h1, h2⟩ := der cdv A outer s H E gd hr hat
    refine ⟨t, h1, ?_⟩
    have env := env_start ds vs N (by rw [hl _ _ _ _ q]; exact hpl) i
    refine h2 (fun _ C fs μ' => R C fs μ') ι μ _ _ H _ _ ⟨r, env, ?_⟩ (vc ds μ Pd R q) ?_
    · exact fun ι' μ' δ' σ' H' C fs d s' r' e' hf z => kx C fs d ι' μ' H' s' r' hf z
    · exact ⟨fun ι' μ' H' δ' σ' s' r' e' z => kt .non .non ι' μ' H' s' r' rfl z, fun v d ι' μ' H' s' r' i' z => kt v d ι' μ' H' s' r' i' z, fun _ _ _ _ _ _ _ _ z => z.elim, fun _ _ _ _ _ _ _ _ z => z.elim⟩

section
variable {X : Cx} {k : Nat} {f : Addr} {fd : FuncData} {ps : List Str} {sp : Sp}
/-- such a def is called -/
theorem runE {a : Addr} {oe : Obj} {pins : List (Addr × Obj)} {σ : L2.St} {H : Hp} {s : Shared} {Q : VK} {us xs : List Value} {kw : List (Str × Value)} {vs : List V} {E : XK}
    (F : FnE a oe X.prog X.w X.K X.mg X.base k f fd ps sp) (gd : X.A.guards = some []) (hr : L2H.RoomH k X.A) (hx : PassesAt (L2.CX X.prog X.w) X σ E) (I : Inv X pins σ H s) (hat : AtE X.stack s H a oe)
    (hb : BindsTo s fd ⟨us, kw⟩ (ps.zip xs)) (r : Vals vs xs) (h : sp vs H Q E) : wpAny (model X.prog X.w) X.A (call (.ref f) us kw) (EP X pins σ Q) X.xe s := by
  have go := F.run X.A X.stack s H ⟨us, kw⟩ xs vs Q E gd hr I.env0 hat hb r h
  refine wpAny_call (codeAny_mono go ?_)
  intro res s' hres
  match res, hres with
  | .error e, hres => exact hx pins H s e s' I hres
  | .ok (.ret u), hres => exact I.after hres
  | .ok .next, hres => exact False.elim hres
  | .ok .brk, hres => exact False.elim hres
  | .ok .cont, hres => exact False.elim hres
variable {x : Str} {p pos : Pos} {e : Expr} {es : List Expr} {t tk : TA} {E : L2.St → XK}
theorem pe_callE {a : Addr} {oe : Obj} (F : FnE a oe X.prog X.w X.K X.mg X.base k f fd ps sp) (gd : X.A.guards = some []) (hr : L2H.RoomH k X.A) (hg : Gl X x) (hm : X.mg x = some (.ref f)) (hk : PySem.W.keepIn X.K (.ref f) = true) (hb : Binds X.K fd ps [])
    (hat : ∀ (pins : List (Addr × Obj)) (σ : L2.St) (H : Hp) (s : Shared), Inv X pins σ H s → AtE X.stack s H a oe) (hx : ∀ σ, PassesAt (L2.CX X.prog X.w) X σ (E σ)) (ha : PA X (e :: es) t) (hdb : (x == ("__debug__" : Str)) = false := by decide)
    (he : starEach (e :: es) X.env = (false, eval e X.env) :: starEach es X.env := by rfl) (hpl : (backTo pos (starEach es X.env)).any (·.1) = false := by rfl) :
    PE X (.Call (.Name x p) (e :: es) [] pos) (tCallS sp E t) := by
  refine ⟨fun pins s σ H Q I h => ?_⟩
  refine wpAny_Call_Name_kw (ld_glob I hg hm ?_ hdb)
  have args := ha.run pos pins s σ H _ I h
  refine PySem.W.callWith_K (h₀ := X.base) I.ok.mod.kin hk (thn args ?_) he hpl
  intro us s1 hq
  obtain ⟨vs, H1, I1, r, q⟩ := hq
  refine ⟨I1.kIn, ?_⟩
  have hl : us.length = ps.length := r.length.symm.trans (F.len _ _ _ _ q)
  have b := hb s1 us I1.kIn (by rw [List.append_nil]; exact hl)
  rw [List.append_nil] at b
  exact runE F gd hr (hx σ) I1 (hat _ _ _ _ I1) b r q
end
section
variable {X : Cx} {W : WX} {k : Nat} {f : Addr} {fd : FuncData} {ps : List Str} {sp : SpD} {x : Str} {p pos : Pos} {e : Expr} {es : List Expr} {wa wk : WA}
theorem q_callE {a : Addr} {oe : Obj} (F : FnE a oe X.prog X.w X.K X.mg X.base k f fd ps (spOf X.K sp)) (gd : X.A.guards = some []) (hr : L2H.RoomH k X.A) (hg : Gl X x) (hm : X.mg x = some (.ref f)) (hk : PySem.W.keepIn X.K (.ref f) = true) (hb : Binds X.K fd ps [])
    (hat : ∀ (pins : List (Addr × Obj)) (σ : L2.St) (H : Hp) (s : Shared), Inv X pins σ H s → AtE X.stack s H a oe) (tk : Takes X W) (ha : QA X W (e :: es) wa) (hdb : (x == ("__debug__" : Str)) = false := by decide)
    (he : starEach (e :: es) X.env = (false, eval e X.env) :: starEach es X.env := by rfl) (hpl : (backTo pos (starEach es X.env)).any (·.1) = false := by rfl) :
    QE X W (.Call (.Name x p) (e :: es) [] pos) (wCall sp wa) := by
  obtain ⟨t, h1, h2⟩ := ha
  refine ⟨_, pe_callE (E := L2.WE W) F gd hr hg hm hk hb hat (fun σ => passAt tk σ) h1 hdb he hpl, fun R ι μ δ σ H P Q c h kt => ?_⟩
  exact h2 R ι μ δ σ H _ _ c h fun vs ds ι1 μ1 H1 s1 r1 i1 q1 => ⟨ι1, μ1, ds, P, _, r1, i1, q1, kt.stp s1, ktx_of (μ' := μ1) c.xl c.env s1⟩
/-- in a suite of try that holds the error -/
theorem at_suite {X : Cx} {a : Addr} {oe : Obj} {pn : List (Addr × Obj)} (hs : (X.suite a ((a, oe) :: pn)).stack = (X.suite a ((a, oe) :: pn)).env :: (X.suite a ((a, oe) :: pn)).outer) (hf : (X.suite a ((a, oe) :: pn)).env.frame = some (X.suite a ((a, oe) :: pn)).env.locals)
    (hp : (X.suite a ((a, oe) :: pn)).pn = (a, oe) :: pn) : ∀ (pins : List (Addr × Obj)) (σ : L2.St) (H : Hp) (s : Shared), Inv (X.suite a ((a, oe) :: pn)) pins σ H s → AtE (X.suite a ((a, oe) :: pn)).stack s H a oe :=
  fun pins σ H s I => AtE.pinned hs hf (by rw [hp]; exact List.mem_append_left _ (List.mem_cons_self ..)) I
end
/-! isinstance of a handed error, its field -/
/-- what a class of errors must say, so that its fields are read plainly -/
structure FldC (K : PySem.W.Frag) (C : Addr) (f : Str) : Prop where
  ga : PySem.W.findIn K (.ref C) "__getattribute__" = some (some (.builtin "BaseException.__getattribute__"))
  gg : PySem.W.findIn K (.ref C) "__getattr__" = some none
  exC : PySem.W.subIn K (.ref C) (.type "BaseException") = some true
  hdC : PySem.W.hasDictIn K C = true
  noF : PySem.W.findIn K (.ref C) f = some none
/-- the class that stands behind data -/
def clsOf : D → Option Value
  | .adr A => some (.ref A)
  | .ty n => some (.type n)
  | _ => none
theorem inst_dict {X : Cx} {pins : List (Addr × Obj)} {σ : L2.St} {H : Hp} {s : Shared} {a C dx : Addr} {oe : Obj} {fs : List (Str × V)} (I : Inv X pins σ H s) (ha : s.heap.get? a = some oe) (hz : Zc (.ref C) (some dx) oe) (hf : ∃ vs, oe.data = .fields vs) (hx : H dx = some (.xd fs)) :
    ∃ od mA, s.heap.get? dx = some od ∧ PySem.W.InstAt s.heap a oe C (some od) ∧ s.heap.Ns1 dx mA ∧ (∀ f, RelO (fs.lookup f) (mA f)) := by
  obtain ⟨vs, hdat⟩ := hf
  have kept : ObjOk X.prog X.w H s.heap dx (.xd fs) := I.hok dx _ hx
  obtain ⟨mA, hns, hrel⟩ := kept
  obtain ⟨od, ho, hl⟩ := lookIn_ns hns
  exact ⟨od, mA, ho, ⟨ha, hz.1, by unfold PySem.W.notCls; rw [hdat] <;> rfl, by rw [hz.2]; exact ho⟩, hns, hrel⟩
/-- the dict that an error's fields lie in is there -/
def DxAt (H : Hp) : Option Addr → Prop
  | some dx => ∃ fs, H dx = some (.xd fs)
  | none => True
theorem call_isX {X : Cx} {a C : Addr} {d : Option Addr} {oe : Obj} (hz : Zc (.ref C) d oe) (hf : ∃ vs, oe.data = .fields vs) (later : ∀ (pins : List (Addr × Obj)) (σ : L2.St) (H : Hp) (s : Shared), Inv X pins σ H s → s.heap.get? a = some oe) :
    CallR X (.builtin "isinstance") (fun xs H Q => ∃ (c : V) (cv : Value) (b : Bool), xs = [.ref a, c] ∧ (∀ u, RelV c u → u = cv) ∧ ExcC X.K C ∧ PySem.W.kitOne X.K (.ref C) cv = some b ∧ DxAt H d ∧ Q (.bl b) H) := by
  intro pins s σ H xs us Q I r h
  obtain ⟨c, cv, b, rfl, hcv, T, e, hx, q⟩ := h
  cases r with
  | cons rx rr =>
    cases rr with
    | cons rt rr =>
      cases rr
      cases rx
      have ec := hcv _ rt
      subst ec
      have ha := later _ _ _ _ I
      cases d with
      | some dx =>
        obtain ⟨fs, hx⟩ := hx
        obtain ⟨od, mA, ho, J, _, _⟩ := inst_dict I ha hz hf hx
        exact PySem.W.kia_one (kit_err T od) I.kIn J e (fun z => nomatch z) fun tk => ⟨.bl b, H, I.kept (t' := tk) fun _ _ z => z, rfl, q⟩
      | none =>
        obtain ⟨vs, hdat⟩ := hf
        have J : PySem.W.InstAt s.heap a oe C none := ⟨ha, hz.1, by unfold PySem.W.notCls; rw [hdat] <;> rfl, by rw [hz.2]; exact True.intro⟩
        exact PySem.W.kia_one (PySem.W.handS_kitx_exc T.hg T.hk T.hs T.hd T.ha T.hn T.ht T.hm) I.kIn J e (fun z => nomatch z) fun tk => ⟨.bl b, H, I.kept (t' := tk) fun _ _ z => z, rfl, q⟩
/-- e is the error at a of the class C, its fields in d -/
def IsErr (a C : Addr) (d : Option Addr) (e : D) : Prop := match d with
  | some dx => ∃ ns es, e = .exc a C dx ns es
  | none => e = .adr a
theorem IsErr.is {K : PySem.W.Frag} {ι : List Addr} {H : Hp} {a C : Addr} {d : Option Addr} {e : D} {v : V} (h : IsErr a C d e) (i : Is K ι H e v) : v = .ref a ∧ DxAt H d := by
  cases d with
  | some dx =>
    obtain ⟨ns, es, rfl⟩ := h
    obtain ⟨e4, ws, hx, _, _⟩ := i
    exact ⟨e4, _, hx⟩
  | none =>
    have h' : e = .adr a := h
    subst h'
    exact ⟨i, trivial⟩
/-- isinstance(e, c), e an error that was handed -/
def wIsE (K : PySem.W.Frag) (a : Addr) (cls : Value) (d : Option Addr) : WB := fun ds μ P => match ds with
  | [e, t] => ∃ C, cls = .ref C ∧ IsErr a C d e ∧ ExcC K C ∧ ∃ cv b, clsOf t = some cv ∧ PySem.W.kitOne K cls cv = some b ∧ P (.bl b) μ
  | _ => False
theorem qb_isE {X : Cx} {a : Addr} {cls : Value} {d : Option Addr} {oe : Obj} (hz : Zc cls d oe) (hf : ∃ vs, oe.data = .fields vs) (later : ∀ (pins : List (Addr × Obj)) (σ : L2.St) (H : Hp) (s : Shared), Inv X pins σ H s → s.heap.get? a = some oe) :
    QB X (.builtin "isinstance") (wIsE X.K a cls d) := by
  have go : CallR X (.builtin "isinstance") (fun xs H Q => ∃ (C : Addr) (c : V) (cv : Value) (b : Bool), cls = .ref C ∧ xs = [.ref a, c] ∧ (∀ u, RelV c u → u = cv) ∧ ExcC X.K C ∧ PySem.W.kitOne X.K (.ref C) cv = some b ∧ DxAt H d ∧ Q (.bl b) H) := by
    intro pins s σ H xs us Q I r h
    obtain ⟨C, c, cv, b, ec, h⟩ := h
    subst ec
    exact call_isX hz hf later pins s σ H xs us Q I r ⟨c, cv, b, h⟩
  refine ⟨_, go, fun ι μ H vs ds P Q r i h k => ?_⟩
  unfold wIsE at h
  split at h
  · rename_i e1 t1
    obtain ⟨C, ec, he, T, cv, b, hc, hb, q⟩ := h
    subst ec
    obtain ⟨v, u, ev, iv, iu⟩ := isAll2 i
    obtain ⟨e4, hx⟩ := he.is iv
    refine ⟨C, u, cv, b, rfl, by rw [ev, e4], fun y ry => ?_, T, hb, hx, k.at r (d := .bl b) rfl q⟩
    cases t1 with
    | adr A =>
      have eu : u = .ref A := iu
      subst eu
      cases ry
      exact Option.some.inj hc
    | ty n =>
      have eu : u = .ty n := iu
      subst eu
      have ey : y = .type n := ry
      rw [ey]
      exact Option.some.inj hc
    | _ => cases hc
  · exact h.elim
/-- e.f, e an error that was handed -/
def tFldE (K : PySem.W.Frag) (f : Str) (a : Addr) (cls : Value) (d : Option Addr) (te : TE) : TE := fun σ H Q => te σ H fun y H1 => y = .ref a ∧ ∃ (C dx : Addr) (v : V), cls = .ref C ∧ FldC K C f ∧ d = some dx ∧ H1 dx = some (.xd [(f, v)]) ∧ Q v H1
theorem pe_fldE {X : Cx} {f : Str} {a : Addr} {oe : Obj} {cls : Value} {d : Option Addr} {e : Expr} {te : TE} {ep : Pos} (hz : Zc cls d oe) (hf : ∃ vs, oe.data = .fields vs) (later : ∀ (pins : List (Addr × Obj)) (σ : L2.St) (H : Hp) (s : Shared), Inv X pins σ H s → s.heap.get? a = some oe) (he : PE X e te)
    (hb : attributeBase e f X.env (eval e X.env) = eval e X.env) : PE X (.Attribute e f ep) (tFldE X.K f a cls d te) := by
  refine ⟨fun pins s σ H Q I h => ?_⟩
  refine attr_of hb (thn (he.run pins s σ H _ I h) fun u s1 hh => ?_)
  obtain ⟨y, H1, I1, ry, ey, C, dx, v, ec, T, ed, ea, q⟩ := hh
  subst ey ec ed
  obtain rfl : u = Value.ref a := ry
  obtain ⟨od, mA, ho, J, hns, hrel⟩ := inst_dict I1 (later _ _ _ _ I1) hz hf ea
  obtain ⟨od', ho', hl⟩ := lookIn_ns hns
  have eo : od = od' := Option.some.inj (ho.symm.trans ho')
  have lk : List.lookup f [(f, v)] = some v := by simp [List.lookup]
  obtain ⟨u', hu, ru⟩ := RelO.some_of (v := v) (o := mA f) (by rw [← lk]; exact hrel f)
  exact HandSPX.exc_get I1.kIn J T.ga T.gg T.exC (PySem.W.findObj_own T.hdC T.noF rfl (by rw [eo, hl, hu])) (handed_of ru) ⟨v, H1, I1.tok _, ru, q⟩
def wFldE (K : PySem.W.Frag) (f : Str) (a : Addr) (cls : Value) (d : Option Addr) (we : WE) : WE := fun R δ μ P => we R δ μ fun y μ1 => match y with
  | .exc a' C' dx ns ds => a' = a ∧ cls = .ref C' ∧ d = some dx ∧ ns = [f] ∧ FldC K C' f ∧ (match ds with
    | [z] => P z μ1
    | _ => False)
  | _ => False
theorem q_fldE {X : Cx} {W : WX} {f : Str} {a : Addr} {oe : Obj} {cls : Value} {d : Option Addr} {e : Expr} {we : WE} {ep : Pos} (hz : Zc cls d oe) (hf : ∃ vs, oe.data = .fields vs) (later : ∀ (pins : List (Addr × Obj)) (σ : L2.St) (H : Hp) (s : Shared), Inv X pins σ H s → s.heap.get? a = some oe) (he : QE X W e we)
    (hb : attributeBase e f X.env (eval e X.env) = eval e X.env := by rfl) : QE X W (.Attribute e f ep) (wFldE X.K f a cls d we) := by
  obtain ⟨t, h1, h2⟩ := he
  refine ⟨_, pe_fldE hz hf later h1 hb, fun R ι μ δ σ H P Q c h k => h2 R ι μ δ σ H _ _ c h fun v y ι1 μ1 H1 s1 r1 i1 q1 => ?_⟩
  cases y with
  | exc a' C' dx ns ds =>
    obtain ⟨e1, e2, e4, e5, T, q⟩ := q1
    obtain ⟨ev, vs, hx, hl, hall⟩ := i1
    subst e1 e2 e4 e5 ev
    match ds, hall, q with
    | [z], hall, q =>
      obtain ⟨v, r, ev, iv, er⟩ := hall
      have er' : r = [] := er
      subst er' ev
      exact ⟨rfl, C', dx, v, rfl, T, rfl, hx, k v z ι1 μ1 H1 s1 r1 iv q⟩
    | [], _, q => exact q.elim
    | _ :: _ :: _, _, q => exact q.elim
  | _ => exact q1.elim
/-- a thing is laid while an error is under way -/
theorem fly_push {base : Heap} {l : List Env} {a : Addr} {Z : Obj → Prop} {h : Heap} {o : Obj} (fl : HandSPX.FlyingZ base l a Z h) : HandSPX.FlyingZ base l a Z (h.push o) ∧ h.UpToSlots (h.push o) := by
  have kp : ∀ b u, h.get? b = some u → (h.push o).get? b = some u := fun _ _ z => Heap.get?_push_of_some _ z
  obtain ⟨f1, f2, f3, oe, vs, T, oT, ts, t1, t2, t3, t4, t5, t6, t7, t8⟩ := fl
  exact ⟨⟨fun b u z => kp _ _ (f1 b u z), f2, f3.of_keeps fun b u z _ => ⟨u, kp _ _ z, rfl⟩, oe, vs, T, oT, ts, kp _ _ t1, t2, t3, t4, t5, t6, kp _ _ t7, t8⟩, fun b u z _ => ⟨u.slots, kp _ _ z⟩⟩
end HD
/-! HD29: except (A, B, C) as e. -/
namespace HD
open PySem PySem.Spec PyProof.Rows L2
def wAs3 (K : PySem.W.Frag) (cs : List Value) (i : Nat) (ts : Addr → Value → Option Addr → TS) (Wout : L2.WX) (D : Ends) : L2.WX := fun cls d σ H =>
  ∃ b, PySem.W.exmAny K cls cs = some b ∧ (b = true → ∀ a, H a = none → ts a cls d { nx := fun σ' H' => D.nx (σ'.set i none) H', rt := D.rt, bk := fun σ' H' => D.bk (σ'.set i none) H', ct := fun σ' H' => D.ct (σ'.set i none) H' } (σ.set i (some (.ref a))) H) ∧
    (b = false → Wout cls d σ H)
section
variable {X : Cx} {x1 x2 x3 n : Str} {c1 c2 c3 : Value} {i kk : Nat} {body suite : List Stmt} {b₀ : Stmt} {p1 p2 p3 tpos pos pos' : Pos} {tb : L2.WX → TS} {ts : Addr → Value → Option Addr → TS} {Wout : L2.WX}
/-- the name of a class, read in a suite -/
theorem ld_names {Y : Cx} {pins : List (Addr × Obj)} {σ : L2.St} {H : Hp} {s : Shared} {x : Str} {c : Value} {np : Pos} {Q E : Value → Shared → Prop} (hc : Names Y x c) (I : Inv Y pins σ H s) (q : Q c s) : wpAny (model Y.prog Y.w) Y.A (eval (.Name x np) Y.env) Q E s := by
  obtain ⟨hg, hdbg, hm | ⟨hm, hv, hnn⟩⟩ := hc
  · exact ld_glob I hg hm q hdbg
  · exact ld_blt I hg hm hv q hnn hdbg
theorem not_frame {B h : Heap} {l : List Env} {a : Addr} {o : Obj} {vs : Array Value} (ff : h.FunFrames B l) (e : h.get? a = some o) (dd : o.data = .fields vs) : a ∉ frs l := fun hm => by
  obtain ⟨_, o', e', hnf⟩ := ff.mem hm
  rw [e] at e'
  cases e'
  exact hnf _ dd
theorem ps_try_as3 (hs : X.stack = X.env :: X.outer) (hf : X.env.frame = some X.env.locals) (hN : X.N.Nodup) (hi : X.N[i]? = some n) (hln : X.env.kindOf n = some .local) (n1 : Names X x1 c1) (n2 : Names X x2 c2) (n3 : Names X x3 c3) (tk : Takes X Wout)
    (hb : ∀ (W : L2.WX) (pn : List (Addr × Obj)) (xe : Value → Shared → Prop), Takes (X.tr pn xe) W → PassesOwn (model X.prog X.w) X.A X.env xe → PSs (X.tr pn xe) body (tb W))
    (hsu : ∀ (a : Addr) (oe : Obj) (cls : Value) (d : Option Addr) (pn : List (Addr × Obj)), Zc cls d oe → (∃ vs, oe.data = .fields vs) → PSs (X.suite a ((a, oe) :: pn)) (b₀ :: suite) (ts a cls d)) :
    PS X (.Try body [.ExceptHandler (some (.Tuple [.Name x1 p1, .Name x2 p2, .Name x3 p3] kk tpos)) (some n) (b₀ :: suite) pos'] [] [] pos) (fun D σ H => tb (wAs3 X.K [c1, c2, c3] i ts Wout D) D σ H) := by
  refine ⟨fun pins s σ H D I h => wpAny_Try_except ?_⟩
  have ok := I.ok
  refine wpAny_mono ((hb (wAs3 X.K [c1, c2, c3] i ts Wout D) (X.pn ++ pins) (fun e s₁ => wpAny (model X.prog X.w) X.A (noteFrame e X.env) (fun _ s₂ => wpAny (model X.prog X.w) X.A (setFlight e none) (fun _ s₃ =>
    wpAny (model X.prog X.w) X.A (handleBy e X.env [.ExceptHandler (some (.Tuple [.Name x1 p1, .Name x2 p2, .Name x3 p3] kk tpos)) (some n) (b₀ :: suite) pos']) (SP X pins D) X.xe s₃) X.xe s₂) X.xe s₁) (fun u s' xx => ?_) PassesOwn.looking).run [] s σ H D (I.toTry _) h) (fun f s1 e => ?_) (fun _ _ z => z)
  · obtain ⟨a, B, sI, pins', σ', H', cls, d, rfl, J0, nb, up, sky, na, os, ag, b, hb1, hyes, hno⟩ := xx
    have J : Inv X pins σ' H' sI := J0.ofTry ok
    refine Sky.land Zc.steady (by rw [ok.frames, hs]) hf (by rw [← hs]; exact sky) fun h3 fl up3 => ?_
    -- what holds wherever the error lies quietly
    have at_ : ∀ (h : Heap), HandSPX.FlyingZ B (X.env :: X.outer) a (Zc cls d) h → sI.heap.UpToSlots h → Inv X pins σ' H' { s' with heap := h } ∧ ∃ oe vs, h.get? a = some oe ∧ Zc cls d oe ∧ oe.data = .fields vs ∧ a ≠ X.env.locals ∧ a ∉ X.fs ∧ Inv (X.suite a ((a, oe) :: (X.pn ++ pins))) [] σ' H' { s' with heap := h } := fun h f u => by
      have I' : Inv X pins σ' H' { s' with heap := h } := J.landed nb f.1 u os ag
      obtain ⟨oe, vs, he, hz, hd⟩ := f.there
      have nfr := not_frame f.2.2.1 he hd
      have nL : a ≠ X.env.locals := fun z => nfr (List.mem_filterMap.mpr ⟨X.env, List.mem_cons_self, by rw [hf, z]⟩)
      have nF : a ∉ X.fs := fun hm => by
        obtain ⟨e, he, q⟩ := List.mem_filterMap.mp hm
        exact nfr (List.mem_filterMap.mpr ⟨e, List.mem_cons_of_mem _ he, q⟩)
      exact ⟨I', oe, vs, he, hz, hd, nL, nF, I'.suite he hd na nL nF⟩
    obtain ⟨I3, oe3, vs3, he3, hz3, hd3, _, _, S3⟩ := at_ h3 fl (up.trans up3)
    have ty : PySem.W.Looks (model X.prog X.w) h3 (typeOf (.ref a)) cls := fun A Q E s k q => wpAny_typeOf_ref (k _ _ he3) (by rw [hz3.1]; exact q)
    refine wpAny_handleBy_cons (codeAny_handlers_test ?_) (by intro q; cases q)
    have m : ∀ {x : Str} {c : Value}, Names X x c → Names (X.suite a ((a, oe3) :: (X.pn ++ pins))) x c := fun h => h
    refine wpAny_Tuple (wpAny_items_cons (ld_names (m n1) S3 (wpAny_items_cons (ld_names (m n2) S3 (wpAny_items_cons (ld_names (m n3) S3 (wpAny_items_nil ⟨by size_fits, ?_⟩)))))))
    -- the tuple of the classes is laid; the match
    have kp : ∀ q o, h3.get? q = some o → (h3.push { cls := .type "tuple", data := .seq [c1, c2, c3].toArray }).get? q = some o := fun _ _ z => Heap.get?_push_of_some _ z
    obtain ⟨fl4, up4⟩ := fly_push (o := { cls := .type "tuple", data := .seq [c1, c2, c3].toArray }) fl
    refine (PySem.W.exm_tup3 (M := model X.prog X.w) (I3.kIn.keeps kp) (ty.keeps kp) (Heap.get?_push_size h3 rfl) hb1).here ?_
    generalize h3.push { cls := .type "tuple", data := .seq [c1, c2, c3].toArray } = h4 at fl4 up4 ⊢
    have u4 := (up.trans up3).trans up4
    cases b with
    | true =>
      refine codeAny_handlers_suite_as (HandSPX.lands_againZ fl4 fun h5 fl5 up5 => ?_)
      obtain ⟨_, oe, vs, he, hz, hd, _, _, S5⟩ := at_ h5 fl5 (u4.trans up5)
      refine store_ok (X := X.suite a ((a, oe) :: (X.pn ++ pins))) (v := .ref a) S5 hN hi (.inl hln) rfl (fun s5 S6 => ?_) (.inr hln)
      refine wpAny_mono ((hsu a oe cls d (X.pn ++ pins) hz ⟨_, hd⟩).run [] s5 _ H' _ S6 (hyes rfl a na)) (fun f s6 hsp => ?_) (fun _ _ z => False.elim z)
      have gone : ∀ {σ6 : L2.St} {H6 : Hp} {Q : Shared → Prop}, Inv (X.suite a ((a, oe) :: (X.pn ++ pins))) [] σ6 H6 s6 → (∀ s7, Inv X pins (σ6.set i none) H6 s7 → Q s7) →
          wpAny (model X.prog X.w) X.A (do bindName X.env n .none; unbindBehindTheSuite X.env n pos') (fun _ s7 => Q s7) X.xe s6 := fun S q => gone_ok (S.unsuite ok) hN hi hln q
      cases f with
      | ret u =>
        obtain ⟨v, _, _, S, r, q⟩ := hsp
        exact gone S fun _ J7 => ⟨v, _, _, J7, r, q⟩
      | next =>
        obtain ⟨_, _, S, q⟩ := hsp
        exact gone S fun _ J7 => ⟨_, _, J7, q⟩
      | brk =>
        obtain ⟨_, _, S, q⟩ := hsp
        exact gone S fun _ J7 => ⟨_, _, J7, q⟩
      | cont =>
        obtain ⟨_, _, S, q⟩ := hsp
        exact gone S fun _ J7 => ⟨_, _, J7, q⟩
    | false =>
      show wpAny _ X.A (handleBy (.ref a) X.env []) _ _ _
      refine wpAny_handleBy_nil ?_
      obtain ⟨_, _, _, oe, vs, T, oT, ts', he, hz, hd, h1, _⟩ := id fl4
      have out : wpAny (model X.prog X.w) X.A (setFlight (.ref a) X.env.frame) (fun _ s4 => wpAny (model X.prog X.w) X.A (throw (.ref a) : Sem Flow) (SP X pins D) X.xe s4) X.xe { s' with heap := h4 } := by
        rw [hf]
        exact HandSPX.setFlight_upZ fl4 fun h5 held up5 => wpAny_throw (tk _ _ ⟨a, B, sI, pins, σ', H', cls, d, rfl, J, nb, u4.trans up5, .inr (.inr (by rw [hs]; exact held)), na, os, ag, hno rfl⟩)
      unfold PySem.passOn
      refine wpAny_bind (wpAny_field he hd h1 ?_)
      rw [if_neg (show ¬ ((Value.ref T == Value.none) = true) from by simp)]
      first
        | exact wpAny_bind (wpAny_pure (wpAny_bind out))
        | exact wpAny_bind out
  · cases f with
    | ret u =>
      obtain ⟨v, _, _, J', r, q⟩ := e
      exact ⟨v, _, _, J'.ofTry ok, r, q⟩
    | next =>
      obtain ⟨_, _, J', q⟩ := e
      exact wpAny_execs_nil ⟨_, _, J'.ofTry ok, q⟩
    | brk =>
      obtain ⟨_, _, J', q⟩ := e
      exact ⟨_, _, J'.ofTry ok, q⟩
    | cont =>
      obtain ⟨_, _, J', q⟩ := e
      exact ⟨_, _, J'.ofTry ok, q⟩
end
def wTryAs3 (K : PySem.W.Frag) (cs : List Value) (i : Nat) (wb : WS) (wsu : Addr → Value → Option Addr → WS) : WS := fun R E δ μ =>
  wb (fun δ' C fs μ' => ∃ b, PySem.W.exmAny K (.ref C) cs = some b ∧ (b = true → ∀ a d, (d = none → fs = []) → wsu a (.ref C) d RN { nx := fun δ2 μ2 => E.nx (put δ2 i none) μ2, rt := E.rt, bk := fun δ2 μ2 => E.bk (put δ2 i none) μ2, ct := fun δ2 μ2 => E.ct (put δ2 i none) μ2 } (put δ' i (some (excD a C d fs))) μ') ∧ (b = false → R δ' C fs μ')) E δ μ
section
variable {X : Cx} {W : WX} {x1 x2 x3 n : Str} {c1 c2 c3 : Value} {i kk : Nat} {body suite : List Stmt} {b₀ : Stmt} {p1 p2 p3 tpos pos pos' : Pos} {wb : WS} {wsu : Addr → Value → Option Addr → WS}
theorem qs_tryAs3 (hs : X.stack = X.env :: X.outer) (hf : X.env.frame = some X.env.locals) (hN : X.N.Nodup) (hi : X.N[i]? = some n) (hln : X.env.kindOf n = some .local) (n1 : Names X x1 c1) (n2 : Names X x2 c2) (n3 : Names X x3 c3) (tk : Takes X W)
    (hb : ∀ (W' : WX) (pn : List (Addr × Obj)) (xe : Value → Shared → Prop), Takes (X.tr pn xe) W' → PassesOwn (model X.prog X.w) X.A X.env xe → QSs (X.tr pn xe) W' body wb)
    (hsu : ∀ (a : Addr) (oe : Obj) (cls : Value) (d : Option Addr) (pn : List (Addr × Obj)), Zc cls d oe → (∃ vs, oe.data = .fields vs) → QSs (X.suite a ((a, oe) :: pn)) WN (b₀ :: suite) (wsu a cls d)) :
    QS X W (.Try body [.ExceptHandler (some (.Tuple [.Name x1 p1, .Name x2 p2, .Name x3 p3] kk tpos)) (some n) (b₀ :: suite) pos'] [] [] pos) (wTryAs3 X.K [c1, c2, c3] i wb wsu) := by
  refine ⟨_, ps_try_as3 (i := i)
    (tb := fun W' D σ H => ∀ (pn : List (Addr × Obj)) (xe : Value → Shared → Prop), Takes (X.tr pn xe) W' → PassesOwn (model X.prog X.w) X.A X.env xe → ∃ t, PSs (X.tr pn xe) body t ∧ t D σ H)
    (ts := fun a cls d D σ H => ∀ (oe : Obj) (pn : List (Addr × Obj)), Zc cls d oe → (∃ vs, oe.data = .fields vs) → ∃ t, PSs (X.suite a ((a, oe) :: pn)) (b₀ :: suite) t ∧ t D σ H)
    hs hf hN hi hln n1 n2 n3 tk (fun W' pn xe tk' po => ⟨fun pins s σ H D I h => ?_⟩) (fun a oe cls d pn hz hd => ⟨fun pins s σ H D I h => ?_⟩), fun R ι μ δ σ H E D c1 h l => ?_⟩
  · obtain ⟨t, h1, h2⟩ := h pn xe tk' po
    exact h1.run pins s σ H D I h2
  · obtain ⟨t, h1, h2⟩ := h oe pn hz hd
    exact h1.run pins s σ H D I h2
  · intro pn xe tk' po
    obtain ⟨t, h1, h2⟩ := hb _ pn xe tk' po
    refine ⟨t, h1, h2 _ ι μ δ σ H E D ⟨c1.rel, c1.env, ?_⟩ h l⟩
    intro ι' μ' δ' σ' H' C fs d s' r' e' hd' q'
    obtain ⟨b, hb1, hyes, hno⟩ := q'
    refine ⟨b, hb1, fun hb2 a _ oe pn' hz hdat => ?_, fun hb2 => c1.xl ι' μ' δ' σ' H' C fs d s' r' e' hd' (hno hb2)⟩
    obtain ⟨t', g1, g2⟩ := hsu a oe (.ref C) d pn' hz hdat
    refine ⟨t', g1, g2 RN ι' μ' _ _ H' _ _ ⟨r', e'.put (is_excD a C hd'), xlN⟩ (hyes hb2 a d (dxNone hd')) ?_⟩
    exact ⟨fun ι2 μ2 H2 δ2 σ2 s2 r2 e2 z => l.nx ι2 μ2 H2 _ _ (s'.trans s2) r2 (e2.drop none) z, fun v y ι2 μ2 H2 s2 r2 i2 z => l.rt v y ι2 μ2 H2 (s'.trans s2) r2 i2 z,
      fun ι2 μ2 H2 δ2 σ2 s2 r2 e2 z => l.bk ι2 μ2 H2 _ _ (s'.trans s2) r2 (e2.drop none) z, fun ι2 μ2 H2 δ2 σ2 s2 r2 e2 z => l.ct ι2 μ2 H2 _ _ (s'.trans s2) r2 (e2.drop none) z⟩
end
/-! what the end of a law proves of classes of errors -/
section
variable {K : PySem.W.Frag} {R C : Addr} {t : Value} {T : String} {b : Bool}
theorem kit_cls_own (hd : PySem.W.hasDictIn K C = true) (ty : PySem.W.typeIn K (.ref C) = some (.type "type")) (h : PySem.W.subIn K t (.ref C) = some b) : PySem.W.kitCls K t (.ref C) = some b := by
  obtain ⟨cd, hc, _⟩ := PySem.W.any_some hd
  show (if ((PySem.W.clsIn K C).isSome && PySem.W.typeIn K (.ref C) == some (.type "type")) = true then PySem.W.subIn K t (.ref C) else none) = some b
  rw [hc, ty, if_pos (by simp)]
  exact h
/-- an error of the class R against an own class C -/
theorem kit_err_own (hd : PySem.W.hasDictIn K C = true) (ty : PySem.W.typeIn K (.ref C) = some (.type "type")) (self : PySem.W.subIn K (.ref R) (.ref R) = some true) (h : PySem.W.subIn K (.ref R) (.ref C) = some b) : PySem.W.kitOne K (.ref R) (.ref C) = some b := by
  unfold PySem.W.kitOne
  by_cases z : R = C
  · subst z
    rw [self] at h
    rw [if_pos (beq_self_eq_true _), ← h]
  · rw [if_neg (by simpa using z)]
    exact kit_cls_own hd ty h
/-- .. against a built-in class -/
theorem kit_err_type (m : PySem.W.kitMeta T = true) (h : PySem.W.subIn K (.ref R) (.type T) = some b) : PySem.W.kitOne K (.ref R) (.type T) = some b := by
  unfold PySem.W.kitOne PySem.W.kitCls
  rw [if_neg (by simp)]
  simp only [m, if_true]
  exact h
theorem exm_three {c1 c2 c3 cls : Value} {b1 b2 b3 : Bool} (h1 : PySem.W.exmOne K cls c1 = some b1) (h2 : PySem.W.exmOne K cls c2 = some b2) (h3 : PySem.W.exmOne K cls c3 = some b3) : PySem.W.exmAny K cls [c1, c2, c3] = some (b1 || (b2 || (b3 || false))) := by
  simp only [PySem.W.exmAny, h1, h2, h3]
end
/-- a class of errors that is named -/
structure ClsN (K : PySem.W.Frag) (mg : Str → Option Value) (x : Str) where
  C : Addr
  g : mg x = some (.ref C)
/-- two defs that make lambdas -/
theorem tabsOk_two {K : PySem.W.Frag} {h : Heap} {x1 x2 : Str} {st1 st2 : Stmt} {f1 f2 : Addr} {fd1 fd2 : FuncData} (X : K.In h) (m1 : MkT K x1 st1 f1 fd1) (m2 : MkT K x2 st2 f2 fd2) (own1 : LamX.OwnTab K f1 h) (own2 : LamX.OwnTab K f2 h) (ne : m1.p ≠ m2.p) (q1 q2 : Str) : TabsOk K h [m1.mk q1, m2.mk q2] := by
  have o1 := tabsOk_one X m1 own1 q1
  have o2 := tabsOk_one X m2 own2 q2
  have two : ∀ {P : Maker → Prop}, (∀ m ∈ [m1.mk q1], P m) → (∀ m ∈ [m2.mk q2], P m) → ∀ m ∈ [m1.mk q1, m2.mk q2], P m := fun h1 h2 m hm => by
    rcases List.mem_cons.mp hm with z | z
    · exact h1 m (by rw [z]; exact List.mem_cons_self ..)
    · exact h2 m z
  refine ⟨?_, two o1.empty o2.empty, two o1.out o2.out, two o1.code o2.code⟩
  show [m1.p, m2.p].Nodup
  rw [List.nodup_cons]
  exact ⟨fun z => ne (List.mem_singleton.mp z), by simp⟩
end HD
/-! HD30: str(x) by an own __str__. -/
namespace HD
open PySem PySem.Spec PyProof.Rows L2
section
variable {X : Cx} {C f : Addr} {k : Nat} {fd : FuncData} {ps : List Str} {sp : Sp} {spd : SpD}
def rStrO (C : Addr) (sp : Sp) : List V → Hp → VK → Prop := fun xs H Q => ∃ a dx fs, xs = [.ref a] ∧ H a = some (.ins C dx fs) ∧ sp [.ref a] H (fun v H' => ∃ t, v = .str t ∧ Q (.str t) H') fun _ _ _ => False
theorem call_strO (F : FnG X.prog X.w X.K X.mg X.base k f fd ps sp) (gd : X.A.guards = some []) (hr : Room (k + 2) X.A) (hm : Meth X.K C "__str__" f) (hb : Binds X.K fd ps []) : CallR X (.type "str") (rStrO C sp) := by
  intro pins s σ H xs us Q I r h
  obtain ⟨a, dx, fs, rfl, ha, q⟩ := h
  obtain ⟨u, rfl, r1⟩ := vals1 r
  obtain rfl : u = Value.ref a := r1
  obtain ⟨mA, J, _⟩ := ins_get I.hok ha
  obtain ⟨od, J, _⟩ := J.look
  have r2 : Vals [V.ref a] [Value.ref a] := .cons rfl .nil
  have hu : X.A.in1.in1.units < cLine := hr.in1.in1.units0
  refine PySem.W.kso_call hu I.kIn J hm.at_ hm.fn ?_
  refine wpAny_call (codeAny_mono (F.run X.A.in1.in1 X.stack s H ⟨[.ref a], []⟩ _ _ _ _ gd hr.in1.in1 I.env0.in1.in1 (bnd hb (r2.length.symm.trans (F.len _ _ _ _ q)) I.kIn) r2 q) fun r s' hq => ?_)
  cases r with
  | error e =>
    obtain ⟨_, _, _, _, _, _, _, _, _, _, _, _, z⟩ := hq
    exact z.elim
  | ok fl =>
    cases fl with
    | ret w =>
      obtain ⟨z, H', I', rz, t, ez, q⟩ := I.after hq
      subst ez
      obtain ⟨tk, rfl⟩ := rz
      exact ⟨.str t, H', I', ⟨tk, rfl⟩, q⟩
    | next => exact False.elim hq
    | brk => exact False.elim hq
    | cont => exact False.elim hq
def wStrO (C : Addr) (sp : SpD) : WB := fun ds μ P => match ds with
  | [d] => insAt C μ d ∧ sp [d] μ (fun r μ' => match r with
    | .str s => P (.str s) μ'
    | _ => False) fun _ _ _ => False
  | _ => False
theorem qb_strO (F : FnG X.prog X.w X.K X.mg X.base k f fd ps (spOf X.K spd)) (gd : X.A.guards = some []) (hr : Room (k + 2) X.A) (hm : Meth X.K C "__str__" f) (hb : Binds X.K fd ps []) : QB X (.type "str") (wStrO C spd) :=
  ⟨_, call_strO F gd hr hm hb, fun ι μ H vs ds P Q r i h kt => by
    match ds, h with
    | [d], h =>
      obtain ⟨v, rfl, iv⟩ := isAll1 i
      obtain ⟨h1, h2⟩ := h
      obtain ⟨a, dx, fs, rfl, ea⟩ := h1.at r iv
      refine ⟨a, dx, fs, rfl, ea, ι, μ, [d], _, _, r, ⟨_, _, rfl, iv, rfl⟩, h2, fun v d' ι' μ' H' s' r' i' q => ?_, fun _ _ _ _ _ _ _ _ _ z => z.elim⟩
      cases d' with
      | str t =>
        have ev : v = .str t := i'
        exact ⟨t, ev, kt _ (.str t) ι' μ' H' s' r' rfl q⟩
      | _ => exact q.elim⟩
end
end HD
/-! HD31: repr of great ints (to 12000 bits). -/
namespace HD
open PySem PySem.Spec PyProof.Rows L2 PySem.Builtin
section
variable {prog : Program} {w : World} {A : Around} {E : Value → Shared → Prop} {s : Shared} {K : PySem.W.Frag}
end
section
variable {X : Cx}
end
end HD
/-! HD32: own error classes without a field (def __init__(self): pass): made, raised. -/
namespace HD
open PySem PySem.Spec PyProof.Rows L2
def errArgs0 (p1 : Pos) : Arguments := { posonlyargs := [], args := [{ arg := "self", annotation := none, pos := p1 }], vararg := none, kwonlyargs := [], kw_defaults := [], kwarg := none, defaults := [] }
def errBody0 (q1 : Pos) : List Stmt := [.Pass q1]
def errScope0 : Scope := { kind := .function, names := [(PySem.Str.ofString "self", .local)], isGenerator := false, isCoroutine := false, more := [] }
structure ErrTxt0 (K : PySem.W.Frag) (mg : Str → Option Value) (x : Str) (newId : String) (C fI : Addr) : Prop where
  gC : mg x = some (.ref C)
  cls : ∃ nm q N bs bm sn sub ab col dd k0 k1 k2 k3 k5, K.lookup C = some (PySem.excClassObj nm q C N bs bm true sn sub ab col dd k0 k1 k2 k3 k5 newId) ∧ Under newId bm
  iC : PySem.W.findIn K (.ref C) "__init__" = some (some (.ref fI))
  tC : PySem.W.typeIn K (.ref fI) = some (.type "function")
  kC : PySem.W.keepIn K (.ref C) = true
  exC : PySem.W.subIn K (.ref C) (.type "BaseException") = some true
  tyC : PySem.W.typeIn K (.ref C) = some (.type "type")
  fn : ∃ (oc : Value) (od : Option Addr) (q : Str) (doc pm : Value) (an : Option Addr) (cdv ct : Value) (osl : Array (Option Value)) (p1 q1 : Pos),
    K.lookup fI = some ⟨oc, od, .func (PySem.W.fnOf "__init__" q (errArgs0 p1) (errBody0 q1) errScope0 .none .none doc pm an cdv ct), osl⟩ ∧ PySem.W.codeIn K cdv q = true
section
variable {prog : Program} {w : World} {A : Around} {R : Result → Shared → Prop} {s : Shared} {K : PySem.W.Frag} {mg : Str → Option Value} {xn : Str} {newId : String} {C fI : Addr}
end
section
variable {X : Cx} {W : WX} {x : Str} {newId : String} {C fI : Addr} {p pos pos2 : Pos} {k : Nat}
end
structure ErrT0 (K : PySem.W.Frag) (mg : Str → Option Value) (x : Str) (newId : String) where
  C : Addr
  fI : Addr
  t : ErrTxt0 K mg x newId C fI
  x : PySem.W.exmOne K (.ref C) (.ref C) = some true
end HD
/-! HD33: tuple + tuple. -/
namespace HD
open PySem PySem.Spec PyProof.Rows L2
section
variable {X : Cx}
end
end HD
/-! HD34: count of texts. -/
namespace HD
open PySem PySem.Spec PyProof.Rows L2
section
variable {X : Cx} {W : WX} {o e : Expr} {wo we : WE} {apos cpos : Pos}
end
end HD
/-! HD35: {elt for x in xs for y in ys} of ints. -/
namespace HD
open PySem PySem.Spec PyProof.Rows L2
/-- an int goes to a set that stands as SetO -/
theorem goes_in {X : Cx} {pins : List (Addr × Obj)} {σ : L2.St} {H : Hp} {s : Shared} {E : Value → Shared → Prop} {D : Addr} {S : Int → Bool} {n : Nat} {c : Int} {v : Value} {Q : Value → Shared → Prop} (I : Inv X pins σ H s) (hD : H D = some (SetO X.w D S n)) (room : n + 1 < scanBound) (rv : RelV (.int c) v)
    (k : ∀ s', Inv X pins σ (upd H D (SetO X.w D (fun j => S j || decide (j = c)) (if S c = true then n else n + 1))) s' → Q .none s') : wpAny (model X.prog X.w) X.A (call (.builtin "set.add") [.ref D, v]) Q E s := by
  obtain ⟨tk, rfl⟩ := rv
  refine setR_add (setO_get I hD) room fun h' sb new => k _ (I.write (e := D) (t' := s.toks + 1) (by rw [hD]; trivial) (.inl rfl) (fun b u hb hu => (sb.2 b hb).trans hu) ?_ (setO_new new))
  obtain ⟨o, _, _, _, ho, _⟩ := new
  exact ⟨o, ho⟩
/-- what one run of the second clause asks: from each of its turns the next, from its stop N -/
def inner (w : World) (wi : TI) (g : TG) (te : TE) (vs : List Nat) (D : Addr) (σ : L2.St) (H : Hp) (N : Hp → Prop) : Prop :=
  wi σ H fun J H1 => ∃ V : Nat → Nat → Hp → Prop, (∃ m, V 0 m H1) ∧ ∀ j k H, V j k H →
    (J.stop j H ∧ N H) ∨ (J.go j H ∧ ∃ N1 : Hp → Prop, (∀ H', N1 H' → ∃ k', k' < k ∧ V (j + 1) k' H') ∧ ∀ x H', J.yld j H x H' → g x (wipe σ vs) H' fun σ2 H2 => wipe σ2 vs = wipe σ vs ∧
      te σ2 H2 fun y H3 => ∃ (c : Int) (S : Int → Bool) (n : Nat), y = .int c ∧ H3 D = some (SetO w D S n) ∧ n + 1 < scanBound ∧ N1 (upd H3 D (SetO w D (fun j => S j || decide (j = c)) (if S c = true then n else n + 1))))
section
variable {Y : Cx} {pins : List (Addr × Obj)} {s : Shared} {σ : L2.St} {H : Hp} {elt t0 i0 t1 i1 : Expr} {scope : Scope} {pos : Pos} {wi : TI} {g : TG} {te : TE} {vs : List Nat} {D : Addr} {N : Hp → Prop}
abbrev comp2 (elt t0 i0 t1 i1 : Expr) (scope : Scope) (pos : Pos) : Expr := .SetComp elt [⟨t0, i0, [], 0⟩, ⟨t1, i1, [], 0⟩] scope pos
theorem start_second {it acc : Value} {env : Env} {A : Around} {prog : Program} {w : World} {R : Result → Shared → Prop} (h0 : codeAny (model prog w) A (.compLoop (comp2 elt t0 i0 t1 i1 scope pos) 1 it acc env) R s)
    (h : wpAny (model prog w) A (pyIter it) (fun it' s' => codeAny (model prog w) A (.compLoop (comp2 elt t0 i0 t1 i1 scope pos) 1 it' acc env) R s') (notedBy (model prog w) A env fun x s' => R (.error x) s') s) :
    codeAny (model prog w) A (.compStart (comp2 elt t0 i0 t1 i1 scope pos) 1 it acc env) R s := by
  refine codeAny_of_tree ?_
  show wpAny _ _ ((compStart (comp2 elt t0 i0 t1 i1 scope pos) 1 it acc env).onRaise _) _ _ s
  refine wpAny_notedAt ?_
  unfold compStart
  refine wpAny_bind (wpAny_askSetting (wpAny_ite ?_))
  split
  · exact wpAny_bind (wpAny_pure (wpAny_pure ⟨rfl, h0⟩))
  · exact wpAny_bind (wpAny_rule (wpAny_bind (wpAny_standAt (wpAny_bind (wpAny_mono h (fun it' s' h' => wpAny_pure ⟨rfl, h'⟩) fun _ _ x => x)))))
theorem second {F : Value → Shared → Prop} (hc : Y.calm = true) (hx : ∀ e s, ¬ Y.xe e s) (I : Inv Y pins σ H s) (pi : PI Y t1 i1 wi) (pg : PG Y t1 g) (pe : PE Y elt te) (q : inner Y.w wi g te vs D σ H N) :
    wpAny (model Y.prog Y.w) Y.A (eval i1 Y.env) (fun xv s1 => wpAny (model Y.prog Y.w) Y.A (pyIter xv) (fun it s2 => codeAny (model Y.prog Y.w) Y.A (.compStart (comp2 elt t0 i0 t1 i1 scope pos) 1 it (.ref D) Y.env)
      (fun r s' => match r with
        | .ok _ => ∃ H', Inv Y pins (wipe σ vs) H' s' ∧ N H'
        | .error _ => False) s2) F s1) F s := by
  have no : ∀ {α : Type} {t : Sem α} {P P' : α → Shared → Prop} {G : Value → Shared → Prop} {s : Shared}, wpAny (model Y.prog Y.w) Y.A t P Y.xe s → (∀ a s, P a s → P' a s) → wpAny (model Y.prog Y.w) Y.A t P' G s := fun h k => wpAny_mono h k fun e s z => absurd z (hx e s)
  refine no (pi.run _ s σ H _ I q) fun xv s1 h1 => no h1 fun itv s2 h2 => ?_
  obtain ⟨it, fp, tn, J, H2, e1, I2, T, st2, f2, V, ⟨m1, v1⟩, turn⟩ := h2
  subst e1
  have ap : ∀ {H' : Hp}, (∀ b ∈ fp, H' b = none) → ∀ b ∈ fp, FpOk Y pins H' b := fun hn b hb => ⟨hn b hb, (f2 b hb).2⟩
  have loop : codeAny (model Y.prog Y.w) Y.A (.compLoop (comp2 elt t0 i0 t1 i1 scope pos) 1 (.ref it) (.ref D) Y.env) (fun r s' => match r with
        | .ok _ => ∃ H', Inv Y pins (wipe σ vs) H' s' ∧ N H'
        | .error _ => False) s2 := by
    refine codeAny_loop rfl (fun k s' => ∃ j H', Inv Y pins (wipe σ vs) H' s' ∧ tn j s'.heap ∧ (∀ b ∈ fp, H' b = none) ∧ V j k H') ?_ m1 ⟨0, H2, I2.weak (wipe_length _ _) (fun j v e => (wipe_some e).1), st2, fun b hb => (f2 b hb).1, v1⟩
    rintro k s3 ⟨j, H3, I3, st3, n3, v3⟩
    show wpAny _ Y.A ((compTurn (comp2 elt t0 i0 t1 i1 scope pos) 1 (.ref it) (.ref D) Y.env).onRaise _) _ _ s3
    refine wpAny_noted ?_
    unfold compTurn
    refine wpAny_bind (wpAny_standAt (wpAny_bind ?_))
    rcases turn j k H3 v3 with ⟨stop, nx⟩ | ⟨go, N1, hN1, step⟩
    · refine thnF (T.done Y rfl rfl rfl hc j _ s3 (wipe σ vs) H3 (fun _ _ => False) I3 (ap n3) st3 stop) fun r s4 ⟨hr, I4⟩ => ?_
      subst hr
      exact wpAny_pure ⟨H3, I4, nx⟩
    · refine thnF (T.item Y rfl rfl rfl hc j _ s3 (wipe σ vs) H3 (fun _ _ => False) I3 (ap n3) st3 go) fun r s4 ⟨u, hr, h4⟩ => ?_
      subst hr
      refine wpAny_bind (thnF h4 fun _ s5 ⟨x, H5, I5, r5, y5, st5, n5⟩ => ?_)
      have I5' := I5.pinned (ap n5) (T.obj _ _ st5)
      refine wpAny_bind (no (pg.run _ s5 (wipe σ vs) H5 x u _ I5' r5 (step x H5 y5)) fun _ s6 ⟨σ6, H6, I6, hw6, q6⟩ => ?_)
      refine wpAny_bind (wpAny_pure ?_)
      refine wpAny_bind (wpAny_bind (no (pe.run _ s6 σ6 H6 _ I6 q6) fun z s7 h7 => wpAny_bind (wpAny_standAt (wpAny_bind ?_))))
      obtain ⟨yv, H7, I7, r7, c, S, n, ey, hD, room, nx⟩ := h7
      subst ey
      refine goes_in I7 hD room r7 fun s8 I8 => wpAny_pure (wpAny_pure ⟨rfl, ?_⟩)
      obtain ⟨m', hm, w'⟩ := hN1 _ nx
      have pin : ∀ b ∈ fp, ∀ o, s5.heap.get? b = some o → s8.heap.get? b = some o ∧ upd H7 D (SetO Y.w D (fun j => S j || decide (j = c)) (if S c = true then n else n + 1)) b = none := fun b hb o e =>
        let z := I8.pin (b, o) (List.mem_append_right _ (List.mem_append_right _ (mem_pinsAt hb e)))
        ⟨z.1, z.2.1⟩
      refine ⟨m', hm, j + 1, _, I8.unpinned.weak (by rw [← hw6, wipe_length]) (fun j v e => by rw [← hw6] at e; exact (wipe_some e).1), T.keep _ _ _ st5 fun b hb o e => (pin b hb o e).1, fun b hb => ?_, w'⟩
      obtain ⟨o, e, _⟩ := T.obj _ _ st5 b hb
      exact (pin b hb o e).2
  exact start_second loop (T.self Y.A 0 _ _ _ st2 loop)
/-- the first clause's loop, in the block's own context -/
theorem first {fp : List Addr} {it : Addr} {tn : Nat → Heap → Prop} {J : It} {g0 : TG} {vs1 : List Nat} {V : Nat → Nat → Hp → Prop} {Qd : Hp → Prop} {m0 : Nat} (hc : Y.calm = true) (hx : ∀ e s, ¬ Y.xe e s) (T : Turn Y.prog Y.w Y.K t0 J fp it tn)
    (ap : ∀ {σ' : L2.St} {H' : Hp} {s' : Shared}, Inv Y [] σ' H' s' → (∀ b ∈ fp, H' b = none) → ∀ b ∈ fp, FpOk Y [] H' b) (pg0 : PG Y t0 g0) (pi : PI Y t1 i1 wi) (pg : PG Y t1 g) (pe : PE Y elt te) (hs : ∀ x, foldedSetIterable i1 Y.env x = pure x) (hv : ∀ i ∈ vs1, i ∈ vs)
    (turn : ∀ i m H, V i m H → (J.stop i H ∧ Qd H) ∨ (J.go i H ∧ ∃ N : Hp → Prop, (∀ H', N H' → ∃ m', m' < m ∧ V (i + 1) m' H') ∧ ∀ x H', J.yld i H x H' → g0 x (wipe σ vs) H' fun σ2 H2 => wipe σ2 vs = wipe σ vs ∧ inner Y.w wi g te vs1 D σ2 H2 N))
    (I : Inv Y [] (wipe σ vs) H s) (st : tn 0 s.heap) (n0 : ∀ b ∈ fp, H b = none) (v0 : V 0 m0 H) :
    codeAny (model Y.prog Y.w) Y.A (.compLoop (comp2 elt t0 i0 t1 i1 scope pos) 0 (.ref it) (.ref D) Y.env)
      (fun r s' => match r with
        | .ok f => f = .next ∧ ∃ H', Inv Y [] (wipe σ vs) H' s' ∧ Qd H'
        | .error _ => False) s := by
  have no : ∀ {α : Type} {t : Sem α} {P P' : α → Shared → Prop} {G : Value → Shared → Prop} {s : Shared}, wpAny (model Y.prog Y.w) Y.A t P Y.xe s → (∀ a s, P a s → P' a s) → wpAny (model Y.prog Y.w) Y.A t P' G s := fun h k => wpAny_mono h k fun e s z => absurd z (hx e s)
  refine codeAny_loop rfl (fun m s' => ∃ i H', Inv Y [] (wipe σ vs) H' s' ∧ tn i s'.heap ∧ (∀ b ∈ fp, H' b = none) ∧ V i m H') ?_ m0 ⟨0, H, I, st, n0, v0⟩
  rintro m s3 ⟨i, H3, I3, st3, n3, v3⟩
  show wpAny _ Y.A ((compTurn (comp2 elt t0 i0 t1 i1 scope pos) 0 (.ref it) (.ref D) Y.env).onRaise _) _ _ s3
  refine wpAny_noted ?_
  unfold compTurn
  refine wpAny_bind (wpAny_standAt (wpAny_bind ?_))
  rcases turn i m H3 v3 with ⟨stop, nx⟩ | ⟨go, N, hN, step⟩
  · refine thnF (T.done Y rfl rfl rfl hc i _ s3 (wipe σ vs) H3 (fun _ _ => False) I3 (ap I3 n3) st3 stop) fun r s4 ⟨hr, I4⟩ => ?_
    subst hr
    exact wpAny_pure ⟨rfl, H3, I4, nx⟩
  · refine thnF (T.item Y rfl rfl rfl hc i _ s3 (wipe σ vs) H3 (fun _ _ => False) I3 (ap I3 n3) st3 go) fun r s4 ⟨u, hr, h4⟩ => ?_
    subst hr
    refine wpAny_bind (thnF h4 fun _ s5 ⟨x, H5, I5, r5, y5, st5, n5⟩ => ?_)
    have I5' := I5.pinned (ap I5 n5) (T.obj _ _ st5)
    refine wpAny_bind (no (pg0.run _ s5 (wipe σ vs) H5 x u _ I5' r5 (step x H5 y5)) fun _ s6 ⟨σ6, H6, I6, hw6, q6⟩ => ?_)
    refine wpAny_bind (wpAny_pure ?_)
    refine wpAny_bind (wpAny_mono (second (t0 := t0) (i0 := i0) (scope := scope) (pos := pos) (F := fun _ _ => False) hc hx I6 pi pg pe q6) (fun xv s7 h7 => ?_) fun _ _ z => False.elim z)
    refine wpAny_bind (wpAny_standAt (wpAny_bind (wpAny_of_eq (hs xv) (wpAny_bind (wpAny_holding (wpAny_mono h7 (fun it1 s8 h8 => ?_) fun _ _ z => False.elim z))))))
    refine wpAny_bind (wpAny_runOwn ?_)
    rw [Around.mark_none]
    refine codeAny_mono h8 fun r s9 hr => ?_
    cases r with
    | error e => exact hr.elim
    | ok f =>
      obtain ⟨H9, I9, nx⟩ := hr
      refine wpAny_pure ⟨rfl, ?_⟩
      obtain ⟨m', hm, w'⟩ := hN _ nx
      have pin : ∀ b ∈ fp, ∀ o, s5.heap.get? b = some o → s9.heap.get? b = some o ∧ H9 b = none := fun b hb o e =>
        let z := I9.pin (b, o) (List.mem_append_right _ (List.mem_append_right _ (mem_pinsAt hb e)))
        ⟨z.1, z.2.1⟩
      refine ⟨m', hm, i + 1, _, I9.unpinned.weak (by rw [← hw6, wipe_length, wipe_length]) (fun j v e => ?_), T.keep _ _ _ st5 fun b hb o e => (pin b hb o e).1, fun b hb => ?_, w'⟩
      · rw [← hw6] at e
        obtain ⟨e1, e2⟩ := wipe_some e
        rw [wipe_out fun z => e2 (hv j z)]
        exact e1
      · obtain ⟨o, e, _⟩ := T.obj _ _ st5 b hb
        exact (pin b hb o e).2
end
section
variable {X : Cx} {elt t0 i0 t1 i1 : Expr} {scope : Scope} {pos : Pos} {wi0 wi : TI} {g0 g : TG} {te : TE} {vs1 : List Nat} {own : List (Str × Nat)}
end
section
variable {X : Cx} {W : WX} {l : Expr} {wl : WE} {scope : Scope} {x y : Str} {i j : Nat}
end
end HD
/-! HD36: t[::2] of a tuple of three. -/
namespace HD
open PySem PySem.Spec PyProof.Rows L2 HT
section
variable {prog : Program} {w : World} {A : Around} {E : Value → Shared → Prop} {s : Shared}
end
section
variable {X : Cx} {W : WX}
end
end HD
/-! HD37: a tuple many times. -/
namespace HD
open PySem PySem.Spec PyProof.Rows L2
section
variable {X : Cx}
end
end HD
/-! HD38: a dict of one text and int among data, tuples with dicts in them shown, list(..) of a tuple or list. -/
namespace HD
open PySem PySem.Spec PyProof.Rows L2
/-! ### {"a": 1} -/
def wDOne (x : Str) (i : Int) : WE := fun R δ μ P => P (.ref μ.length) (μ ++ [.dct [(.inr x, .int i)]])
section
variable {X : Cx} {W : WX} {pos p1 p2 : Pos} {j1 j2 : Option Str}
theorem q_dOne {x : Str} {i : Int} {k1 k2} : QE X W (.Dict [some (.Constant (.str x) k1 p1)] [.Constant (.int i) k2 p2] pos) (wDOne x i) := by
  refine ⟨_, pe_disp (pps_cons pe_str pe_int pps_nil) rfl rfl (by simp) (by simp), fun R ι μ δ σ H P Q c h k => fun pn hp => ?_⟩
  refine ⟨upd_same, [(.inr x, .int i)], rfl, by simp, ?_⟩
  rw [upd_upd]
  exact k (.ref pn) (.ref μ.length) (ι ++ [pn]) _ _ (Stp.push hp) (c.rel.push (u := .dct [(.inr x, .int i)]) hp ⟨[.int i], upd_same, ⟨_, _, rfl, rfl, rfl⟩⟩) (is_pushed c.rel) h
end
/-! ### list(x) -/
/-! ### tuples with dicts in them, shown -/
mutual
inductive PyT (μ : Sto) : D → PyData → Prop
  | non : PyT μ .non .none
  | bl (b : Bool) : PyT μ (.bl b) (.bool b)
  | int (i : Int) : PyT μ (.int i) (.int i)
  | str (x : Str) : PyT μ (.str x) (.str x)
  | tup {ds : List D} {ps : List PyData} : PyTAll μ ds ps → PyT μ (.tup ds) (.tuple ps)
  | d0 {k : Nat} : cell μ k = some (.dct []) → PyT μ (.ref k) (.dict [])
  | d1 {k : Nat} {x : Str} {i : Int} : cell μ k = some (.dct [(.inr x, .int i)]) → PyT μ (.ref k) (.dict [(.str x, .int i)])
inductive PyTAll (μ : Sto) : List D → List PyData → Prop
  | nil : PyTAll μ [] []
  | cons {d : D} {ds : List D} {p : PyData} {ps : List PyData} : PyT μ d p → PyTAll μ ds ps → PyTAll μ (d :: ds) (p :: ps)
end
mutual
inductive DpT (K : PySem.W.Frag) (H : Hp) : V → PyData → Prop
  | non : DpT K H .non .none
  | bl (b : Bool) : DpT K H (.bl b) (.bool b)
  | int (i : Int) : DpT K H (.int i) (.int i)
  | str (x : Str) : DpT K H (.str x) (.str x)
  | tup {a : Addr} {xs : List V} {ds : List PyData} : SqT K H a xs → DpTAll K H xs ds → DpT K H (.ref a) (.tuple ds)
  | d0 {a : Addr} : H a = some (.dK []) → DpT K H (.ref a) (.dict [])
  | d1 {a : Addr} {x : Str} {i : Int} : H a = some (.dK [(.inr x, .int i)]) → DpT K H (.ref a) (.dict [(.str x, .int i)])
inductive DpTAll (K : PySem.W.Frag) (H : Hp) : List V → List PyData → Prop
  | nil : DpTAll K H [] []
  | cons {v : V} {vs : List V} {d : PyData} {ds : List PyData} : DpT K H v d → DpTAll K H vs ds → DpTAll K H (v :: vs) (d :: ds)
end
section
variable {K : PySem.W.Frag} {ι : List Addr} {μ : Sto} {H : Hp}
mutual
theorem PyT.dp (r : Rel K ι μ H) : ∀ (p : PyData) (d : D) (v : V), PyT μ d p → Is K ι H d v → DpT K H v p
  | .none, _, _, h, i => by
    cases h
    rw [show _ = V.non from i]
    exact .non
  | .bool b, _, _, h, i => by
    cases h
    rw [show _ = V.bl b from i]
    exact .bl b
  | .int n, _, _, h, i => by
    cases h
    rw [show _ = V.int n from i]
    exact .int n
  | .str x, _, _, h, i => by
    cases h
    rw [show _ = V.str x from i]
    exact .str x
  | .tuple ps, _, _, h, i => by
    cases h with
    | tup ha =>
      obtain ⟨a, xs, e, q, t⟩ := i
      rw [e]
      exact .tup q (PyTAll.dp r ps _ xs ha t)
  | .list ps, _, _, h, i => by cases h
  | .dict kv, _, _, h, i => by
    cases h with
    | d0 hc =>
      obtain ⟨a, vs, f1, f2, f3⟩ := r.dct hc
      obtain ⟨a', ea, ev⟩ := i
      rw [f1] at ea
      cases ea
      rw [ev]
      exact .d0 f2
    | d1 hc =>
      obtain ⟨a, vs, f1, f2, f3⟩ := r.dct hc
      obtain ⟨a', ea, ev⟩ := i
      rw [f1] at ea
      cases ea
      rw [ev]
      obtain ⟨v, r', rfl, iv, t⟩ := f3
      rw [show v = V.int _ from iv] at f2
      have t' : r' = [] := t
      subst t'
      exact .d1 f2
theorem PyTAll.dp (r : Rel K ι μ H) : ∀ (ps : List PyData) (ds : List D) (xs : List V), PyTAll μ ds ps → IsAll K ι H ds xs → DpTAll K H xs ps
  | [], _, _, h, i => by
    cases h
    rw [show _ = [] from i]
    exact .nil
  | p :: ps, _, _, h, i => by
    cases h with
    | cons h1 h2 =>
      obtain ⟨v, r', e, q, t⟩ := i
      rw [e]
      exact .cons (PyT.dp r p _ v h1 q) (PyTAll.dp r ps _ r' h2 t)
end
end
section
variable {X : Cx} {pins : List (Addr × Obj)} {σ : L2.St} {H : Hp} {s : Shared}
theorem key_reads {P : Program} {w : World} {h : Heap} : ∀ (k : Key) (key : Value), (mixKind P w).is k key = true → Reads h key ((fun k : Key => match k with | .inl i => PyData.int i | .inr x => PyData.str x) k) [] := fun k key hk => by
  cases k with
  | inl i =>
    obtain ⟨t, rfl⟩ := Value.isInt_shape (show Value.isInt i key = true from hk)
    exact Reads.int i t
  | inr x =>
    obtain ⟨t, rfl⟩ := Value.isStrOf_shape (show Value.isStrOf x key = true from hk)
    exact Reads.str x t
mutual
theorem DpT.reads (I : Inv X pins σ H s) : ∀ (d : PyData) (v : V) (u : Value), DpT X.K H v d → RelV v u → ∃ as, Reads s.heap u d as ∧ sysModules ∉ as
  | .none, _, _, h, r => by
    cases h
    cases r
    exact ⟨_, Reads.none, fun z => by cases z⟩
  | .bool b, _, _, h, r => by
    cases h
    cases r
    exact ⟨_, Reads.bool b, fun z => by cases z⟩
  | .int i, _, _, h, r => by
    cases h
    obtain ⟨t, rfl⟩ := r
    exact ⟨_, Reads.int i t, fun z => by cases z⟩
  | .str x, _, _, h, r => by
    cases h
    obtain ⟨t, rfl⟩ := r
    exact ⟨_, Reads.str x t, fun z => by cases z⟩
  | .list ds, _, _, h, r => by cases h
  | .tuple ds, _, _, h, r => by
    cases h with
    | tup hs ha =>
      cases r
      obtain ⟨cs, rvals, ⟨ob, hob, hcl, nn, hdat⟩, _⟩ := I.tuple hs
      obtain ⟨as, hr, hn⟩ := DpT.readsAll I ds _ cs ha rvals
      exact ⟨_, Reads.tuple hob hcl hdat hr, hn⟩
  | .dict kv, _, _, h, r => by
    cases h with
    | d0 ha =>
      cases r
      obtain ⟨_, hS, vs, hk, m⟩ := dk_of I.hok ha
      cases hk
      refine ⟨_, PyProof.V.reads_dictOf key_reads m .nil, fun z => ?_⟩
      rcases List.mem_cons.mp z with z | z
      · rw [← z, beq_self_eq_true] at hS
        cases hS
      · cases z
    | d1 ha =>
      cases r
      obtain ⟨_, hS, vs, hk, m⟩ := dk_of I.hok ha
      cases hk with
      | @cons a b as bs h t =>
        cases t
        obtain ⟨k, w⟩ := b
        obtain ⟨e1, t, e2⟩ := h
        have e1' : k = .inr _ := e1.symm
        have e2' : w = .int _ t := e2
        subst e1' e2'
        refine ⟨_, PyProof.V.reads_dictOf key_reads m (.cons (Reads.int _ t) .nil), fun z => ?_⟩
        rcases List.mem_cons.mp z with z | z
        · rw [← z, beq_self_eq_true] at hS
          cases hS
        · cases z
theorem DpT.readsAll (I : Inv X pins σ H s) : ∀ (ds : List PyData) (vs : List V) (us : List Value), DpTAll X.K H vs ds → Vals vs us → ∃ as, ReadsAll s.heap us ds as ∧ sysModules ∉ as
  | [], _, _, h, r => by
    cases h
    cases r
    exact ⟨_, ReadsAll.nil, fun z => by cases z⟩
  | d :: ds, _, _, h, r => by
    cases h with
    | cons h1 h2 =>
      cases r with
      | cons r1 r2 =>
        obtain ⟨as, q1, n1⟩ := DpT.reads I d _ _ h1 r1
        obtain ⟨bs, q2, n2⟩ := DpT.readsAll I ds _ _ h2 r2
        refine ⟨_, ReadsAll.cons q1 q2, fun z => ?_⟩
        rcases List.mem_append.mp z with z | z
        · exact n1 z
        · exact n2 z
end
end
section
variable {X : Cx}
def rReprT (K : PySem.W.Frag) : List V → Hp → VK → Prop := fun vs H Q => ∃ a p, vs = [.ref a] ∧ DpT K H (.ref a) p ∧ p.showable = true ∧ p.depth ≤ 60 ∧ p.shown.length ≤ sizeLine ∧ Q (.str p.shown) H
theorem call_reprT (gd : X.A.guards = some []) (hu : X.A.units + 64 < cLine) : CallR X (.builtin "repr") (rReprT X.K) := by
  intro pins s σ H xs us Q I r h
  obtain ⟨a, p, rfl, hd, hs, hdep, hsz, q⟩ := h
  obtain ⟨u, rfl, rx⟩ := vals1 r
  obtain ⟨as, rd, hn⟩ := DpT.reads I p _ _ hd rx
  cases rx
  exact repr_of_reads' rd hs (fun _ => hn) gd (by omega) (fun _ _ z => z) (fun h' u tk hk => ⟨.str _, H, I.kept (t' := tk) hk, ⟨_, rfl⟩, q⟩) hsz
/-- repr of data: with lists, or with dicts -/
def wRepr3 : WB := fun ds μ P => match ds with
  | [d] => ∃ p, (Py μ d p ∨ PyT μ d p) ∧ p.showable = true ∧ p.depth ≤ 60 ∧ p.shown.length ≤ sizeLine ∧ P (.str p.shown) μ
  | _ => False
theorem PyT.case {μ : Sto} {d : D} {p : PyData} (h : PyT μ d p) : Py μ d p ∨ (∃ ds, d = .tup ds) ∨ ∃ k, d = .ref k := by
  cases h with
  | non => exact .inl .non
  | bl b => exact .inl (.bl b)
  | int i => exact .inl (.int i)
  | str x => exact .inl (.str x)
  | tup _ => exact .inr (.inl ⟨_, rfl⟩)
  | d0 _ => exact .inr (.inr ⟨_, rfl⟩)
  | d1 _ => exact .inr (.inr ⟨_, rfl⟩)
theorem qb_repr3 (gd : X.A.guards = some []) (hu : X.A.units + 64 < cLine) : QB X (.builtin "repr") wRepr3 := by
  refine ⟨_, (call_repr gd hu).or (call_reprT gd hu), fun ι μ H vs ds P Q r i h k => ?_⟩
  unfold wRepr3 at h
  split at h
  · rename_i d
    obtain ⟨p, hp, h2, h3, h4, h5⟩ := h
    obtain ⟨v, e1, iv⟩ := isAll1 i
    have lst : Py μ d p → (rRepr X.K vs H Q ∨ rReprT X.K vs H Q) := fun h1 => .inl ⟨v, p, e1, Py.dp r p _ v h1 iv, hasDict_py.1 p _ h1, h2, h3, h4, k.at r (d := .str _) rfl h5⟩
    rcases hp with h1 | h1
    · exact lst h1
    · rcases h1.case with h1 | ⟨xs, rfl⟩ | ⟨kk, rfl⟩
      · exact lst h1
      · obtain ⟨a, ys, ev, hq, ht⟩ := id iv
        subst ev
        exact .inr ⟨a, p, e1, PyT.dp r p _ _ h1 iv, h2, h3, h4, k.at r (d := .str _) rfl h5⟩
      · obtain ⟨a, ea, ev⟩ := id iv
        subst ev
        exact .inr ⟨a, p, e1, PyT.dp r p _ _ h1 iv, h2, h3, h4, k.at r (d := .str _) rfl h5⟩
  · exact h.elim
end
end HD
/-! HD39: a lambda with one parameter, an int as its default, handed to a def that calls it with nothing. -/
namespace HD
open PySem PySem.Spec PyProof.Rows L2
section
variable {X : Cx} {pins : List (Addr × Obj)} {σ : L2.St} {H : Hp} {s : Shared}
end
/-! ### the names of such a lambda -/
structure LamSD (N : List Str) (a : Str) (sc scope : Scope) : Prop where
  kind : scope.kind = .function
  co : scope.isCoroutine = false
  gen : scope.isGenerator = false
  nocell : ∀ y ∈ scope.names, y.2 ≠ .cell
  par : scope.names.lookup a = some .local
  loc : ∀ y ∈ scope.names, y.2 = .local → y.1 ∉ N
  free : ∀ y ∈ scope.names, y.2 = .free → sc.names.lookup y.1 = some .cell ∨ sc.names.lookup y.1 = some .free
section
variable {X : Cx} {pins : List (Addr × Obj)} {σ : L2.St} {H HZ : Hp} {s s1 : Shared}
theorem LamSD.has {N : List Str} {a : Str} {scope : Scope} (L : LamSD N a X.env.scope scope) (ok : X.Ok) : ∀ y ∈ scope.names, y.2 = .free → ∃ c, X.env.cells.lookup y.1 = some c := fun y hy e => by
  rcases L.free y hy e with k | k
  · exact ok.has _ (.inl k)
  · exact ok.has _ (.inr k)
end
section
variable {X : Cx} {W : WX}
end
end HD
/-! HD40: is, between truth values. -/
namespace HD
open PySem PySem.Spec PyProof.Rows L2
section
variable {X : Cx}
end
end HD
/-! HD41: isinstance(x, an own class), x of any kind: a dict too. -/
namespace HD
open PySem PySem.Spec PyProof.Rows L2
section
variable {X : Cx} {C : Addr}
def wIsiV (C : Addr) : WB := fun ds μ P => match ds with
  | [d, .adr C'] => C' = C ∧ ((∃ t, tyOf2 μ d = some t ∧ t ∈ ["int", "bool", "str", "NoneType", "tuple", "list", "dict"] ∧ P (.bl false) μ) ∨ ∃ k fs, d = .ref k ∧ cell μ k = some (.ins C fs) ∧ P (.bl true) μ)
  | _ => False
theorem qb_isiV {K : PySem.W.Frag} {mg : Str → Option Value} {x : Str} (T : ClsT K mg x) (hK : X.K = K := by rfl) : QB X (.builtin "isinstance") (wIsiV T.C) := by
  subst hK
  exact ⟨_, call_isi, fun ι μ H vs ds P Q r i h k => by
  unfold wIsiV at h
  split at h
  · rename_i d C'
    obtain ⟨eC, h⟩ := h
    subst eC
    obtain ⟨v, u, e1, iv, iu⟩ := isAll2 i
    have iu' : u = .ref T.C := iu
    subst iu'
    rcases h with ⟨t, ht, hm, q⟩ | ⟨kk, fs, rfl, ec, q⟩
    · exact ⟨v, .ref T.C, .type t, .ref T.C, false, e1, .own T.C, tyx_of2 r iv ht, T.no t hm, k.at r (d := .bl false) rfl q⟩
    · obtain ⟨a, dx, ws, f1, f2, f3⟩ := r.ins ec
      obtain ⟨a', ea, rfl⟩ := iv
      rw [f1] at ea
      cases ea
      exact ⟨.ref a, .ref T.C, .ref T.C, .ref T.C, true, e1, .own T.C, .base (.ins f2 T.cls T.ca T.cg T.ct T.cm), T.self, k.at r (d := .bl true) rfl q⟩
  · exact h.elim⟩
end
end HD
/-! HD42: C.m(..), m a static method of an own class. -/
namespace HD
open PySem PySem.Spec PyProof.Rows L2
/-- what the text has of a static method of the class at C -/
structure StaT (K : PySem.W.Frag) (C : Addr) (x q : Str) (st : Stmt) (ps : List Str) where
  a : Addr
  p : Addr
  fd : FuncData
  fn : Fun K x q st a fd
  rd : PySem.W.readsIn K C (.type "type") = true
  ga : PySem.W.specialIn K (.ref C) "__getattribute__" = some (some (.builtin "type.__getattribute__"))
  at_ : PySem.W.findCls K (.ref C) (.type "type") x = some (.get (.builtin "staticmethod.__get__") (.ref p) .none (.ref C))
  rc : ∃ rest, PySem.W.recIn K p "staticmethod" = some (.ref a :: rest)
  bd : Binds K fd ps []
section
variable {X : Cx} {W : WX} {C : Addr} {x q m : Str} {st : Stmt} {ps : List Str} {k : Nat} {sp : Sp} {spd : SpD} {o e : Expr} {es : List Expr} {pos apos : Pos} {ta : TE} {t tk : TA} {pl : Sem Bool} {E : L2.St → XK} {wo : WE} {wa wk : WA}
theorem getsta_ok {pins : List (Addr × Obj)} {σ : L2.St} {H : Hp} {s : Shared} {A : Around} {E : Value → Shared → Prop} {Q : Value × List Value → Shared → Prop} (S : StaT X.K C m q st ps) (I : Inv X pins σ H s)
    (h : ∀ s', Inv X pins σ H s' → Q (.ref S.a, []) s') : wpAny (model X.prog X.w) A (getMethod (.ref C) m pl) Q E s := by
  obtain ⟨rest, hp⟩ := S.rc
  refine PySem.W.method_cls I.kIn S.ga (PySem.W.cls_bind I.kIn S.rd S.at_ ?_)
  exact wpAny_call (PySem.W.sm_get (s := { s with toks := s.toks + 1 }) I.kIn hp (PySem.W.handed_on rfl (h _ (I.tok _))))
def tSta (C : Addr) (sp : Sp) (E : L2.St → XK) (ta : TE) (t : TA) : TE := fun σ H Q => ta σ H fun x H1 => x = .ref C ∧ t σ H1 fun vs H2 => sp vs H2 Q (E σ)
theorem pe_sta (S : StaT X.K C m q st ps) (F : FnG X.prog X.w X.K X.mg X.base k S.a S.fd ps sp) (gd : X.A.guards = some []) (hr : Room k X.A) (ho : PE X o ta)
    (hx : ∀ σ, PassesAt (L2.CX X.prog X.w) X σ (E σ)) (ha : PA X (e :: es) t)
    (hst : starEach (e :: es) X.env = (false, eval e X.env) :: starEach es X.env := by rfl) (hpl : (backTo pos (starEach es X.env)).any (·.1) = false := by rfl)
    (ht : eval (.Call (.Attribute o m apos) (e :: es) [] pos) X.env = (do
      let ov ← eval o X.env
      standAt apos.atName
      let (f, first) ← holding [ov] (getMethod ov m pl)
      callWith pos f first (backTo pos (starEach (e :: es) X.env)) (backToKw pos (keywordEach [] X.env))) := by rfl) :
    PE X (.Call (.Attribute o m apos) (e :: es) [] pos) (tSta C sp E ta t) := by
  refine ⟨fun pins s σ H Q I h => ?_⟩
  refine PySem.W.methodCall_KW (pl := pl) (thn (ho.run pins s σ H _ I h) fun u s1 ⟨v, H1, I1, rx, ex, h1⟩ => ?_) ht
  subst ex
  obtain rfl : u = Value.ref C := rx
  refine getsta_ok S I1 fun s2 I2 => ?_
  have args := ha.run pos pins s2 σ H1 _ I2 h1
  refine PySem.W.callWith_K (h₀ := X.base) I2.ok.mod.kin S.fn.kp (thn args ?_) hst hpl
  intro us s3 hq
  obtain ⟨vs, H2, I3, r, z⟩ := hq
  refine ⟨I3.kIn, ?_⟩
  have hl : us.length = ps.length := r.length.symm.trans (F.len _ _ _ _ z)
  have b := S.bd s3 us I3.kIn (by rw [List.append_nil]; exact hl)
  rw [List.append_nil] at b
  exact runG F gd hr (hx σ) I3 b r z
variable {kws : List Keyword} {ks : List Str} {n : Nat} {g : {α : Type} → List α → List α → List α}
def tStaK (C : Addr) (m : Nat) (sp : Sp) (g : {α : Type} → List α → List α → List α) (E : L2.St → XK) (ta : TE) (tk : TA) : TE := fun σ H Q => ta σ H fun x H1 => x = .ref C ∧ tk σ H1 fun zs H2 => zs.length = m ∧ sp (g [] zs) H2 Q (E σ)
theorem pe_staK (S : StaT X.K C m q st ps) (F : FnG X.prog X.w X.K X.mg X.base k S.a S.fd ps sp) (gd : X.A.guards = some []) (hr : Room k X.A) (hb : KBd X.K S.fd ps ks 0 g) (ho : PE X o ta)
    (hx : ∀ σ, PassesAt (L2.CX X.prog X.w) X σ (E σ)) (hkw : PK X kws tk) (hall : (backToKw pos (keywordEach kws X.env)).all (·.1.isSome) = true := by rfl)
    (hks : (backToKw pos (keywordEach kws X.env)).filterMap (·.1) = ks := by rfl)
    (hpl : ((backTo pos (starEach [] X.env)).any (·.1) || (backToKw pos (keywordEach kws X.env)).any (·.1.isNone)) = false := by rfl)
    (ht : eval (.Call (.Attribute o m apos) [] kws pos) X.env = (do
      let ov ← eval o X.env
      standAt apos.atName
      let (f, first) ← holding [ov] (getMethod ov m pl)
      callWith pos f first (backTo pos (starEach [] X.env)) (backToKw pos (keywordEach kws X.env))) := by rfl) :
    PE X (.Call (.Attribute o m apos) [] kws pos) (tStaK C ks.length sp g E ta tk) := by
  refine ⟨fun pins s σ H Q I h => ?_⟩
  refine PySem.W.methodCall_KW (pl := pl) (thn (ho.run pins s σ H _ I h) fun u s1 ⟨v, H1, I1, rx, ex, h1⟩ => ?_) ht
  subst ex
  obtain rfl : u = Value.ref C := rx
  refine getsta_ok S I1 fun s2 I2 => ?_
  refine PySem.W.callWith_KW0 (h₀ := X.base) I2.ok.mod.kin S.fn.kp hall (thn (hkw.run pos pins s2 σ H1 _ I2 h1) ?_) hpl
  intro ws s3 hq2
  obtain ⟨zs, H2, I3, rz, l2, q2⟩ := hq2
  refine ⟨I3.kIn, ?_⟩
  rw [hks]
  exact runG F gd hr (hx σ) I3 (hb.to s3 [] ws rfl (rz.length.symm.trans l2)) (hb.rel (vs := []) rfl l2 .nil rz) q2
def wSta (C : Addr) (sp : SpD) (wo : WE) (wa : WA) : WE := fun R δ μ P => wo R δ μ fun d μ1 => d = .adr C ∧ wa R δ μ1 fun ds μ2 => sp ds μ2 P fun C fs μ3 => R δ C fs μ3
theorem q_sta (S : StaT X.K C m q st ps) (F : FnG X.prog X.w X.K X.mg X.base k S.a S.fd ps (spOf X.K spd)) (gd : X.A.guards = some []) (hr : Room k X.A) (tk : Takes X W) (ho : QE X W o wo) (ha : QA X W (e :: es) wa)
    (hst : starEach (e :: es) X.env = (false, eval e X.env) :: starEach es X.env := by rfl) (hpl : (backTo pos (starEach es X.env)).any (·.1) = false := by rfl)
    (ht : eval (.Call (.Attribute o m apos) (e :: es) [] pos) X.env = (do
      let ov ← eval o X.env
      standAt apos.atName
      let (f, first) ← holding [ov] (getMethod ov m pl)
      callWith pos f first (backTo pos (starEach (e :: es) X.env)) (backToKw pos (keywordEach [] X.env))) := by rfl) :
    QE X W (.Call (.Attribute o m apos) (e :: es) [] pos) (wSta C spd wo wa) := by
  obtain ⟨t0, o1, o2⟩ := ho
  obtain ⟨t, h1, h2⟩ := ha
  refine ⟨_, pe_sta (pl := pl) (E := L2.WE W) S F gd hr o1 (fun σ => passAt tk σ) h1 hst hpl ht, fun R ι μ δ σ H P Q cn h kt => ?_⟩
  refine o2 R ι μ δ σ H _ _ cn h fun v d ι1 μ1 H1 s1 r1 i1 q1 => ?_
  obtain ⟨ed, q1⟩ := q1
  subst ed
  refine ⟨i1, h2 R ι1 μ1 δ σ H1 _ _ (cn.stp s1 r1) q1 fun vs ds ι2 μ2 H2 s2 r2 i2 q2 => ?_⟩
  exact ⟨ι2, μ2, ds, P, _, r2, i2, q2, kt.stp (s1.trans s2), ktx_of (μ' := μ2) cn.xl cn.env (s1.trans s2)⟩
def wStaK (C : Addr) (n : Nat) (sp : SpD) (g : {α : Type} → List α → List α → List α) (wo : WE) (wk : WA) : WE := fun R δ μ P => wo R δ μ fun d μ1 => d = .adr C ∧ wk R δ μ1 fun es μ2 => es.length = n ∧ sp (g [] es) μ2 P fun C fs μ3 => R δ C fs μ3
theorem q_staK (S : StaT X.K C m q st ps) (F : FnG X.prog X.w X.K X.mg X.base k S.a S.fd ps (spOf X.K spd)) (gd : X.A.guards = some []) (hr : Room k X.A) (hb : KBd X.K S.fd ps ks 0 g) (hG : GAll 0 ks.length g) (tk : Takes X W) (ho : QE X W o wo)
    (hkw : QK X W kws wk) (hall : (backToKw pos (keywordEach kws X.env)).all (·.1.isSome) = true := by rfl)
    (hks : (backToKw pos (keywordEach kws X.env)).filterMap (·.1) = ks := by rfl)
    (hpl : ((backTo pos (starEach [] X.env)).any (·.1) || (backToKw pos (keywordEach kws X.env)).any (·.1.isNone)) = false := by rfl)
    (ht : eval (.Call (.Attribute o m apos) [] kws pos) X.env = (do
      let ov ← eval o X.env
      standAt apos.atName
      let (f, first) ← holding [ov] (getMethod ov m pl)
      callWith pos f first (backTo pos (starEach [] X.env)) (backToKw pos (keywordEach kws X.env))) := by rfl) :
    QE X W (.Call (.Attribute o m apos) [] kws pos) (wStaK C ks.length spd g wo wk) := by
  obtain ⟨t0, o1, o2⟩ := ho
  obtain ⟨t', h3, h4⟩ := hkw
  refine ⟨_, pe_staK (pl := pl) (E := L2.WE W) S F gd hr hb o1 (fun σ => passAt tk σ) h3 hall hks hpl ht, fun R ι μ δ σ H P Q cn h kt => ?_⟩
  refine o2 R ι μ δ σ H _ _ cn h fun v d ι1 μ1 H1 s1 r1 i1 q1 => ?_
  obtain ⟨ed, q1⟩ := q1
  subst ed
  refine ⟨i1, h4 R ι1 μ1 δ σ H1 _ _ (cn.stp s1 r1) q1 fun vs ds ι2 μ2 H2 s2 r2 i2 q2 => ?_⟩
  obtain ⟨l2, q2⟩ := q2
  exact ⟨i2.length.trans l2, ι2, μ2, g [] ds, P, _, r2, hG X.K ι2 H2 [] ds [] vs rfl l2 rfl i2, q2, kt.stp (s1.trans s2), ktx_of (μ' := μ2) cn.xl cn.env (s1.trans s2)⟩
end
end HD
/-! HD43: except (A, B, C), without a name. -/
namespace HD
open PySem PySem.Spec PyProof.Rows L2
def wOnly3 (K : PySem.W.Frag) (cs : List Value) (ts : Addr → Value → Option Addr → TS) (Wout : L2.WX) (D : Ends) : L2.WX := fun cls d σ H =>
  ∃ b, PySem.W.exmAny K cls cs = some b ∧ (b = true → ∀ a, H a = none → ts a cls d D σ H) ∧ (b = false → Wout cls d σ H)
section
variable {X : Cx} {x1 x2 x3 : Str} {c1 c2 c3 : Value} {kk : Nat} {body suite : List Stmt} {b₀ : Stmt} {p1 p2 p3 tpos pos pos' : Pos} {tb : L2.WX → TS} {ts : Addr → Value → Option Addr → TS} {Wout : L2.WX}
theorem ps_try_only3 (hs : X.stack = X.env :: X.outer) (hf : X.env.frame = some X.env.locals) (n1 : Names X x1 c1) (n2 : Names X x2 c2) (n3 : Names X x3 c3) (tk : Takes X Wout)
    (hb : ∀ (W : L2.WX) (pn : List (Addr × Obj)) (xe : Value → Shared → Prop), Takes (X.tr pn xe) W → PassesOwn (model X.prog X.w) X.A X.env xe → PSs (X.tr pn xe) body (tb W))
    (hsu : ∀ (a : Addr) (oe : Obj) (cls : Value) (d : Option Addr) (pn : List (Addr × Obj)), Zc cls d oe → (∃ vs, oe.data = .fields vs) → PSs (X.suite a ((a, oe) :: pn)) (b₀ :: suite) (ts a cls d)) :
    PS X (.Try body [.ExceptHandler (some (.Tuple [.Name x1 p1, .Name x2 p2, .Name x3 p3] kk tpos)) none (b₀ :: suite) pos'] [] [] pos) (fun D σ H => tb (wOnly3 X.K [c1, c2, c3] ts Wout D) D σ H) := by
  refine ⟨fun pins s σ H D I h => wpAny_Try_except ?_⟩
  have ok := I.ok
  refine wpAny_mono ((hb (wOnly3 X.K [c1, c2, c3] ts Wout D) (X.pn ++ pins) (fun e s₁ => wpAny (model X.prog X.w) X.A (noteFrame e X.env) (fun _ s₂ => wpAny (model X.prog X.w) X.A (setFlight e none) (fun _ s₃ =>
    wpAny (model X.prog X.w) X.A (handleBy e X.env [.ExceptHandler (some (.Tuple [.Name x1 p1, .Name x2 p2, .Name x3 p3] kk tpos)) none (b₀ :: suite) pos']) (SP X pins D) X.xe s₃) X.xe s₂) X.xe s₁) (fun u s' xx => ?_) PassesOwn.looking).run [] s σ H D (I.toTry _) h) (fun f s1 e => ?_) (fun _ _ z => z)
  · obtain ⟨a, B, sI, pins', σ', H', cls, d, rfl, J0, nb, up, sky, na, os, ag, b, hb1, hyes, hno⟩ := xx
    have J : Inv X pins σ' H' sI := J0.ofTry ok
    refine Sky.land Zc.steady (by rw [ok.frames, hs]) hf (by rw [← hs]; exact sky) fun h3 fl up3 => ?_
    -- what holds wherever the error lies quietly
    have at_ : ∀ (h : Heap), HandSPX.FlyingZ B (X.env :: X.outer) a (Zc cls d) h → sI.heap.UpToSlots h → Inv X pins σ' H' { s' with heap := h } ∧ ∃ oe vs, h.get? a = some oe ∧ Zc cls d oe ∧ oe.data = .fields vs ∧ a ≠ X.env.locals ∧ a ∉ X.fs ∧ Inv (X.suite a ((a, oe) :: (X.pn ++ pins))) [] σ' H' { s' with heap := h } := fun h f u => by
      have I' : Inv X pins σ' H' { s' with heap := h } := J.landed nb f.1 u os ag
      obtain ⟨oe, vs, he, hz, hd⟩ := f.there
      have nfr := not_frame f.2.2.1 he hd
      have nL : a ≠ X.env.locals := fun z => nfr (List.mem_filterMap.mpr ⟨X.env, List.mem_cons_self, by rw [hf, z]⟩)
      have nF : a ∉ X.fs := fun hm => by
        obtain ⟨e, he, q⟩ := List.mem_filterMap.mp hm
        exact nfr (List.mem_filterMap.mpr ⟨e, List.mem_cons_of_mem _ he, q⟩)
      exact ⟨I', oe, vs, he, hz, hd, nL, nF, I'.suite he hd na nL nF⟩
    obtain ⟨I3, oe3, vs3, he3, hz3, hd3, _, _, S3⟩ := at_ h3 fl (up.trans up3)
    have ty : PySem.W.Looks (model X.prog X.w) h3 (typeOf (.ref a)) cls := fun A Q E s k q => wpAny_typeOf_ref (k _ _ he3) (by rw [hz3.1]; exact q)
    refine wpAny_handleBy_cons (codeAny_handlers_test ?_) (by intro q; cases q)
    have m : ∀ {x : Str} {c : Value}, Names X x c → Names (X.suite a ((a, oe3) :: (X.pn ++ pins))) x c := fun h => h
    refine wpAny_Tuple (wpAny_items_cons (ld_names (m n1) S3 (wpAny_items_cons (ld_names (m n2) S3 (wpAny_items_cons (ld_names (m n3) S3 (wpAny_items_nil ⟨by size_fits, ?_⟩)))))))
    -- the tuple of the classes is laid; the match
    have kp : ∀ q o, h3.get? q = some o → (h3.push { cls := .type "tuple", data := .seq [c1, c2, c3].toArray }).get? q = some o := fun _ _ z => Heap.get?_push_of_some _ z
    obtain ⟨fl4, up4⟩ := fly_push (o := { cls := .type "tuple", data := .seq [c1, c2, c3].toArray }) fl
    refine (PySem.W.exm_tup3 (M := model X.prog X.w) (I3.kIn.keeps kp) (ty.keeps kp) (Heap.get?_push_size h3 rfl) hb1).here ?_
    generalize h3.push { cls := .type "tuple", data := .seq [c1, c2, c3].toArray } = h4 at fl4 up4 ⊢
    have u4 := (up.trans up3).trans up4
    cases b with
    | true =>
      refine codeAny_handlers_suite (HandSPX.lands_againZ fl4 fun h5 fl5 up5 => ?_)
      obtain ⟨_, oe, vs, he, hz, hd, _, _, S5⟩ := at_ h5 fl5 (u4.trans up5)
      refine wpAny_mono ((hsu a oe cls d (X.pn ++ pins) hz ⟨_, hd⟩).run [] _ _ H' _ S5 (hyes rfl a na)) (fun f s6 sp6 => ?_) (fun _ _ z => z.elim)
      cases f with
      | ret u =>
        obtain ⟨v, _, _, S, r, q⟩ := sp6
        exact ⟨v, _, _, S.unsuite ok, r, q⟩
      | next =>
        obtain ⟨_, _, S, q⟩ := sp6
        exact ⟨_, _, S.unsuite ok, q⟩
      | brk =>
        obtain ⟨_, _, S, q⟩ := sp6
        exact ⟨_, _, S.unsuite ok, q⟩
      | cont =>
        obtain ⟨_, _, S, q⟩ := sp6
        exact ⟨_, _, S.unsuite ok, q⟩
    | false =>
      show wpAny _ X.A (handleBy (.ref a) X.env []) _ _ _
      refine wpAny_handleBy_nil ?_
      obtain ⟨_, _, _, oe, vs, T, oT, ts', he, hz, hd, h1, _⟩ := id fl4
      have out : wpAny (model X.prog X.w) X.A (setFlight (.ref a) X.env.frame) (fun _ s4 => wpAny (model X.prog X.w) X.A (throw (.ref a) : Sem Flow) (SP X pins D) X.xe s4) X.xe { s' with heap := h4 } := by
        rw [hf]
        exact HandSPX.setFlight_upZ fl4 fun h5 held up5 => wpAny_throw (tk _ _ ⟨a, B, sI, pins, σ', H', cls, d, rfl, J, nb, u4.trans up5, .inr (.inr (by rw [hs]; exact held)), na, os, ag, hno rfl⟩)
      unfold PySem.passOn
      refine wpAny_bind (wpAny_field he hd h1 ?_)
      rw [if_neg (show ¬ ((Value.ref T == Value.none) = true) from by simp)]
      first
        | exact wpAny_bind (wpAny_pure (wpAny_bind out))
        | exact wpAny_bind out
  · cases f with
    | ret u =>
      obtain ⟨v, _, _, J', r, q⟩ := e
      exact ⟨v, _, _, J'.ofTry ok, r, q⟩
    | next =>
      obtain ⟨_, _, J', q⟩ := e
      exact wpAny_execs_nil ⟨_, _, J'.ofTry ok, q⟩
    | brk =>
      obtain ⟨_, _, J', q⟩ := e
      exact ⟨_, _, J'.ofTry ok, q⟩
    | cont =>
      obtain ⟨_, _, J', q⟩ := e
      exact ⟨_, _, J'.ofTry ok, q⟩
end
def wTryOnly3 (K : PySem.W.Frag) (cs : List Value) (wb : WS) (wsu : Addr → Value → Option Addr → WS) : WS := fun R E δ μ =>
  wb (fun δ' C fs μ' => ∃ b, PySem.W.exmAny K (.ref C) cs = some b ∧ (b = true → ∀ a d, (d = none → fs = []) → wsu a (.ref C) d RN E δ' μ') ∧ (b = false → R δ' C fs μ')) E δ μ
section
variable {X : Cx} {W : WX} {x1 x2 x3 : Str} {c1 c2 c3 : Value} {kk : Nat} {body suite : List Stmt} {b₀ : Stmt} {p1 p2 p3 tpos pos pos' : Pos} {wb : WS} {wsu : Addr → Value → Option Addr → WS}
theorem qs_tryOnly3 (hs : X.stack = X.env :: X.outer) (hf : X.env.frame = some X.env.locals) (n1 : Names X x1 c1) (n2 : Names X x2 c2) (n3 : Names X x3 c3) (tk : Takes X W)
    (hb : ∀ (W' : WX) (pn : List (Addr × Obj)) (xe : Value → Shared → Prop), Takes (X.tr pn xe) W' → PassesOwn (model X.prog X.w) X.A X.env xe → QSs (X.tr pn xe) W' body wb)
    (hsu : ∀ (a : Addr) (oe : Obj) (cls : Value) (d : Option Addr) (pn : List (Addr × Obj)), Zc cls d oe → (∃ vs, oe.data = .fields vs) → QSs (X.suite a ((a, oe) :: pn)) WN (b₀ :: suite) (wsu a cls d)) :
    QS X W (.Try body [.ExceptHandler (some (.Tuple [.Name x1 p1, .Name x2 p2, .Name x3 p3] kk tpos)) none (b₀ :: suite) pos'] [] [] pos) (wTryOnly3 X.K [c1, c2, c3] wb wsu) := by
  refine ⟨_, ps_try_only3
    (tb := fun W' D σ H => ∀ (pn : List (Addr × Obj)) (xe : Value → Shared → Prop), Takes (X.tr pn xe) W' → PassesOwn (model X.prog X.w) X.A X.env xe → ∃ t, PSs (X.tr pn xe) body t ∧ t D σ H)
    (ts := fun a cls d D σ H => ∀ (oe : Obj) (pn : List (Addr × Obj)), Zc cls d oe → (∃ vs, oe.data = .fields vs) → ∃ t, PSs (X.suite a ((a, oe) :: pn)) (b₀ :: suite) t ∧ t D σ H)
    hs hf n1 n2 n3 tk (fun W' pn xe tk' po => ⟨fun pins s σ H D I h => ?_⟩) (fun a oe cls d pn hz hd => ⟨fun pins s σ H D I h => ?_⟩), fun R ι μ δ σ H E D c1 h l => ?_⟩
  · obtain ⟨t, h1, h2⟩ := h pn xe tk' po
    exact h1.run pins s σ H D I h2
  · obtain ⟨t, h1, h2⟩ := h oe pn hz hd
    exact h1.run pins s σ H D I h2
  · intro pn xe tk' po
    obtain ⟨t, h1, h2⟩ := hb _ pn xe tk' po
    refine ⟨t, h1, h2 _ ι μ δ σ H E D ⟨c1.rel, c1.env, ?_⟩ h l⟩
    intro ι' μ' δ' σ' H' C fs d s' r' e' hd' q'
    obtain ⟨b, hb1, hyes, hno⟩ := q'
    refine ⟨b, hb1, fun hb2 a _ oe pn' hz hdat => ?_, fun hb2 => c1.xl ι' μ' δ' σ' H' C fs d s' r' e' hd' (hno hb2)⟩
    obtain ⟨t', g1, g2⟩ := hsu a oe (.ref C) d pn' hz hdat
    exact ⟨t', g1, g2 RN ι' μ' _ _ H' _ _ ⟨r', e', xlN⟩ (hyes hb2 a d (dxNone hd')) (l.stp s')⟩
end
end HD
/-! HD44: an instance == a value of any kind, by the own __eq__; the truth of an instance. -/
namespace HD
open PySem PySem.Spec PyProof.Rows L2
/-- what is known of the class at C -/
structure CFacts (K : PySem.W.Frag) (C : Addr) : Prop where
  cls : Cls K C
  ob : PySem.W.subIn K (.ref C) (.type "object") = some true
  ca : PySem.W.findIn K (.ref C) "__class__" = some (some (.builtin "object.__class__"))
  cg : PySem.W.specialIn K (.builtin "object.__class__") "__get__" = some (some (.builtin "getset_descriptor.__get__"))
  ct : PySem.W.takesIn K (.builtin "object.__class__") = some true
  cm : PySem.W.mroIn K C (.type "object") = some true
  no : ∀ t, t ∈ ["int", "bool", "str", "NoneType", "tuple", "list", "dict"] → PySem.W.kitOne K (.type t) (.ref C) = some false
theorem ClsT.facts {K : PySem.W.Frag} {mg : Str → Option Value} {x : Str} (T : ClsT K mg x) : CFacts K T.C := ⟨T.cls, T.ob, T.ca, T.cg, T.ct, T.cm, T.no⟩
section
variable {X : Cx} {C : Addr} {k : Nat} {f : Addr} {fd : FuncData} {ps : List Str} {sp : Sp} {spd : SpD} {N : List String}
/-- what the text has of a class whose instances are always true -/
structure TrueC (K : PySem.W.Frag) (C : Addr) : Prop where
  b : PySem.W.findIn K (.ref C) "__bool__" = some none
  l : PySem.W.findIn K (.ref C) "__len__" = some none
variable {W : WX} {a : Expr} {we : WE}
end
end HD
/-! HD45: repr(x) by an own __repr__. -/
namespace HD
open PySem PySem.Spec PyProof.Rows L2
section
variable {X : Cx} {C f : Addr} {k : Nat} {fd : FuncData} {ps : List Str} {sp : Sp} {spd : SpD}
end
/-- a def that stands under a second name g -/
structure FnA (K : PySem.W.Frag) (mg : Str → Option Value) (g x : Str) (st : Stmt) (ps : List Str) where
  a : Addr
  fd : FuncData
  fn : Fun K x x st a fd
  gl : mg g = some (.ref a)
  bd : Binds K fd ps []
end HD
namespace HDL
open PySem PySem.Spec PyProof.Rows L2 HD

/-! ### the store in words -/
/-- all cells stand -/
def Ext (μ μ' : Sto) : Prop := μ.length ≤ μ'.length ∧ ∀ k o, cell μ k = some o → cell μ' k = some o
/-- all cells but j stand -/
def Grow (j : Nat) (μ μ' : Sto) : Prop := μ.length ≤ μ'.length ∧ ∀ k o, k ≠ j → cell μ k = some o → cell μ' k = some o
theorem Ext.refl (μ : Sto) : Ext μ μ := ⟨Nat.le_refl _, fun _ _ h => h⟩
theorem Ext.trans {μ μ1 μ2 : Sto} (a : Ext μ μ1) (b : Ext μ1 μ2) : Ext μ μ2 := ⟨Nat.le_trans a.1 b.1, fun k o h => b.2 k o (a.2 k o h)⟩
theorem Ext.app (μ ν : Sto) : Ext μ (μ ++ ν) := ⟨by rw [List.length_append]; omega, fun _ _ h => cell_app ν h⟩
theorem Grow.refl (j : Nat) (μ : Sto) : Grow j μ μ := ⟨Nat.le_refl _, fun _ _ _ h => h⟩
theorem Grow.trans {j : Nat} {μ μ1 μ2 : Sto} (a : Grow j μ μ1) (b : Grow j μ1 μ2) : Grow j μ μ2 := ⟨Nat.le_trans a.1 b.1, fun k o n h => b.2 k o n (a.2 k o n h)⟩
theorem Grow.ext {j : Nat} {μ μ1 μ2 : Sto} (a : Grow j μ μ1) (b : Ext μ1 μ2) : Grow j μ μ2 := ⟨Nat.le_trans a.1 b.1, fun k o n h => b.2 k o (a.2 k o n h)⟩
theorem Grow.app {j : Nat} {μ μ1 : Sto} (a : Grow j μ μ1) (ν : Sto) : Grow j μ (μ1 ++ ν) := a.ext (Ext.app _ _)
theorem Ext.grow {j : Nat} {μ μ1 μ2 : Sto} (a : Ext μ μ1) (b : Grow j μ1 μ2) : Grow j μ μ2 := ⟨Nat.le_trans a.1 b.1, fun k o n h => b.2 k o n (a.2 k o h)⟩
theorem Ext.lst {μ μ' : Sto} {k : Nat} {xs : List D} (e : Ext μ μ') (h : lstAt μ k = some xs) : lstAt μ' k = some xs := lstAt_of (e.2 k _ (lstAt_cell h))
theorem Grow.lst {j : Nat} {μ μ' : Sto} {k : Nat} {xs : List D} (e : Grow j μ μ') (hk : k ≠ j) (h : lstAt μ k = some xs) : lstAt μ' k = some xs := lstAt_of (e.2 k _ hk (lstAt_cell h))
theorem lst_new (μ : Sto) (xs : List D) : lstAt (μ ++ [.lst xs]) μ.length = some xs := lstAt_of (cell_new μ _ [])
theorem lst_lt {μ : Sto} {k : Nat} {xs : List D} (h : lstAt μ k = some xs) : k < μ.length := cell_lt (lstAt_cell h)
theorem lst_set {μ : Sto} {k : Nat} {xs ys : List D} (h : lstAt μ k = some xs) : lstAt (μ.set k (.lst ys)) k = some ys := lstAt_of (cell_set_same (lst_lt h))
theorem grow_set (μ : Sto) (k : Nat) (o : O) : Grow k μ (μ.set k o) := ⟨by rw [List.length_set]; omega, fun j u n h => by rw [cell_set_ne n]; exact h⟩
/-- a jar: three numbers, the last one at most B -/
def Jar (μ : Sto) (j : Nat) (B : Int) : Prop := ∃ a m c : Int, lstAt μ j = some [.int a, .int m, .int c] ∧ 0 ≤ a ∧ 0 ≤ m ∧ m < 2147483648 ∧ 0 ≤ c ∧ c ≤ B
theorem Jar.ext {μ μ' : Sto} {j : Nat} {B : Int} (e : Ext μ μ') (h : Jar μ j B) : Jar μ' j B := by
  obtain ⟨a, m, c, h1, h2⟩ := h
  exact ⟨a, m, c, e.lst h1, h2⟩
theorem Jar.mono {μ : Sto} {j : Nat} {B B' : Int} (h : Jar μ j B) (hB : B ≤ B') : Jar μ j B' := by
  obtain ⟨a, m, c, h1, h2, h3, h4, h5, h6⟩ := h
  exact ⟨a, m, c, h1, h2, h3, h4, h5, by omega⟩
theorem Jar.app {μ : Sto} {j : Nat} {B : Int} (h : Jar μ j B) (ν : Sto) : Jar (μ ++ ν) j B := h.ext (Ext.app _ _)
theorem Jar.lt {μ : Sto} {j : Nat} {B : Int} (h : Jar μ j B) : j < μ.length := by
  obtain ⟨a, m, c, h1, _⟩ := h
  exact lst_lt h1
/-! ### sizes -/
theorem mulS {i j : Int} (hi : -(2 ^ 1000) < i ∧ i < 2 ^ 1000) (hj : -(2 ^ 1000) < j ∧ j < 2 ^ 1000) : MulOk i j := by
  have gen : ∀ x : Int, -(2 ^ 1000) < x ∧ x < 2 ^ 1000 → x.natAbs < 2 ^ 1000 := fun x h => by
    have e : ((2 ^ 1000 : Nat) : Int) = (2 : Int) ^ 1000 := by rw [Int.natCast_pow] <;> rfl
    omega
  exact mulOk (a := 1000) (b := 1000) (gen i hi) (gen j hj) (by decide)
/-! ### items of written lists -/
theorem at0 {α : Type} {x : α} {r : List α} : atI (x :: r) (0 : Int) = some x := atI_nat (j := 0) rfl
theorem at1 {α : Type} {x y : α} {r : List α} : atI (x :: y :: r) (1 : Int) = some y := atI_nat (j := 1) rfl
theorem at2 {α : Type} {x y z : α} {r : List α} : atI (x :: y :: z :: r) (2 : Int) = some z := atI_nat (j := 2) rfl
theorem ix30 : ixN 3 (0 : Int) = some 0 := rfl
theorem ix31 : ixN 3 (1 : Int) = some 1 := rfl
theorem ix32 : ixN 3 (2 : Int) = some 2 := rfl
/-- the top and the bottom of a number -/
def IsNum (a b : Int) : Prop := a ≠ 0 ∧ 1 ≤ b ∧ Int.gcd a b = 1 ∧ a.natAbs ≤ 1000000000000000000000000000000 ∧ b ≤ 1000000000000000000000000000000
theorem abs_nat (a : Int) : (if a < 0 then -a else a) = (a.natAbs : Int) := by
  split <;> omega
/-! ### what is shown; equal data -/
theorem ok_ofString (s : String) : PyData.strOk (Str.ofString s) = true := by
  rw [Str.ofString_eq_toList]
  unfold PyData.strOk
  simp only [List.all_toArray, List.all_eq_true, List.mem_map, decide_eq_true_eq]
  rintro x ⟨c, _, rfl⟩
  have h := c.valid
  have e : c.toNat = c.val.toNat := rfl
  rw [e]
  rcases h with h | h
  · omega
  · omega
theorem same_eqv {d : PyData} (h : SeqAt.shaped d = true) : PyData.eqv d d = true := SeqAt.eqv_refl d (Bool.and_eq_true_iff.mp h).1
/-! ### bases and roots -/
/-- x / y with the exponent k is the base of a / b -/
def BaseIs (a b x y k : Nat) : Prop := (a = b ∧ x = 1 ∧ y = 1 ∧ k = 0) ∨ (a ≠ b ∧ 1 ≤ k ∧ x ^ k = a ∧ y ^ k = b ∧ ∀ n r s : Nat, k < n → r ^ n = a → s ^ n ≠ b)
theorem root_eq {r s n : Nat} (hn : 1 ≤ n) (h : r ^ n = s ^ n) : r = s := by
  refine Nat.le_antisymm (Nat.le_of_not_lt fun z => ?_) (Nat.le_of_not_lt fun z => ?_)
  · have := Nat.pow_lt_pow_left z (by omega : n ≠ 0)
    omega
  · have := Nat.pow_lt_pow_left z (by omega : n ≠ 0)
    omega
theorem BaseIs.same {a b x y k x' y' k' : Nat} (h : BaseIs a b x y k) (h' : BaseIs a b x' y' k') : x = x' ∧ y = y' ∧ k = k' := by
  rcases h with ⟨e, e1, e2, e3⟩ | ⟨ne, hk, ha, hb, hm⟩
  · rcases h' with ⟨_, f1, f2, f3⟩ | ⟨ne', _⟩
    · omega
    · exact absurd e ne'
  · rcases h' with ⟨e', _⟩ | ⟨ne', hk', ha', hb', hm'⟩
    · exact absurd e' ne
    · have ek : k = k' := by
        refine Nat.le_antisymm (Nat.le_of_not_lt fun z => ?_) (Nat.le_of_not_lt fun z => ?_)
        · exact hm' k x y z ha hb
        · exact hm k' x' y' z ha' hb'
      subst ek
      exact ⟨root_eq hk (ha.trans ha'.symm), root_eq hk (hb.trans hb'.symm), rfl⟩
/-- the fraction whose fourth root is asked for -/
def fourTop (a b : Int) : Nat := a.natAbs / Nat.gcd a.natAbs (4 * b.natAbs)
def fourBot (a b : Int) : Nat := 4 * b.natAbs / Nat.gcd a.natAbs (4 * b.natAbs)
theorem eqv_pair (a b c d : Int) : PyData.eqv (.tuple [.int a, .int b]) (.tuple [.int c, .int d]) = (decide (a = c) && decide (b = d)) := by
  show ((a == c) && ((b == d) && true)) = _
  rw [Bool.and_true]
  rfl
theorem shaped_pair (a b : Int) : SeqAt.shaped (.tuple [.int a, .int b]) = true := by rfl
theorem py_pair {μ : Sto} (a b : Int) : Py μ (.tup [.int a, .int b]) (.tuple [.int a, .int b]) := .tup (.cons (.int _) (.cons (.int _) .nil))
theorem common_root : ∀ (N p q x r : Nat), p + q ≤ N → 1 ≤ p → 1 ≤ q → Nat.gcd p q = 1 → 1 ≤ x → 1 ≤ r → x ^ p = r ^ q → ∃ t, x = t ^ q ∧ r = t ^ p
  | 0, p, q, x, r, h, hp, hq, _, _, _, _ => by omega
  | N + 1, p, q, x, r, h, hp, hq, hg, hx, hr, e => by
    rcases Nat.lt_trichotomy p q with c | c | c
    · -- q greater
      have eq : q = (q - p) + p := by omega
      have e2 : r ^ q = r ^ (q - p) * r ^ p := by rw [← Nat.pow_add, ← eq]
      have dv : r ^ p ∣ x ^ p := by
        rw [e, e2]
        exact Nat.dvd_mul_left _ _
      obtain ⟨m, hm⟩ := (Nat.pow_dvd_pow_iff (by omega : p ≠ 0)).mp dv
      have rp : 0 < r ^ p := Nat.pow_pos hr
      have e3 : m ^ p = r ^ (q - p) := by
        have : r ^ p * m ^ p = r ^ p * r ^ (q - p) := by
          rw [← Nat.mul_pow, ← hm, e, e2, Nat.mul_comm]
        exact Nat.eq_of_mul_eq_mul_left rp this
      have m1 : 1 ≤ m := Nat.pos_of_ne_zero fun z => by
        rw [z, Nat.mul_zero] at hm
        omega
      have g' : Nat.gcd p (q - p) = 1 := by
        rw [Nat.gcd_sub_self_right (by omega)]
        exact hg
      obtain ⟨t, h1, h2⟩ := common_root N p (q - p) m r (by omega) hp (by omega) g' m1 hr e3
      refine ⟨t, ?_, h2⟩
      have hp2 : t ^ p * t ^ (q - p) = t ^ q := by
        rw [← Nat.pow_add]
        congr 1
        omega
      rw [hm, ← hp2, ← h2, ← h1]
    · subst c
      rw [Nat.gcd_self] at hg
      subst hg
      rw [Nat.pow_one, Nat.pow_one] at e
      exact ⟨x, by rw [Nat.pow_one], by rw [Nat.pow_one, e]⟩
    · have ep : p = (p - q) + q := by omega
      have e2 : x ^ p = x ^ (p - q) * x ^ q := by rw [← Nat.pow_add, ← ep]
      have dv : x ^ q ∣ r ^ q := by
        rw [← e, e2]
        exact Nat.dvd_mul_left _ _
      obtain ⟨m, hm⟩ := (Nat.pow_dvd_pow_iff (by omega : q ≠ 0)).mp dv
      have xq : 0 < x ^ q := Nat.pow_pos hx
      have e3 : x ^ (p - q) = m ^ q := by
        have : x ^ q * x ^ (p - q) = x ^ q * m ^ q := by
          rw [← Nat.mul_pow x m, ← hm, ← e, e2, Nat.mul_comm]
        exact Nat.eq_of_mul_eq_mul_left xq this
      have m1 : 1 ≤ m := Nat.pos_of_ne_zero fun z => by
        rw [z, Nat.mul_zero] at hm
        omega
      have g' : Nat.gcd (p - q) q = 1 := by
        rw [Nat.gcd_comm, Nat.gcd_sub_self_right (by omega), Nat.gcd_comm]
        exact hg
      obtain ⟨t, h1, h2⟩ := common_root N (p - q) q x m (by omega) (by omega) hq g' hx m1 e3
      refine ⟨t, h1, ?_⟩
      have hq2 : t ^ q * t ^ (p - q) = t ^ p := by
        rw [← Nat.pow_add]
        congr 1
        omega
      rw [hm, ← hq2, ← h2, ← h1]
/-! ### primes -/
def IsPr (p : Nat) : Prop := 2 ≤ p ∧ ∀ d : Nat, d ∣ p → d = 1 ∨ d = p
theorem pr_dvd : ∀ n : Nat, 2 ≤ n → ∃ p, IsPr p ∧ p ∣ n := by
  intro n
  induction n using Nat.strongRecOn with
  | _ n ih =>
    intro hn
    by_cases h : IsPr n
    · exact ⟨n, h, Nat.dvd_refl n⟩
    · have h2 : ∃ d : Nat, d ∣ n ∧ d ≠ 1 ∧ d ≠ n := by
        refine Classical.byContradiction fun z => h ⟨hn, fun d hd => ?_⟩
        by_cases a : d = 1
        · exact .inl a
        · by_cases b : d = n
          · exact .inr b
          · exact absurd ⟨d, hd, a, b⟩ z
      obtain ⟨d, hd, a, b⟩ := h2
      have d0 : d ≠ 0 := fun z => by
        rw [z, Nat.zero_dvd] at hd
        omega
      have dn := Nat.le_of_dvd (by omega) hd
      obtain ⟨p, hp, hpd⟩ := ih d (by omega) (by omega)
      exact ⟨p, hp, Nat.dvd_trans hpd hd⟩
theorem pr_mul {p a b : Nat} (hp : IsPr p) (h : p ∣ a * b) : p ∣ a ∨ p ∣ b := by
  rcases hp.2 _ (Nat.gcd_dvd_left p a) with g | g
  · exact .inr (Nat.Coprime.dvd_of_dvd_mul_left g h)
  · exact .inl (by rw [← g]; exact Nat.gcd_dvd_right p a)
theorem pr_pow {p a : Nat} (hp : IsPr p) : ∀ {k : Nat}, p ∣ a ^ k → p ∣ a
  | 0, h => by
    rw [Nat.pow_zero] at h
    have := Nat.le_of_dvd (by decide) h
    have := hp.1
    omega
  | k + 1, h => by
    rw [Nat.pow_succ] at h
    rcases pr_mul hp h with h | h
    · exact pr_pow hp h
    · exact h
theorem pr_le {p q : Nat} (hq : 1 ≤ q) (h : p ∣ q) : p ≤ q := Nat.le_of_dvd hq h
theorem pr_eq {p q : Nat} (hp : IsPr p) (hq : IsPr q) (h : p ∣ q) : p = q := by
  have := hp.1
  rcases hq.2 p h with z | z
  · omega
  · exact z
theorem asc_eq : ∀ {L M : List Nat}, L.Pairwise (· < ·) → M.Pairwise (· < ·) → (∀ x, x ∈ L ↔ x ∈ M) → L = M
  | [], [], _, _, _ => rfl
  | [], b :: M, _, _, h => absurd ((h b).mpr (List.mem_cons_self ..)) (by simp)
  | a :: L, [], _, _, h => absurd ((h a).mp (List.mem_cons_self ..)) (by simp)
  | a :: L, b :: M, hL, hM, h => by
    obtain ⟨a1, a2⟩ := List.pairwise_cons.mp hL
    obtain ⟨b1, b2⟩ := List.pairwise_cons.mp hM
    have e : a = b := by
      rcases List.mem_cons.mp ((h a).mp (List.mem_cons_self ..)) with z | z
      · exact z
      · rcases List.mem_cons.mp ((h b).mpr (List.mem_cons_self ..)) with y | y
        · exact y.symm
        · have := a1 b y
          have := b1 a z
          omega
    subst e
    rw [asc_eq a2 b2 fun x => ⟨fun hx => ?_, fun hx => ?_⟩]
    · rcases List.mem_cons.mp ((h x).mp (List.mem_cons_of_mem _ hx)) with z | z
      · have := a1 x hx
        omega
      · exact z
    · rcases List.mem_cons.mp ((h x).mpr (List.mem_cons_of_mem _ hx)) with z | z
      · have := b1 x hx
        omega
      · exact z
/-- the primes that divide n, ascending -/
def PrimesIs (n : Nat) (L : List Nat) : Prop := L.Pairwise (· < ·) ∧ ∀ p, p ∈ L ↔ IsPr p ∧ p ∣ n
theorem PrimesIs.eq {n : Nat} {L M : List Nat} (h : PrimesIs n L) (g : PrimesIs n M) : L = M := asc_eq h.1 g.1 fun x => (h.2 x).trans (g.2 x).symm
theorem PrimesIs.one {p : Nat} (hp : IsPr p) : PrimesIs p [p] := ⟨List.pairwise_singleton _ _, fun q => ⟨fun h => by
  rw [List.mem_singleton.mp h]
  exact ⟨hp, Nat.dvd_refl p⟩, fun ⟨hq, h⟩ => List.mem_singleton.mpr (pr_eq hq hp h)⟩⟩
theorem pr_of {p : Nat} (h2 : 2 ≤ p) (h : ((List.range p).all fun d => decide (d < 2) || p % d != 0) = true) : IsPr p := by
  refine ⟨h2, fun d hd => ?_⟩
  have dl := Nat.le_of_dvd (by omega) hd
  have d0 : d ≠ 0 := fun z => by
    rw [z, Nat.zero_dvd] at hd
    omega
  by_cases e : d = p
  · exact .inr e
  · refine .inl ?_
    have q := List.all_eq_true.mp h d (List.mem_range.mpr (by omega))
    rw [Nat.mod_eq_zero_of_dvd hd] at q
    have : d < 2 := by simpa using q
    omega
/-- no prime below q divides v -/
def Rough (q v : Nat) : Prop := ∀ p, IsPr p → p ∣ v → q ≤ p
theorem Rough.prime {q v : Nat} (hr : Rough q v) (hq : 2 ≤ q) (h : q ∣ v) : IsPr q := by
  obtain ⟨p, hp, hpq⟩ := pr_dvd q hq
  have h1 := hr p hp (Nat.dvd_trans hpq h)
  have h2 := pr_le (by omega) hpq
  have e : p = q := by omega
  exact e ▸ hp
theorem Rough.last {q v : Nat} (hr : Rough q v) (hv : 1 < v) (h : v < q * q) : IsPr v := by
  refine ⟨hv, fun d hd => Classical.byContradiction fun z => ?_⟩
  have z1 : d ≠ 1 := fun e => z (.inl e)
  have z2 : d ≠ v := fun e => z (.inr e)
  obtain ⟨e, he⟩ := hd
  have d0 : d ≠ 0 := fun y => by
    rw [y, Nat.zero_mul] at he
    omega
  have e0 : e ≠ 0 := fun y => by
    rw [y, Nat.mul_zero] at he
    omega
  have e1 : e ≠ 1 := fun y => by
    rw [y, Nat.mul_one] at he
    exact z2 he.symm
  obtain ⟨p, hp, hpd⟩ := pr_dvd d (by omega)
  obtain ⟨p', hp', hpe⟩ := pr_dvd e (by omega)
  have h1 := hr p hp (by rw [he]; exact Nat.dvd_trans hpd (Nat.dvd_mul_right d e))
  have h2 := hr p' hp' (by rw [he]; exact Nat.dvd_trans hpe (Nat.dvd_mul_left e d))
  have h3 := pr_le (by omega) hpd
  have h4 := pr_le (by omega) hpe
  have := Nat.mul_le_mul (Nat.le_trans h1 h3) (Nat.le_trans h2 h4)
  omega
theorem Rough.next {q v : Nat} (hr : Rough q v) (h : ¬ q ∣ v) : Rough (q + 1) v := fun p hp hd => by
  have := hr p hp hd
  have ne : p ≠ q := fun z => h (z ▸ hd)
  omega
theorem Rough.two (v : Nat) : Rough 2 v := fun p hp _ => hp.1
theorem Rough.of_dvd {q u v : Nat} (hr : Rough q v) (h : u ∣ v) : Rough q u := fun p hp hd => hr p hp (Nat.dvd_trans hd h)
theorem cpow10 {n : Int} (h : 0 ≤ n ∧ n ≤ 1000000) : CPow 10 n := ⟨h.1, h.2, by decide⟩
theorem p9 : (10 : Int) ^ Int.toNat 9 = 1000000000 := by decide +kernel
theorem Ext.set {μ μ2 : Sto} (e : Ext μ μ2) {k : Nat} (hk : μ.length ≤ k) (o : O) : Ext μ (μ2.set k o) :=
  ⟨by rw [List.length_set]; exact e.1, fun j u hj => by
    have := cell_lt hj
    rw [cell_set_ne (by omega)]
    exact e.2 j u hj⟩
theorem Grow.set {j : Nat} {μ μ2 : Sto} (e : Grow j μ μ2) {k : Nat} (hk : μ.length ≤ k) (o : O) : Grow j μ (μ2.set k o) :=
  ⟨by rw [List.length_set]; exact e.1, fun i u hj hi => by
    have := cell_lt hi
    rw [cell_set_ne (by omega)]
    exact e.2 i u hj hi⟩
theorem Jar.set {μ : Sto} {j k : Nat} {B : Int} (h : Jar μ j B) (hk : k ≠ j) (o : O) : Jar (μ.set k o) j B := by
  obtain ⟨a, m, c, h1, h2⟩ := h
  refine ⟨a, m, c, ?_, h2⟩
  rw [← h1]
  unfold lstAt
  rw [cell_set_ne (Ne.symm hk)]
/-! ### the kind of a number -/
/-- a is below 0, and a / b is -4 times a fourth power -/
def Four (a b : Int) : Prop := a < 0 ∧ ∃ r s : Nat, r ^ 4 = fourTop a b ∧ s ^ 4 = fourBot a b
def IsNumX (a b : Int) : Prop := a ≠ 0 ∧ 1 ≤ b ∧ Int.gcd a b = 1 ∧ a.natAbs < 2 ^ 125 ∧ b < 2 ^ 125
theorem IsNum.x {a b : Int} (h : IsNum a b) : IsNumX a b := by
  obtain ⟨h1, h2, h3, h4, h5⟩ := h
  have l : (1000000000000000000000000000000 : Nat) < 2 ^ 125 := by decide +kernel
  have l125 : ((2 ^ 125 : Nat) : Int) = (2 : Int) ^ 125 := by rw [Int.natCast_pow] <;> rfl
  exact ⟨h1, h2, h3, by omega, by omega⟩
/-! ### lists of integers from 0 on, as data -/
def natD (l : List Nat) : List D := l.map fun (p : Nat) => D.int (p : Int)
theorem natD_app (l : List Nat) (p : Nat) : natD (l ++ [p]) = natD l ++ [D.int (p : Int)] := by
  unfold natD
  rw [List.map_append]
  rfl
theorem natD_ints (l : List Nat) : natD l = (l.map Int.ofNat).map D.int := by
  unfold natD
  rw [List.map_map]
  rfl
theorem natD_len (l : List Nat) : (natD l).length = l.length := by
  unfold natD
  rw [List.length_map]
/-! ### comprehensions whose turns let the store grow -/
theorem lc_ext {i : Nat} {wt : WT} {we : WE} {δ : En} {n : Nat} {item : Nat → D} {ok : Sto → Prop} {μ : Sto} {P : D → Sto → Prop} (keep : Nat → Bool) (val : Nat → D) (hn : n ≤ 1000) (hok : ∀ μ', Ext μ μ' → ok μ')
    (ht : ∀ (j : Nat) (μ' : Sto) (Q : Bool → Sto → Prop), j < n → Ext μ μ' → (∀ μ'', Ext μ' μ'' → Q (keep j) μ'') → wt R0 (put δ i (some (item j))) μ' Q)
    (he : ∀ (j : Nat) (μ' : Sto) (Q : D → Sto → Prop), j < n → keep j = true → Ext μ μ' → (∀ μ'', Ext μ' μ'' → Q (val j) μ'') → we R0 (put δ i (some (item j))) μ' Q)
    (hP : ∀ μ', Ext μ μ' → lstAt μ' μ.length = some (((List.range n).filter keep).map val) → P (.ref μ.length) μ') : lcAll i wt we δ n item ok μ P := by
  refine ⟨fun j acc μ' => acc = ((List.range j).filter keep).map val ∧ Ext μ μ', ⟨rfl, Ext.app _ _⟩, ?_, ?_⟩
  · rintro j acc μ' hj hc ⟨rfl, e1⟩
    refine ⟨hok μ' e1, ?_⟩
    unfold lcTurn
    refine ht j μ' _ hj e1 fun μ2 e2 => ?_
    cases hk : keep j with
    | false =>
      refine ⟨e2.2 _ _ hc, ?_, e1.trans e2⟩
      rw [List.range_succ, List.filter_append, List.filter_cons, hk]
      simp
    | true =>
      refine he j μ2 _ hj hk (e1.trans e2) fun μ3 e3 => ⟨⟨(e2.trans e3).2 _ _ hc, ?_⟩, ?_, ((e1.trans e2).trans e3).set (Nat.le_refl _) _⟩
      · have := List.length_filter_le keep (List.range j)
        rw [List.length_range] at this
        rw [List.length_map]
        omega
      · rw [List.range_succ, List.filter_append, List.filter_cons, hk]
        simp
  · rintro acc μ' hc ⟨rfl, e1⟩
    exact ⟨hok μ' e1, hP μ' e1 (lstAt_of hc)⟩
theorem ints_natsP {l : List Nat} {ms : List Int} (h : ∀ k, k ∈ ms ↔ k ∈ l.map Int.ofNat) : ∃ L : List Nat, ms = L.map Int.ofNat ∧ ∀ p, p ∈ L ↔ p ∈ l := by
  have nn : ∀ k ∈ ms, ∃ p : Nat, k = Int.ofNat p := fun k hk => by
    obtain ⟨p, _, e⟩ := List.mem_map.mp ((h k).mp hk)
    exact ⟨p, e.symm⟩
  refine ⟨ms.map Int.toNat, ?_, fun p => ?_⟩
  · rw [List.map_map]
    refine (List.map_id ms).symm.trans (List.map_congr_left fun k hk => ?_)
    obtain ⟨p, rfl⟩ := nn k hk
    rfl
  · constructor
    · intro z
      obtain ⟨k, hk, e⟩ := List.mem_map.mp z
      obtain ⟨q, hq, e2⟩ := List.mem_map.mp ((h k).mp hk)
      subst e2
      have : q = p := e
      exact this ▸ hq
    · intro z
      exact List.mem_map.mpr ⟨Int.ofNat p, (h _).mpr (List.mem_map.mpr ⟨p, z, rfl⟩), rfl⟩
theorem asc_nats {L : List Nat} (h : (L.map Int.ofNat).Pairwise (· < ·)) : L.Pairwise (· < ·) := by
  rw [List.pairwise_map] at h
  exact h.imp fun z => Int.ofNat_lt.mp z
/-! ### the greatest divisor of n that is an exponent of v -/
def GPow (v n r e : Nat) : Prop := r ^ e = v ∧ e ∣ n ∧ ∀ m s : Nat, m ∣ n → s ^ m = v → m ∣ e
theorem GPow.one (n : Nat) : GPow 1 n 1 n := ⟨Nat.one_pow n, Nat.dvd_refl n, fun m _ h _ => h⟩
theorem GPow.pos {v n r e : Nat} (h : GPow v n r e) (hv : v ≠ 1) : 1 ≤ e := Nat.pos_of_ne_zero fun z => hv (by rw [← h.1, z, Nat.pow_zero])
def SqF (c : Nat) : Prop := ∀ p, IsPr p → ¬ p * p ∣ c
theorem SqF.of_dvd {c d : Nat} (h : SqF c) (hd : d ∣ c) : SqF d := fun p hp z => h p hp (Nat.dvd_trans z hd)
theorem pr_cop {p x : Nat} (hp : IsPr p) (h : ¬ p ∣ x) : Nat.gcd p x = 1 := by
  rcases hp.2 _ (Nat.gcd_dvd_left p x) with g | g
  · exact g
  · exact absurd (g ▸ Nat.gcd_dvd_right p x) h
theorem sqf_dvd : ∀ c : Nat, 1 ≤ c → SqF c → ∀ x : Nat, (∀ p, IsPr p → p ∣ c → p ∣ x) → c ∣ x := by
  intro c
  induction c using Nat.strongRecOn with
  | _ c ih =>
    intro hc hs x hx
    by_cases h1 : c = 1
    · rw [h1]
      exact Nat.one_dvd x
    · obtain ⟨p, hp, d, rfl⟩ := pr_dvd c (by omega)
      have p2 := hp.1
      have d1 : 1 ≤ d := Nat.pos_of_ne_zero fun z => by
        rw [z, Nat.mul_zero] at hc
        omega
      have np : ¬ p ∣ d := fun z => hs p hp (Nat.mul_dvd_mul_left p z)
      have lt : d < p * d := by
        have : 2 * d ≤ p * d := Nat.mul_le_mul_right d p2
        omega
      have hd := ih d lt d1 (hs.of_dvd (Nat.dvd_mul_left d p)) x fun q hq hqd => hx q hq (Nat.dvd_trans hqd (Nat.dvd_mul_left d p))
      exact Nat.Coprime.mul_dvd_of_dvd_of_dvd (pr_cop hp np) (hx p hp (Nat.dvd_mul_right p d)) hd
theorem val_eq {p u w i j : Nat} (hp : IsPr p) (hu : ¬ p ∣ u) (hw : ¬ p ∣ w) (h : p ^ i * u = p ^ j * w) : i = j := by
  have p0 : 0 < p := by
    have := hp.1
    omega
  have key : ∀ {i j u w : Nat}, ¬ p ∣ u → p ^ i * u = p ^ j * w → ¬ i < j := fun {i j u w} hu h z => by
    obtain ⟨k, rfl⟩ : ∃ k, j = i + (k + 1) := ⟨j - i - 1, by omega⟩
    rw [Nat.pow_add, Nat.mul_assoc] at h
    have := Nat.eq_of_mul_eq_mul_left (Nat.pow_pos p0) h
    exact hu (by rw [this, Nat.pow_succ, Nat.mul_comm (p ^ k) p, Nat.mul_assoc]; exact Nat.dvd_mul_right _ _)
  have a := key hu h
  have b := key hw h.symm
  omega
theorem val_of {p : Nat} (hp : IsPr p) : ∀ s : Nat, 1 ≤ s → ∃ a b, s = p ^ a * b ∧ ¬ p ∣ b := by
  intro s
  induction s using Nat.strongRecOn with
  | _ s ih =>
    intro hs
    by_cases h : p ∣ s
    · obtain ⟨t, rfl⟩ := h
      have p2 := hp.1
      have t1 : 1 ≤ t := Nat.pos_of_ne_zero fun z => by
        rw [z, Nat.mul_zero] at hs
        omega
      have lt : t < p * t := by
        have : 2 * t ≤ p * t := Nat.mul_le_mul_right t p2
        omega
      obtain ⟨a, b, e, n⟩ := ih t lt t1
      exact ⟨a + 1, b, by rw [Nat.pow_succ, Nat.mul_comm (p ^ a) p, Nat.mul_assoc, ← e], n⟩
    · exact ⟨0, s, by rw [Nat.pow_zero, Nat.one_mul], h⟩
/-- what is divided out: the exponents of the whole are those of both -/
theorem out_pow {c t x y m s : Nat} (hc : 2 ≤ c) (hs : SqF c) (ht : 1 ≤ t) (hy : ¬ c ∣ y) (hx : x = c ^ t * y) (h : s ^ m = x) : m ∣ t ∧ ∃ u, u ^ m = y := by
  have y1 : 1 ≤ y := Nat.pos_of_ne_zero fun z => hy (by rw [z]; exact Nat.dvd_zero c)
  obtain ⟨p, hp, hpc, hpy⟩ : ∃ p, IsPr p ∧ p ∣ c ∧ ¬ p ∣ y := by
    refine Classical.byContradiction fun z => hy (sqf_dvd c (by omega) hs y fun p hp hpc => ?_)
    exact Classical.byContradiction fun w => z ⟨p, hp, hpc, w⟩
  obtain ⟨d, rfl⟩ := hpc
  have np : ¬ p ∣ d := fun z => hs p hp (Nat.mul_dvd_mul_left p z)
  have x1 : 1 ≤ x := by
    rw [hx]
    exact Nat.mul_pos (Nat.pow_pos (by omega)) y1
  have m0 : m ≠ 0 := fun z => by
    rw [z, Nat.pow_zero] at h
    rw [← h] at hx
    have : p * d ∣ 1 := by
      rw [hx]
      exact Nat.dvd_trans (Nat.dvd_trans (by rw [Nat.pow_one]; exact Nat.dvd_refl _) (Nat.pow_dvd_pow (p * d) ht)) (Nat.dvd_mul_right _ _)
    have := Nat.le_of_dvd (by decide) this
    omega
  have s1 : 1 ≤ s := Nat.pos_of_ne_zero fun z => by
    rw [z, Nat.zero_pow (by omega)] at h
    omega
  obtain ⟨a, b, rfl, nb⟩ := val_of hp s s1
  have nb' : ¬ p ∣ b ^ m := fun z => nb (pr_pow hp z)
  have nu : ¬ p ∣ d ^ t * y := fun z => (pr_mul hp z).elim (fun z => np (pr_pow hp z)) hpy
  have e : p ^ t * (d ^ t * y) = p ^ (a * m) * b ^ m := by
    rw [Nat.pow_mul, ← Nat.mul_pow, h, hx, Nat.mul_pow, Nat.mul_assoc]
  have et := val_eq hp nu nb' e
  have dv : (p * d) ^ a ∣ p ^ a * b := by
    refine (Nat.pow_dvd_pow_iff m0).mp ?_
    rw [← Nat.pow_mul, ← et, h, hx]
    exact Nat.dvd_mul_right _ _
  obtain ⟨u, hu⟩ := dv
  refine ⟨⟨a, by rw [et, Nat.mul_comm]⟩, u, ?_⟩
  rw [hu, Nat.mul_pow, ← Nat.pow_mul, ← et, hx] at h
  exact Nat.eq_of_mul_eq_mul_left (Nat.pow_pos (by omega)) h
/-! ### small primes -/
def SMALL : List Nat := [2, 3, 5, 7, 11, 13, 17, 19, 23, 29, 31, 37, 41, 43, 47, 53, 59, 61, 67, 71, 73, 79, 83, 89, 97, 101, 103, 107, 109, 113, 127, 131, 137, 139, 149, 151, 157, 163, 167, 173, 179, 181, 191, 193, 197, 199, 211, 223, 227, 229, 233, 239, 241, 251]
def SML : Nat := SMALL.foldr (· * ·) 1
theorem small_pr : ∀ p ∈ SMALL, IsPr p := by
  have h : (SMALL.all fun p => decide (2 ≤ p) && (List.range p).all fun d => decide (d < 2) || p % d != 0) = true := by decide +kernel
  intro p hp
  have q := List.all_eq_true.mp h p hp
  rw [Bool.and_eq_true] at q
  exact pr_of (of_decide_eq_true q.1) q.2
theorem pr_foldr {p : Nat} (hp : IsPr p) : ∀ l : List Nat, p ∣ l.foldr (· * ·) 1 → ∃ q ∈ l, p ∣ q
  | [], h => by
    have := Nat.le_of_dvd (by decide) (show p ∣ 1 from h)
    have := hp.1
    omega
  | q :: l, h => by
    rcases pr_mul hp (show p ∣ q * l.foldr (· * ·) 1 from h) with z | z
    · exact ⟨q, List.mem_cons_self, z⟩
    · obtain ⟨r, hr, hd⟩ := pr_foldr hp l z
      exact ⟨r, List.mem_cons_of_mem _ hr, hd⟩
theorem sml_sqf : SqF SML := fun p hp z => by
  obtain ⟨q, hq, hd⟩ := pr_foldr hp SMALL (Nat.dvd_trans (Nat.dvd_mul_right p p) z)
  have e := pr_eq hp (small_pr q hq) hd
  subst e
  have h : (SMALL.all fun p => SML % (p * p) != 0) = true := by decide +kernel
  have := List.all_eq_true.mp h p hq
  rw [Nat.mod_eq_zero_of_dvd z] at this
  simp at this
theorem sml_great {v u : Nat} (hv : Nat.gcd v SML = 1) (hu : u ∣ v) (h1 : u ≠ 1) (h0 : 1 ≤ u) : 256 < u := by
  refine Nat.lt_of_not_le fun z => ?_
  have h : ((List.range 257).all fun u => decide (u < 2) || Nat.gcd u SML != 1) = true := by decide +kernel
  have q := List.all_eq_true.mp h u (List.mem_range.mpr (by omega))
  have g : Nat.gcd u SML = 1 := by
    have : Nat.gcd u SML ∣ Nat.gcd v SML := Nat.dvd_gcd (Nat.dvd_trans (Nat.gcd_dvd_left _ _) hu) (Nat.gcd_dvd_right _ _)
    rw [hv] at this
    exact Nat.dvd_one.mp this
  rw [g] at q
  simp at q
  omega
/-! ### tables of rests -/
def RTAB : List (Nat × Nat × List Nat) := [(2, 240, [1, 49, 121, 169]), (3, 819, [1, 8, 64, 118, 125, 181, 190, 307, 512, 629, 638, 694, 701, 755, 811, 818]), (5, 341, [1, 32, 56, 67, 87, 98, 243, 254, 274, 285, 309, 340]), (7, 43, [1, 6, 7, 36, 37, 42]), (11, 23, [1, 22]), (13, 53, [1, 23, 30, 52])]
def rrowOk (t : Nat × Nat × List Nat) : Bool := decide (2 ≤ t.1) && (decide (t.1 ≤ 13) && (decide (0 < t.2.1) && (decide (t.2.1 < 1000) && (((List.range t.1).all fun d => decide (d < 2) || t.1 % d != 0) && (List.range t.2.1).all fun r => (Nat.gcd (Nat.gcd r t.2.1) SML != 1) || t.2.2.contains (r ^ t.1 % t.2.1)))))
theorem rtab_ok : RTAB.all rrowOk = true := by decide +kernel
theorem rrow_ok {t : Nat × Nat × List Nat} (h : t ∈ RTAB) : IsPr t.1 ∧ t.1 ≤ 13 ∧ 0 < t.2.1 ∧ t.2.1 < 1000 ∧ ∀ r : Nat, r < t.2.1 → Nat.gcd (Nat.gcd r t.2.1) SML = 1 → t.2.2.contains (r ^ t.1 % t.2.1) = true := by
  have q := List.all_eq_true.mp rtab_ok t h
  unfold rrowOk at q
  rw [Bool.and_eq_true, Bool.and_eq_true, Bool.and_eq_true, Bool.and_eq_true, Bool.and_eq_true] at q
  obtain ⟨q1, q2, q3, q4, q5, q6⟩ := q
  refine ⟨pr_of (of_decide_eq_true q1) q5, of_decide_eq_true q2, of_decide_eq_true q3, of_decide_eq_true q4, fun r hr hg => ?_⟩
  have := List.all_eq_true.mp q6 r (List.mem_range.mpr hr)
  rw [hg] at this
  simpa using this
/-- a power of what no small prime divides leaves one of the rests -/
theorem rrest_in {t : Nat × Nat × List Nat} (h : t ∈ RTAB) {u : Nat} (hu : Nat.gcd u SML = 1) : (t.2.2.map Int.ofNat).contains (((u ^ t.1 : Nat) : Int) % (t.2.1 : Int)) = true := by
  obtain ⟨_, _, h3, _, h4⟩ := rrow_ok h
  have g : Nat.gcd (Nat.gcd (u % t.2.1) t.2.1) SML = 1 := by
    have e : Nat.gcd (u % t.2.1) t.2.1 = Nat.gcd u t.2.1 := by
      rw [Nat.gcd_comm u, ← Nat.gcd_rec t.2.1 u] <;> rfl
    rw [e]
    have : Nat.gcd (Nat.gcd u t.2.1) SML ∣ Nat.gcd u SML := Nat.dvd_gcd (Nat.dvd_trans (Nat.gcd_dvd_left _ _) (Nat.gcd_dvd_left _ _)) (Nat.gcd_dvd_right _ _)
    rw [hu] at this
    exact Nat.dvd_one.mp this
  have q := h4 (u % t.2.1) (Nat.mod_lt _ h3) g
  rw [← Nat.pow_mod] at q
  rw [← Int.natCast_emod]
  rw [List.contains_iff_mem] at q ⊢
  exact List.mem_map.mpr ⟨_, q, rfl⟩
theorem pow_cop {u q S : Nat} (hq : 1 ≤ q) (h : Nat.gcd (u ^ q) S = 1) : Nat.gcd u S = 1 := by
  have d : Nat.gcd u S ∣ Nat.gcd (u ^ q) S := Nat.dvd_gcd (Nat.dvd_trans (Nat.gcd_dvd_left _ _) (by
    have := Nat.pow_dvd_pow u hq
    rwa [Nat.pow_one] at this)) (Nat.gcd_dvd_right _ _)
  rw [h] at d
  exact Nat.dvd_one.mp d
/-- the end of the search: no prime of n is an exponent of what is left -/
theorem rough_end {v x n e k : Nat} (hv : x ^ e = v) (he : 1 ≤ e) (x1 : x ≠ 1) (hk : k = n * e) (no : ∀ q, IsPr q → q ∣ n → ∀ u, u ^ q ≠ x) : GPow v k x e := by
  refine ⟨hv, by rw [hk]; exact Nat.dvd_mul_left e n, fun m s hm hs => ?_⟩
  obtain ⟨g, hg⟩ : ∃ g, Nat.gcd m e = g := ⟨_, rfl⟩
  have g0 : 0 < g := by rw [← hg]; exact Nat.gcd_pos_of_pos_right _ he
  obtain ⟨p, hp⟩ : g ∣ e := by rw [← hg]; exact Nat.gcd_dvd_right _ _
  obtain ⟨q, hq⟩ : g ∣ m := by rw [← hg]; exact Nat.gcd_dvd_left _ _
  have cop : Nat.gcd q p = 1 := by
    have z : Nat.gcd (g * q) (g * p) = g * Nat.gcd q p := Nat.gcd_mul_left g q p
    rw [← hp, ← hq, hg] at z
    exact Nat.eq_of_mul_eq_mul_left g0 (by rw [Nat.mul_one, ← z])
  have e1 : x ^ p = s ^ q := by
    refine root_eq (n := g) g0 ?_
    rw [← Nat.pow_mul, ← Nat.pow_mul, Nat.mul_comm p, Nat.mul_comm q, ← hp, ← hq, hv, hs]
  have p1 : 1 ≤ p := Nat.pos_of_ne_zero fun z => by rw [z, Nat.mul_zero] at hp; omega
  have qn : q ∣ n := by
    have : g * q ∣ g * (n * p) := by
      rw [← hq, Nat.mul_left_comm, ← hp, ← hk]
      exact hm
    exact Nat.Coprime.dvd_of_dvd_mul_right cop ((Nat.mul_dvd_mul_iff_left g0).mp this)
  by_cases q1 : q = 1
  · rw [hq, q1, Nat.mul_one, hp]
    exact Nat.dvd_mul_right g p
  · exfalso
    by_cases q0 : q = 0
    · rw [q0, Nat.pow_zero] at e1
      have : x = 1 := root_eq p1 (by rw [e1, Nat.one_pow])
      exact x1 this
    · obtain ⟨r, hr, hd⟩ := pr_dvd q (by omega)
      obtain ⟨f, rfl⟩ := hd
      have x0 : 1 ≤ x := Nat.pos_of_ne_zero fun z => by
        rw [z, Nat.zero_pow p1] at e1
        have hs0 : s = 0 := Nat.eq_zero_of_not_pos fun y => by
          have := Nat.pow_pos (n := r * f) y
          omega
        have hm0 : 1 ≤ m := by
          rw [hq]
          exact Nat.mul_pos g0 (by omega)
        have := hr.1
        -- p and q without a common divisor: x is a power anyway
        exact no r hr (Nat.dvd_trans (Nat.dvd_mul_right r f) qn) 0 (by rw [z, Nat.zero_pow (by omega)])
      have s0 : 1 ≤ s := Nat.pos_of_ne_zero fun z => by
        rw [z, Nat.zero_pow (by omega)] at e1
        have := Nat.pow_pos (n := p) x0
        omega
      obtain ⟨t, ht, _⟩ := common_root (p + r * f) p (r * f) x s (Nat.le_refl _) p1 (by omega) (by rw [Nat.gcd_comm]; exact cop) x0 s0 e1
      exact no r hr (Nat.dvd_trans (Nat.dvd_mul_right r f) qn) (t ^ f) (by rw [← Nat.pow_mul, Nat.mul_comm f, ← ht])
/-- a power below 2 ** w with an exponent from w on is 1 -/
theorem pow_one {t n w c : Nat} (hc : 1 ≤ c) (hw : c < 2 ^ w) (hn : w ≤ n) (h : c = t ^ n) : c = 1 := by
  have t2 : t < 2 := Nat.lt_of_not_le fun z => by
    have q1 := Nat.pow_le_pow_left z n
    have q2 : (2 : Nat) ^ w ≤ 2 ^ n := Nat.pow_le_pow_right (by decide) hn
    omega
  have tl : t = 0 ∨ t = 1 := by omega
  rcases tl with e | e
  · subst e
    cases n with
    | zero => exact h
    | succ n =>
      rw [Nat.zero_pow (Nat.succ_pos n)] at h
      omega
  · rw [e, Nat.one_pow] at h
    exact h
theorem pow_ge {x e : Nat} (he : 1 ≤ e) : x ≤ x ^ e := by
  cases Nat.eq_zero_or_pos x with
  | inl z => rw [z]; exact Nat.zero_le _
  | inr z => exact Nat.le_trans (Nat.le_of_eq (Nat.pow_one x).symm) (Nat.pow_le_pow_right z he)
theorem set_last (μ : Sto) (o u : O) : (μ ++ [o]).set μ.length u = μ ++ [u] := by
  rw [List.set_append_right _ _ (Nat.le_refl _), Nat.sub_self]
  rfl
theorem few_of {n v k : Nat} (h : 2 ^ k * v ≤ n) (hv : 1 ≤ v) (hn : n < 2 ^ 60) : k < 60 := by
  refine Nat.lt_of_not_le fun z => ?_
  have h1 : (2 : Nat) ^ 60 ≤ 2 ^ k := Nat.pow_le_pow_right (by decide) z
  have h2 : 2 ^ k * 1 ≤ 2 ^ k * v := Nat.mul_le_mul_left _ hv
  omega
theorem few_step {n v u q k : Nat} (h : 2 ^ k * v ≤ n) (hq : 2 ≤ q) (e : q * u ≤ v) : 2 ^ (k + 1) * u ≤ n := by
  have h1 : 2 * u ≤ v := Nat.le_trans (Nat.mul_le_mul_right u hq) e
  have h2 := Nat.mul_le_mul_left (2 ^ k) h1
  rw [Nat.pow_succ, Nat.mul_assoc]
  omega
theorem dvd_int {v q : Nat} : (v : Int) % (q : Int) = 0 ↔ q ∣ v := by
  rw [← Int.natCast_emod]
  exact ⟨fun h => Nat.dvd_of_mod_eq_zero (by omega), fun h => by rw [Nat.mod_eq_zero_of_dvd h] <;> rfl⟩
theorem s136 : (1000000000000000000000000000000 : Nat) < 2 ^ 136 := by decide +kernel
theorem lt_big {v a b : Nat} (h : v < 2 ^ a) (hab : a ≤ b) : v < 2 ^ b := Nat.lt_of_lt_of_le h (Nat.pow_le_pow_right (by decide) hab)
theorem divOk60 {q : Nat} (h : 1 ≤ q) (h2 : q < 2 ^ 130) : DivOk (q : Int) := divOk (by omega) (by
  have e : ((2 ^ 8000 : Nat) : Int) = (2 : Int) ^ 8000 := by rw [Int.natCast_pow] <;> rfl
  have l : (2 : Nat) ^ 130 < 2 ^ 8000 := Nat.pow_lt_pow_right (by decide) (by decide)
  omega)
theorem divOkN {n a : Nat} (h1 : 1 ≤ n) (h : n < 2 ^ a) (ha : a ≤ 8000) : DivOk (n : Int) := divOk (by omega) (by
  have e : ((2 ^ 8000 : Nat) : Int) = (2 : Int) ^ 8000 := by rw [Int.natCast_pow] <;> rfl
  rw [← e]
  exact Int.ofNat_lt.mpr (lt_big h ha))
/-! ### kinds -/
def GoodPrimes (l : List Nat) : Prop := l.Pairwise (· < ·) ∧ (∀ p ∈ l, IsPr p ∧ p ≤ 997) ∧ l.length ≤ 200
def primsOk (sg : Int) (f : Bool) : Option (List Nat) → Prop
  | none => f = false
  | some l => GoodPrimes l ∧ (sg = -1 → 2 ∉ l)
def IsKind (sg : Int) (ps : Option (List Nat)) (f : Bool) : Prop := (sg = 1 ∨ sg = -1) ∧ (sg = 1 → f = false) ∧ primsOk sg f ps
/-- there is an odd prime that divides n -/
def OddPr (n : Nat) : Prop := ∃ p, IsPr p ∧ p ∣ n ∧ 2 < p
def SplK (sg : Int) (ps : Option (List Nat)) (f : Bool) (n : Nat) : Prop := match ps with
  | none => (sg = 1 ∧ 1 < n) ∨ (sg = -1 ∧ OddPr n)
  | some l => (f = true ∧ n % 4 = 0) ∨ ∃ p, p ∈ l ∧ p ∣ n
def SaysB (b : Bool) (Q : Prop) : Prop := b = true ↔ Q
def KindOfN (a b : Int) (sg : Int) (ps : Option (List Nat)) (f : Bool) : Prop := sg = (if 0 < a then 1 else -1) ∧ match ps with
  | none => a.natAbs = b.natAbs ∧ f = false
  | some l => a.natAbs ≠ b.natAbs ∧ (f = true ↔ Four a b) ∧ ∃ x y e L, BaseIs a.natAbs b.natAbs x y e ∧ PrimesIs e L ∧ l = if 0 < a then L else L.filter fun p => decide (2 < p)
/-! ### kinds, shown -/
theorem KindOfN.eq {a b sg sg' : Int} {ps ps' : Option (List Nat)} {f f' : Bool} (h : KindOfN a b sg ps f) (g : KindOfN a b sg' ps' f') : sg = sg' ∧ ps = ps' ∧ f = f' := by
  obtain ⟨h1, h2⟩ := h
  obtain ⟨g1, g2⟩ := g
  refine ⟨h1.trans g1.symm, ?_⟩
  cases ps with
  | none =>
    cases ps' with
    | none => exact ⟨rfl, h2.2.trans g2.2.symm⟩
    | some l' => exact absurd h2.1 g2.1
  | some l =>
    cases ps' with
    | none => exact absurd g2.1 h2.1
    | some l' =>
      obtain ⟨_, f1, x, y, e, L, b1, p1, e1⟩ := h2
      obtain ⟨_, f2, x', y', e', L', b2, p2, e2⟩ := g2
      obtain ⟨_, _, ee⟩ := b1.same b2
      subst ee
      have eL := p1.eq p2
      subst eL
      exact ⟨by rw [e1, e2], by rw [Bool.eq_iff_iff, f1, f2]⟩
theorem SaysB.eq {a b : Bool} {Q : Prop} (h : SaysB a Q) (g : SaysB b Q) : a = b := by
  unfold SaysB at h g
  rw [Bool.eq_iff_iff, h, g]
local macro_rules | `(tactic| walk_at "hd") => `(tactic| (simp only [wShlW, wShr, wSeq, wAsg, wPar, wPar3, wIfS, wRet, wRetN, wNext, wDrop, wOp, wVar, HD.wC, wCons, wNil, wTup, wLst, wIf, wNeg, wB, wAnd, wOr, HD.wNot, wAndV, wOrV, wNotV, wTruth, wBits, wChain, wCall, wCallK, wCallD, catD, wCB, wgName, wgTup, wgCons, wgEnd, wgSub, wSetL, wI, wI0, wAdd, wSub, wMul, wDiv, wMod, wPow, wShl, wLt, wLe, wGt, wGe, wEq, wNe, wIsN, wNotN, HD.isNon, wInI, wNotInI, wIsqrt, wBand, wTupOf, wBrk, wCnt, wIx, wAbs, wMax, wMin, wGcd, wInt, wStrI, wDivmod, wLen, lenOf, wIsi, tyOf, wIsi2, tyOf2, HD.ints1, HD.ints2, HD.ints3, wPart, wNoPart, wSlL, slot, put, startD, List.replicate, List.length_cons, List.length_nil, Nat.reduceAdd, Nat.zero_add, Option.map_some, and_true, true_and, at0, at1, at2, ix30, ix31, ix32, List.set_cons_zero, List.set_cons_succ]))
/-! ### when an equation splits -/
/-- p, a prime of n, is an exponent of a / b -/
def ExpOf (a b : Int) (n p : Nat) : Prop := IsPr p ∧ p ∣ n ∧ (0 < a ∨ 2 < p) ∧ ∃ x y e, BaseIs a.natAbs b.natAbs x y e ∧ p ∣ e
def SplN (a b : Int) (n : Nat) : Prop := (∃ p, ExpOf a b n p) ∨ (n % 4 = 0 ∧ Four a b)
def LeastExp (a b : Int) (n p : Nat) : Prop := ExpOf a b n p ∧ ∀ q, ExpOf a b n q → p ≤ q
theorem LeastExp.same {a b : Int} {n p q : Nat} (h : LeastExp a b n p) (g : LeastExp a b n q) : p = q := Nat.le_antisymm (h.2 q g.1) (g.2 p h.1)
def sgD (a : Int) (r : Nat) : Int := if 0 < a then (r : Int) else -(r : Int)
/-- what why tells -/
inductive Reason (a b : Int) (n : Nat) : D → Prop
  | power {p r s : Nat} : LeastExp a b n p → r ^ p = a.natAbs → s ^ p = b.natAbs → Reason a b n (.tup [.str "power", .int (p : Int), .tup [.int (sgD a r), .int (s : Int)]])
  | four {r s : Nat} : (∀ p, ¬ ExpOf a b n p) → n % 4 = 0 → a < 0 → r ^ 4 = fourTop a b → s ^ 4 = fourBot a b → Reason a b n (.tup [.str "four", .tup [.int (r : Int), .int (s : Int)]])
  | none : ¬ SplN a b n → Reason a b n .non
theorem Reason.same {a b : Int} {n : Nat} {d d' : D} (h : Reason a b n d) (g : Reason a b n d') : d = d' := by
  cases h with
  | @power p r s h1 h2 h3 =>
    cases g with
    | @power p' r' s' g1 g2 g3 =>
      have e := h1.same g1
      subst e
      have p1 : 1 ≤ p := by
        have := h1.1.1.1
        omega
      rw [root_eq p1 (h2.trans g2.symm), root_eq p1 (h3.trans g3.symm)]
    | four g1 _ _ _ _ => exact absurd h1.1 (g1 p)
    | none g1 => exact absurd (.inl ⟨p, h1.1⟩) g1
  | @four r s h1 h2 h3 h4 h5 =>
    cases g with
    | @power p' r' s' g1 g2 g3 => exact absurd g1.1 (h1 p')
    | @four r' s' g1 g2 g3 g4 g5 => rw [root_eq (n := 4) (by decide) (h4.trans g4.symm), root_eq (n := 4) (by decide) (h5.trans g5.symm)]
    | none g1 => exact absurd (.inr ⟨h2, h3, r, s, h4, h5⟩) g1
  | none h1 =>
    cases g with
    | @power p' r' s' g1 g2 g3 => exact absurd (.inl ⟨p', g1.1⟩) h1
    | @four r' s' g1 g2 g3 g4 g5 => exact absurd (.inr ⟨g2, g3, r', s', g4, g5⟩) h1
    | none g1 => rfl
/-! ### roots in the store -/
def rootO (C : Addr) (n a b : Nat) : O := .ins C [("_degree", .int (n : Int)), ("_number", .tup [.int (a : Int), .int (b : Int)])]
structure LeastForm (n a b : Nat) : Prop where
  n1 : 1 ≤ n
  n60 : n ≤ 60
  a1 : 1 ≤ a
  b1 : 1 ≤ b
  a30 : a ≤ 1000000000000000000000000000000
  b30 : b ≤ 1000000000000000000000000000000
  cop : Nat.gcd a b = 1
  least : ∀ m x y : Nat, m ∣ n → x ^ m = a → y ^ m = b → m = 1
theorem insAt_root {C : Addr} {μ : Sto} {k n a b : Nat} (h : cell μ k = some (rootO C n a b)) : insAt C μ (.ref k) := by
  show match cell μ k with | some (.ins C' _) => C' = C | _ => False
  rw [h]
  rfl
theorem insOk_root {C : Addr} {μ : Sto} {k n a b : Nat} {m : Str} (h : cell μ k = some (rootO C n a b)) (hm : List.lookup m [(("_degree" : Str), D.int (n : Int)), ("_number", .tup [.int (a : Int), .int (b : Int)])] = none) : insOk C m μ (.ref k) := by
  show match cell μ k with | some (.ins C' fs) => C' = C ∧ fs.lookup m = none | _ => False
  rw [h]
  exact ⟨rfl, hm⟩
theorem fld_deg {C : Addr} {R : XD} {δ : En} {μ : Sto} {P : D → Sto → Prop} {i k n a b : Nat} (hs : slot δ i = some (.ref k)) (h : cell μ k = some (rootO C n a b)) (hp : P (.int (n : Int)) μ) : wFld C "_degree" (wVar i) R δ μ P := by
  unfold wFld wVar
  rw [hs]
  show match cell μ k with | some (.ins C' fs) => C' = C ∧ (match fs.lookup ("_degree" : Str) with | some v => P v μ | none => False) | _ => False
  rw [h]
  exact ⟨rfl, hp⟩
theorem fld_num {C : Addr} {R : XD} {δ : En} {μ : Sto} {P : D → Sto → Prop} {i k n a b : Nat} (hs : slot δ i = some (.ref k)) (h : cell μ k = some (rootO C n a b)) (hp : P (.tup [.int (a : Int), .int (b : Int)]) μ) : wFld C "_number" (wVar i) R δ μ P := by
  unfold wFld wVar
  rw [hs]
  show match cell μ k with | some (.ins C' fs) => C' = C ∧ (match fs.lookup ("_number" : Str) with | some v => P v μ | none => False) | _ => False
  rw [h]
  exact ⟨rfl, hp⟩
/-- a drawn root in the store: the exponents of 2, 3, 5, 7, and the degree -/
def Rooted (μ : Sto) (lo b r : Nat) (es : List Int) (d : Nat) : Prop := ∃ i, lo ≤ r ∧ lo ≤ i ∧ lstAt μ r = some [.ref i, .int (d : Int)] ∧ lstAt μ i = some (es.map .int) ∧ es.length = 4 ∧ (∀ e, e ∈ es → e.natAbs ≤ b) ∧ 1 ≤ d ∧ d ≤ 60
theorem Rooted.grow {μ μ' : Sto} {j lo b r : Nat} {es : List Int} {d : Nat} (h : Rooted μ lo b r es d) (hj : j < lo) (g : Grow j μ μ') : Rooted μ' lo b r es d := by
  obtain ⟨i, h1, h2, h3, h4, h5⟩ := h
  exact ⟨i, h1, h2, g.lst (by omega) h3, g.lst (by omega) h4, h5⟩
theorem Rooted.ext {μ μ' : Sto} {lo b r : Nat} {es : List Int} {d : Nat} (h : Rooted μ lo b r es d) (g : Ext μ μ') : Rooted μ' lo b r es d := by
  obtain ⟨i, h1, h2, h3, h4, h5⟩ := h
  exact ⟨i, h1, h2, g.lst h3, g.lst h4, h5⟩
theorem Rooted.mono {μ : Sto} {lo b c r : Nat} {es : List Int} {d : Nat} (h : Rooted μ lo b r es d) (hb : b ≤ c) : Rooted μ lo c r es d := by
  obtain ⟨i, h1, h2, h3, h4, h5, h6, h7⟩ := h
  exact ⟨i, h1, h2, h3, h4, h5, fun e he => Nat.le_trans (h6 e he) hb, h7⟩
theorem Rooted.low {μ : Sto} {lo lo2 b r : Nat} {es : List Int} {d : Nat} (h : Rooted μ lo b r es d) (hb : lo2 ≤ lo) : Rooted μ lo2 b r es d := by
  obtain ⟨i, h1, h2, h3⟩ := h
  exact ⟨i, by omega, by omega, h3⟩
theorem Rooted.set {μ : Sto} {lo b r : Nat} {es : List Int} {d k : Nat} {o : O} (h : Rooted μ lo b r es d) (hk : k < lo) : Rooted (μ.set k o) lo b r es d := by
  obtain ⟨i, h1, h2, h3, h4, h5⟩ := h
  refine ⟨i, h1, h2, lstAt_of ?_, lstAt_of ?_, h5⟩
  · rw [cell_set_ne (by omega)]
    exact lstAt_cell h3
  · rw [cell_set_ne (by omega)]
    exact lstAt_cell h4
/-- the product of the first primes with these exponents -/
def tp (es : List Int) : Nat → Nat
  | 0 => 1
  | i + 1 => tp es i * ([2, 3, 5, 7].getD i 1) ^ ((es.getD i 0).toNat)
def tpA (es : List Int) : Nat := tp es 4
def tpB (es : List Int) : Nat := tp (es.map fun e => -e) 4
theorem prime_few (i : Nat) : 1 ≤ [2, 3, 5, 7].getD i 1 ∧ [2, 3, 5, 7].getD i 1 ≤ 7 := by
  match i with
  | 0 => exact ⟨by decide, by decide⟩
  | 1 => exact ⟨by decide, by decide⟩
  | 2 => exact ⟨by decide, by decide⟩
  | 3 => exact ⟨by decide, by decide⟩
  | i + 4 => exact ⟨Nat.le_refl 1, by show 1 ≤ 7; decide⟩
theorem tp_pos (es : List Int) : ∀ i, 1 ≤ tp es i
  | 0 => Nat.le_refl 1
  | i + 1 => Nat.mul_pos (tp_pos es i) (Nat.pow_pos (prime_few i).1)
theorem getD_few {es : List Int} {b : Nat} (h : ∀ e, e ∈ es → e.natAbs ≤ b) (i : Nat) : (es.getD i 0).toNat ≤ b := by
  rw [List.getD_eq_getElem?_getD]
  cases c : es[i]? with
  | none => exact Nat.zero_le b
  | some e =>
    have := h e (List.mem_of_getElem? c)
    show e.toNat ≤ b
    omega
theorem tp_mono {es : List Int} : ∀ {i k : Nat}, i ≤ k → tp es i ≤ tp es k := fun {i k} h => by
  induction k with
  | zero =>
    have : i = 0 := by omega
    rw [this]
    exact Nat.le_refl _
  | succ k ih =>
    by_cases e : i = k + 1
    · rw [e]
      exact Nat.le_refl _
    · exact Nat.le_trans (ih (by omega)) (Nat.le_mul_of_pos_right _ (Nat.pow_pos (prime_few k).1))
theorem tp_size {es : List Int} (h : ∀ e, e ∈ es → e.natAbs ≤ 12) : tp es 4 ≤ 1000000000000000000000000000000 := by
  have q : ∀ i, [2, 3, 5, 7].getD i 1 ^ ((es.getD i 0).toNat) ≤ [2, 3, 5, 7].getD i 1 ^ 12 := fun i => Nat.pow_le_pow_right (prime_few i).1 (getD_few h i)
  have e : tp es 4 ≤ 1 * [2, 3, 5, 7].getD 0 1 ^ 12 * [2, 3, 5, 7].getD 1 1 ^ 12 * [2, 3, 5, 7].getD 2 1 ^ 12 * [2, 3, 5, 7].getD 3 1 ^ 12 :=
    Nat.mul_le_mul (Nat.mul_le_mul (Nat.mul_le_mul (Nat.mul_le_mul (Nat.le_refl _) (q 0)) (q 1)) (q 2)) (q 3)
  exact Nat.le_trans e (by decide +kernel)
theorem neg_few {es : List Int} {b : Nat} (h : ∀ e, e ∈ es → e.natAbs ≤ b) : ∀ e, e ∈ es.map (fun e => -e) → e.natAbs ≤ b := fun e he => by
  obtain ⟨x, hx, rfl⟩ := List.mem_map.mp he
  rw [Int.natAbs_neg]
  exact h x hx
theorem cop_one {p : Nat} (e : Int) : Nat.Coprime (p ^ e.toNat) (p ^ (-e).toNat) := by
  by_cases h : 0 ≤ e
  · rw [show (-e).toNat = 0 by omega, Nat.pow_zero]
    exact Nat.coprime_one_right _
  · rw [show e.toNat = 0 by omega, Nat.pow_zero]
    exact Nat.coprime_one_left _
theorem tp_cop {es : List Int} (h : es.length = 4) : Nat.gcd (tpA es) (tpB es) = 1 := by
  match es, h with
  | [a, b, c, d], _ =>
    show Nat.Coprime (1 * 2 ^ a.toNat * 3 ^ b.toNat * 5 ^ c.toNat * 7 ^ d.toNat) (1 * 2 ^ (-a).toNat * 3 ^ (-b).toNat * 5 ^ (-c).toNat * 7 ^ (-d).toNat)
    rw [Nat.one_mul, Nat.one_mul]
    have two : ∀ p q n m, Nat.gcd p q = 1 → Nat.Coprime (p ^ n) (q ^ m) := fun p q n m h => Nat.Coprime.pow n m h
    refine Nat.Coprime.mul_left (Nat.Coprime.mul_left (Nat.Coprime.mul_left ?_ ?_) ?_) ?_ <;> refine Nat.Coprime.mul_right (Nat.Coprime.mul_right (Nat.Coprime.mul_right ?_ ?_) ?_) ?_
    all_goals first
      | exact cop_one _
      | exact two _ _ _ _ (by decide)
/-- a root in the store that is the d-th root of A / B -/
def RootAt (C : Addr) (μ : Sto) (k d A B : Nat) : Prop := ∃ n a b e, cell μ k = some (rootO C n a b) ∧ LeastForm n a b ∧ 1 ≤ e ∧ a ^ e = A ∧ b ^ e = B ∧ d = n * e
theorem RootAt.ext {C : Addr} {μ μ' : Sto} {k d A B : Nat} (h : RootAt C μ k d A B) (g : Ext μ μ') : RootAt C μ' k d A B := by
  obtain ⟨n, a, b, e, h1, h2⟩ := h
  exact ⟨n, a, b, e, g.2 _ _ h1, h2⟩
theorem RootAt.set {C : Addr} {μ : Sto} {k d A B i : Nat} {acc : List D} {o : O} (h : RootAt C μ k d A B) (hi : cell μ i = some (.lst acc)) : RootAt C (μ.set i o) k d A B := by
  obtain ⟨n, a, b, e, h1, h2⟩ := h
  refine ⟨n, a, b, e, ?_, h2⟩
  rw [cell_set_ne fun z => ?_]
  · exact h1
  · subst z
    rw [h1] at hi
    cases hi
theorem RootAt.ok {C : Addr} {μ : Sto} {k d A B : Nat} {m : Str} (h : RootAt C μ k d A B) (hm : ∀ n a b : Nat, List.lookup m [(("_degree" : Str), D.int (n : Int)), ("_number", .tup [.int (a : Int), .int (b : Int)])] = none) : insOk C m μ (.ref k) := by
  obtain ⟨n, a, b, e, c1, _⟩ := h
  exact insOk_root c1 (hm n a b)
/-! ### shared bases -/
/-- products of these -/
inductive Gen (l : List Nat) : Nat → Prop
  | one : Gen l 1
  | mul {x v : Nat} : x ∈ l → Gen l v → Gen l (x * v)
theorem Gen.mem {l : List Nat} {x : Nat} (h : x ∈ l) : Gen l x := by
  have := Gen.mul h .one
  rwa [Nat.mul_one] at this
theorem Gen.app {l : List Nat} {a b : Nat} (h : Gen l a) (g : Gen l b) : Gen l (a * b) := by
  induction h with
  | one => rwa [Nat.one_mul]
  | mul hx _ ih => rw [Nat.mul_assoc]; exact .mul hx ih
theorem Gen.pow {l : List Nat} {a : Nat} (h : Gen l a) : ∀ n, Gen l (a ^ n)
  | 0 => .one
  | n + 1 => by
    rw [Nat.pow_succ]
    exact (h.pow n).app h
theorem Gen.sub {l l' : List Nat} {a : Nat} (h : Gen l a) (k : ∀ x, x ∈ l → Gen l' x) : Gen l' a := by
  induction h with
  | one => exact .one
  | mul hx _ ih => exact (k _ hx).app ih
/-- no power -/
def NoPow (c : Nat) : Prop := 2 ≤ c ∧ ∀ m x : Nat, x ^ m = c → m = 1
abbrev Cop (l : List Nat) : Prop := l.Pairwise Nat.Coprime
theorem Cop.ne {l : List Nat} (h : Cop l) {c d : Nat} (hc : c ∈ l) (hd : d ∈ l) (n : c ≠ d) : Nat.Coprime c d := by
  induction l with
  | nil => cases hc
  | cons x l ih =>
    obtain ⟨h1, h2⟩ := List.pairwise_cons.mp h
    rcases List.mem_cons.mp hc with e1 | hc'
    · rcases List.mem_cons.mp hd with e2 | hd'
      · exact absurd (e1.trans e2.symm) n
      · rw [e1]; exact h1 _ hd'
    · rcases List.mem_cons.mp hd with e2 | hd'
      · rw [e2]; exact (h1 _ hc').symm
      · exact ih h2 hc' hd'
theorem noPow_dvd {c y m e : Nat} (hc : NoPow c) (hm : 1 ≤ m) (h : y ^ m = c ^ e) : m ∣ e := by
  obtain ⟨c2, hn⟩ := hc
  by_cases e0 : e = 0
  · subst e0
    exact Nat.dvd_zero m
  obtain ⟨g, hg⟩ : ∃ g, Nat.gcd m e = g := ⟨_, rfl⟩
  have g1 : 1 ≤ g := by rw [← hg]; exact Nat.gcd_pos_of_pos_left _ hm
  obtain ⟨m', em⟩ : g ∣ m := by rw [← hg]; exact Nat.gcd_dvd_left _ _
  obtain ⟨e', ee⟩ : g ∣ e := by rw [← hg]; exact Nat.gcd_dvd_right _ _
  have co : Nat.gcd m' e' = 1 := by
    rw [em, ee, Nat.gcd_mul_left] at hg
    exact Nat.eq_of_mul_eq_mul_left g1 (by omega)
  have m1 : 1 ≤ m' := Nat.pos_of_ne_zero fun z => by rw [z] at em; omega
  have e1 : 1 ≤ e' := Nat.pos_of_ne_zero fun z => by rw [z] at ee; omega
  have q : y ^ m' = c ^ e' := root_eq g1 (by rw [← Nat.pow_mul, ← Nat.pow_mul, Nat.mul_comm m', Nat.mul_comm e', ← em, ← ee, h])
  have y1 : 1 ≤ y := Nat.pos_of_ne_zero fun z => by
    rw [z, Nat.zero_pow m1] at q
    have := Nat.pow_pos (n := e') (by omega : 0 < c)
    omega
  obtain ⟨t, _, hc⟩ := common_root (m' + e') m' e' y c (Nat.le_refl _) m1 e1 co y1 (by omega) q
  have := hn m' t hc.symm
  exact ⟨e', by rw [ee, em, this, Nat.mul_one]⟩
def prodN (l : List Nat) : Nat := l.foldr (fun x a => x * a) 1
theorem prodN_app (l k : List Nat) : prodN (l ++ k) = prodN l * prodN k := by
  induction l with
  | nil => exact (Nat.one_mul _).symm
  | cons x l ih =>
    show x * prodN (l ++ k) = x * prodN l * prodN k
    rw [ih, Nat.mul_assoc]
theorem prodN_one (x : Nat) : prodN [x] = x := Nat.mul_one x
theorem prodN_two {l : List Nat} (h : ∀ x, x ∈ l → 2 ≤ x) : 2 ^ l.length ≤ prodN l := by
  induction l with
  | nil => exact Nat.le_refl 1
  | cons x l ih =>
    have := ih fun y hy => h y (List.mem_cons_of_mem _ hy)
    show 2 ^ (l.length + 1) ≤ x * prodN l
    rw [Nat.pow_succ, Nat.mul_comm]
    exact Nat.mul_le_mul (h x (List.mem_cons_self ..)) this
theorem prodN_erase : ∀ {l : List Nat} {k x : Nat}, l[k]? = some x → prodN l = x * prodN (l.eraseIdx k)
  | [], k, x, h => by cases h
  | y :: l, 0, x, h => by
    cases h
    rfl
  | y :: l, k + 1, x, h => by
    have := prodN_erase (l := l) (k := k) (x := x) h
    show y * prodN l = x * (y * prodN (l.eraseIdx k))
    rw [this, Nat.mul_left_comm]
theorem prodN_filter {l : List Nat} (h : ∀ x, x ∈ l → 1 ≤ x) : prodN (l.filter fun x => decide (1 < x)) = prodN l := by
  induction l with
  | nil => rfl
  | cons x l ih =>
    have i := ih fun y hy => h y (List.mem_cons_of_mem _ hy)
    have := h x (List.mem_cons_self ..)
    by_cases c : 1 < x
    · rw [List.filter_cons_of_pos (by simpa using c)]
      exact congrArg (x * ·) i
    · rw [List.filter_cons_of_neg (by simpa using c)]
      have : x = 1 := by omega
      rw [i, this]
      exact (Nat.one_mul _).symm
/-- what is found and what waits -/
structure SB (vs : List Nat) (P : Nat) (F W : List Nat) : Prop where
  f2 : ∀ x, x ∈ F → 2 ≤ x ∧ x ≤ 1000000000000000000000000000000
  w2 : ∀ x, x ∈ W → 2 ≤ x ∧ x ≤ 1000000000000000000000000000000
  cop : Cop F
  gen : ∀ v, v ∈ vs → Gen (F ++ W) v
  prod : prodN F * prodN W ≤ P
def sbM (F W : List Nat) : Nat := (prodN F * prodN W) * (prodN F * prodN W) + W.length
theorem prodN_pos {l : List Nat} (h : ∀ x, x ∈ l → 2 ≤ x) : 1 ≤ prodN l := Nat.le_trans (Nat.pow_pos (by decide)) (prodN_two h)
theorem SB.few {vs F W : List Nat} {P : Nat} (h : SB vs P F W) (hP : P < 2 ^ 1000) : F.length < 1000 ∧ W.length < 1000 := by
  have a := prodN_two fun x hx => (h.f2 x hx).1
  have b := prodN_two fun x hx => (h.w2 x hx).1
  have a1 := prodN_pos fun x hx => (h.f2 x hx).1
  have b1 := prodN_pos fun x hx => (h.w2 x hx).1
  have c := h.prod
  have d1 : prodN F ≤ prodN F * prodN W := Nat.le_mul_of_pos_right _ b1
  have d2 : prodN W ≤ prodN F * prodN W := Nat.le_mul_of_pos_left _ a1
  refine ⟨(Nat.pow_lt_pow_iff_right (a := 2) (by decide)).mp ?_, (Nat.pow_lt_pow_iff_right (a := 2) (by decide)).mp ?_⟩
  · exact Nat.lt_of_le_of_lt (Nat.le_trans a (Nat.le_trans d1 c)) hP
  · exact Nat.lt_of_le_of_lt (Nat.le_trans b (Nat.le_trans d2 c)) hP
theorem SB.found {vs F W : List Nat} {P v : Nat} (h : SB vs P F (W ++ [v])) (hn : ∀ x, x ∈ F → Nat.gcd x v ≤ 1) : SB vs P (F ++ [v]) W ∧ sbM (F ++ [v]) W < sbM F (W ++ [v]) := by
  have hv := h.w2 v (List.mem_append_right _ (List.mem_singleton.mpr rfl))
  have e : prodN (F ++ [v]) * prodN W = prodN F * prodN (W ++ [v]) := by
    rw [prodN_app, prodN_app, prodN_one, Nat.mul_assoc, Nat.mul_comm v]
  refine ⟨⟨fun x hx => ?_, fun x hx => h.w2 x (List.mem_append_left _ hx), ?_, fun w hw => (h.gen w hw).sub fun x hx => .mem ?_, ?_⟩, ?_⟩
  · rcases List.mem_append.mp hx with hx | hx
    · exact h.f2 x hx
    · rw [List.mem_singleton.mp hx]
      exact hv
  · refine List.pairwise_append.mpr ⟨h.cop, List.pairwise_singleton _ _, fun x hx y hy => ?_⟩
    rw [List.mem_singleton.mp hy]
    have g1 := hn x hx
    have g0 := Nat.gcd_pos_of_pos_right x (show 0 < v by omega)
    show Nat.gcd x v = 1
    omega
  · rw [List.mem_append, List.mem_append] at hx
    rw [List.mem_append, List.mem_append]
    rcases hx with a | a | a
    · exact .inl (.inl a)
    · exact .inr a
    · exact .inl (.inr a)
  · rw [e]
    exact h.prod
  · unfold sbM
    rw [e, List.length_append]
    exact Nat.lt_succ_self _
theorem SB.split {vs F W : List Nat} {P v k o s t y z : Nat} (h : SB vs P F (W ++ [v])) (hk : F[k]? = some o) (hg : 1 < Nat.gcd v o) (hs : 1 ≤ s) (ht : 1 ≤ t) (hy : v = Nat.gcd v o ^ s * y) (hz : o = Nat.gcd v o ^ t * z) :
    SB vs P (F.eraseIdx k) (W ++ [Nat.gcd v o] ++ [y, z].filter fun x => decide (1 < x)) ∧ sbM (F.eraseIdx k) (W ++ [Nat.gcd v o] ++ [y, z].filter fun x => decide (1 < x)) < sbM F (W ++ [v]) := by
  obtain ⟨g, eg⟩ : ∃ g, Nat.gcd v o = g := ⟨_, rfl⟩
  rw [eg] at hg hy hz ⊢
  have hv := h.w2 v (List.mem_append_right _ (List.mem_singleton.mpr rfl))
  have ho := h.f2 o (List.mem_of_getElem? hk)
  have y1 : 1 ≤ y := Nat.pos_of_ne_zero fun w => by rw [w, Nat.mul_zero] at hy; omega
  have z1 : 1 ≤ z := Nat.pos_of_ne_zero fun w => by rw [w, Nat.mul_zero] at hz; omega
  have gv : g ∣ v := by rw [← eg]; exact Nat.gcd_dvd_left _ _
  have gle := Nat.le_of_dvd (by omega) gv
  have pw : ∀ {n : Nat}, 1 ≤ n → g ≤ g ^ n := fun {n} hn => by
    have := Nat.pow_le_pow_right (show 0 < g by omega) hn
    rwa [Nat.pow_one] at this
  have gy : g * y ≤ v := by
    have := Nat.mul_le_mul_right y (pw hs)
    omega
  have yv : y ≤ v := Nat.le_trans (Nat.le_mul_of_pos_left y (by omega)) gy
  have gz : g * z ≤ o := by
    have := Nat.mul_le_mul_right z (pw ht)
    omega
  have zo : z < o := by
    have := Nat.mul_le_mul_right z (show 2 ≤ g by omega)
    omega
  have eW : prodN (W ++ [g] ++ [y, z].filter fun x => decide (1 < x)) = prodN W * (g * (y * z)) := by
    rw [prodN_app, prodN_app, prodN_one, prodN_filter fun x hx => ?_]
    · show prodN W * g * (y * (z * 1)) = _
      rw [Nat.mul_one, Nat.mul_assoc]
    · rcases List.mem_cons.mp hx with rfl | hx
      · exact y1
      · rw [List.mem_singleton.mp hx]
        exact z1
  have eF := prodN_erase hk
  have W1 : 1 ≤ prodN W := prodN_pos fun x hx => (h.w2 x (List.mem_append_left _ hx)).1
  have mem : ∀ x, x ∈ F.eraseIdx k → x ∈ F := fun x hx => List.mem_of_mem_eraseIdx hx
  have F1 : 1 ≤ prodN (F.eraseIdx k) := prodN_pos fun x hx => (h.f2 x (mem x hx)).1
  have lt : g * (y * z) < v * o := by
    rw [← Nat.mul_assoc]
    exact Nat.mul_lt_mul_of_le_of_lt gy zo (by omega)
  have LT : prodN (F.eraseIdx k) * (prodN W * (g * (y * z))) < prodN F * prodN (W ++ [v]) := by
    rw [eF, prodN_app, prodN_one]
    have : o * prodN (F.eraseIdx k) * (prodN W * v) = prodN (F.eraseIdx k) * (prodN W * (v * o)) := by ac_rfl
    rw [this]
    exact Nat.mul_lt_mul_of_pos_left (Nat.mul_lt_mul_of_pos_left lt W1) F1
  have w2' : ∀ x, x ∈ W ++ [g] ++ ([y, z].filter fun x => decide (1 < x)) → 2 ≤ x ∧ x ≤ 1000000000000000000000000000000 := fun x hx => by
    rcases List.mem_append.mp hx with hx | hx
    · rcases List.mem_append.mp hx with hx | hx
      · exact h.w2 x (List.mem_append_left _ hx)
      · rw [List.mem_singleton.mp hx]
        omega
    · obtain ⟨hx, c⟩ := List.mem_filter.mp hx
      have c : 1 < x := of_decide_eq_true c
      rcases List.mem_cons.mp hx with rfl | hx
      · omega
      · rw [List.mem_singleton.mp hx] at c ⊢
        omega
  have inG : Gen (F.eraseIdx k ++ (W ++ [g] ++ [y, z].filter fun x => decide (1 < x))) g := .mem (List.mem_append_right _ (List.mem_append_left _ (List.mem_append_right _ (List.mem_singleton.mpr rfl))))
  have inL : ∀ x, x = y ∨ x = z → Gen (F.eraseIdx k ++ (W ++ [g] ++ [y, z].filter fun x => decide (1 < x))) x := fun x hx => by
    by_cases c : 1 < x
    · refine .mem (List.mem_append_right _ (List.mem_append_right _ (List.mem_filter.mpr ⟨?_, decide_eq_true c⟩)))
      rcases hx with rfl | rfl
      · exact List.mem_cons_self ..
      · exact List.mem_cons_of_mem _ (List.mem_singleton.mpr rfl)
    · have : x = 1 := by rcases hx with rfl | rfl <;> omega
      rw [this]
      exact .one
  refine ⟨⟨fun x hx => h.f2 x (mem x hx), w2', h.cop.sublist (List.eraseIdx_sublist ..), fun w hw => (h.gen w hw).sub fun x hx => ?_, ?_⟩, ?_⟩
  · rcases List.mem_append.mp hx with hx | hx
    · by_cases c : x = o
      · rw [c, hz]
        exact (inG.pow t).app (inL z (.inr rfl))
      · refine .mem (List.mem_append_left _ ?_)
        obtain ⟨i, hi, rfl⟩ := List.getElem_of_mem hx
        refine List.mem_eraseIdx_iff_getElem?.mpr ⟨i, fun z => ?_, List.getElem?_eq_getElem hi⟩
        subst z
        rw [List.getElem?_eq_getElem hi] at hk
        exact c (Option.some.inj hk)
    · rcases List.mem_append.mp hx with hx | hx
      · exact .mem (List.mem_append_right _ (List.mem_append_left _ (List.mem_append_left _ hx)))
      · rw [List.mem_singleton.mp hx, hy]
        exact (inG.pow s).app (inL y (.inl rfl))
  · rw [eW]
    exact Nat.le_trans (Nat.le_of_lt LT) h.prod
  · unfold sbM
    rw [eW]
    have l2 := prodN_two fun x hx => (w2' x hx).1
    rw [eW] at l2
    have l3 := Nat.lt_two_pow_self (n := (W ++ [g] ++ [y, z].filter fun x => decide (1 < x)).length)
    have p2 : 1 ≤ prodN W * (g * (y * z)) := Nat.mul_pos W1 (Nat.mul_pos (by omega) (Nat.mul_pos y1 z1))
    have l4 : prodN W * (g * (y * z)) ≤ prodN (F.eraseIdx k) * (prodN W * (g * (y * z))) := Nat.le_mul_of_pos_left _ F1
    generalize prodN (F.eraseIdx k) * (prodN W * (g * (y * z))) = p at *
    generalize prodN F * prodN (W ++ [v]) = q at *
    have l5 : p * p + p ≤ p * q := by
      rw [← Nat.mul_succ]
      exact Nat.mul_le_mul_left p LT
    have l6 : p * q < q * q := Nat.mul_lt_mul_of_pos_right LT (by omega)
    omega
/-- shared bases of these -/
structure Bases (vs bs : List Nat) : Prop where
  no : ∀ c, c ∈ bs → NoPow c
  cop : Cop bs
  gen : ∀ v, v ∈ vs → Gen bs v
  top : ∀ c, c ∈ bs → c ≤ 1000000000000000000000000000000
theorem Bases.of {vs F : List Nat} {P : Nat} (h : SB vs P F []) {r e : Nat → Nat} (hr : ∀ x, x ∈ F → r x ^ e x = x ∧ ∀ m y : Nat, y ^ m = x → m ∣ e x) : Bases vs (F.map r) := by
  have e1 : ∀ x, x ∈ F → 1 ≤ e x := fun x hx => Nat.pos_of_ne_zero fun z => by
    have h2 := (h.f2 x hx).1
    have := (hr x hx).1
    rw [z, Nat.pow_zero] at this
    omega
  have r2 : ∀ x, x ∈ F → 2 ≤ r x ∧ r x ≤ x := fun x hx => by
    have h2 := (h.f2 x hx).1
    have e := (hr x hx).1
    have e1' := e1 x hx
    refine ⟨Nat.le_of_not_lt fun z => ?_, ?_⟩
    · have : r x = 0 ∨ r x = 1 := by omega
      rcases this with z | z
      · rw [z, Nat.zero_pow e1'] at e
        omega
      · rw [z, Nat.one_pow] at e
        omega
    · rcases Nat.eq_zero_or_pos (r x) with z | z
      · omega
      · have := Nat.pow_le_pow_right z e1'
        rw [Nat.pow_one, e] at this
        exact this
  refine ⟨fun c hc => ?_, ?_, fun v hv => (h.gen v hv).sub fun x hx => ?_, fun c hc => ?_⟩
  · obtain ⟨x, hx, rfl⟩ := List.mem_map.mp hc
    refine ⟨(r2 x hx).1, fun m y hy => ?_⟩
    have d := (hr x hx).2 (m * e x) y (by rw [Nat.pow_mul, hy]; exact (hr x hx).1)
    have l := Nat.le_of_dvd (e1 x hx) d
    have e1' := e1 x hx
    refine Nat.le_antisymm (Nat.le_of_not_lt fun z => ?_) (Nat.pos_of_ne_zero fun z => ?_)
    · have := Nat.mul_le_mul_right (e x) z
      omega
    · rw [z, Nat.zero_mul] at d
      have := Nat.zero_dvd.mp d
      omega
  · refine List.pairwise_map.mpr (List.Pairwise.imp_of_mem (fun {a b} ha hb c => ?_) h.cop)
    have d : ∀ x, x ∈ F → r x ∣ x := fun x hx => by
      have := Nat.pow_dvd_pow (r x) (e1 x hx)
      rwa [Nat.pow_one, (hr x hx).1] at this
    exact Nat.Coprime.coprime_dvd_left (d a ha) (Nat.Coprime.coprime_dvd_right (d b hb) c)
  · rw [List.append_nil] at hx
    have : Gen (F.map r) (r x ^ e x) := (Gen.mem (List.mem_map.mpr ⟨x, hx, rfl⟩)).pow _
    rwa [(hr x hx).1] at this
  · obtain ⟨x, hx, rfl⟩ := List.mem_map.mp hc
    exact Nat.le_trans (r2 x hx).2 (h.f2 x hx).2
/-! ### texts of numbers -/
def tL (x : Str) : List Nat := x.cps.toList
def ofC (l : List Nat) : Str := ⟨l.toArray⟩
theorem tL_ofC (l : List Nat) : tL (ofC l) = l := by
  unfold tL ofC
  exact List.toList_toArray ..
theorem ofC_tL (x : Str) : ofC (tL x) = x := by
  unfold tL ofC
  rw [Array.toArray_toList]
theorem tL_inj {x y : Str} (h : tL x = tL y) : x = y := by
  rw [← ofC_tL x, h, ofC_tL]
theorem tL_len (x : Str) : x.length = (tL x).length := by
  show x.cps.size = x.cps.toList.length
  exact (Array.length_toList ..).symm
theorem tL_app (x y : Str) : tL (x ++ y) = tL x ++ tL y := by
  show (x.cps ++ y.cps).toList = _
  exact Array.toList_append ..
/-- the figures of a number -/
def numC (m : Nat) : List Nat := (Nat.toDigits 10 m).map Char.toNat
theorem numC_text (m : Nat) : tL (Str.ofString (toString ((m : Nat) : Int))) = numC m := PySem.W.KIN.signs_num m
theorem numC_lt {m : Nat} (h : m < 10) : numC m = [48 + m] := by
  unfold numC
  rw [Nat.toDigits_of_lt_base h]
  have : ∀ d : Nat, d < 10 → (Nat.digitChar d).toNat = 48 + d := by decide
  show [(Nat.digitChar m).toNat] = _
  rw [this m h]
theorem numC_ge {m : Nat} (h : 10 ≤ m) : numC m = numC (m / 10) ++ [48 + m % 10] := by
  have hm : m % 10 < 10 := Nat.mod_lt m (by decide)
  have t : Nat.toDigits 10 (m / 10) ++ Nat.toDigits 10 (m % 10) = Nat.toDigits 10 (10 * (m / 10) + m % 10) := Nat.toDigits_append_toDigits (by decide) (by omega) hm
  rw [Nat.div_add_mod] at t
  have := numC_lt hm
  unfold numC at this ⊢
  rw [← t, List.map_append, this]
open PySem.NumText in
theorem numC_digits (m : Nat) : AllDigits (numC m) := by
  induction m using Nat.strongRecOn with
  | _ m ih =>
    by_cases h : m < 10
    · rw [numC_lt h]
      intro c hc
      rw [List.mem_singleton.mp hc]
      omega
    · rw [numC_ge (by omega)]
      intro c hc
      rcases List.mem_append.mp hc with hc | hc
      · exact ih (m / 10) (by omega) c hc
      · rw [List.mem_singleton.mp hc]
        have := Nat.mod_lt m (show 0 < 10 by decide)
        omega
theorem numC_ne (m : Nat) : numC m ≠ [] := by
  by_cases h : m < 10
  · rw [numC_lt h]
    simp
  · rw [numC_ge (by omega)]
    simp
theorem numC_head {m : Nat} (h : 0 < m) : ∃ c r, numC m = c :: r ∧ 49 ≤ c := by
  induction m using Nat.strongRecOn with
  | _ m ih =>
    by_cases l : m < 10
    · exact ⟨48 + m, [], numC_lt l, by omega⟩
    · obtain ⟨c, r, e, hc⟩ := ih (m / 10) (by omega) (by omega)
      exact ⟨c, r ++ [48 + m % 10], by rw [numC_ge (by omega), e]; rfl, hc⟩
theorem numC_len {m k : Nat} (hk : 1 ≤ k) (h : m < 10 ^ k) : (numC m).length ≤ k := by
  induction k generalizing m with
  | zero => omega
  | succ k ih =>
    by_cases l : m < 10
    · rw [numC_lt l]
      exact hk
    · have k1 : 1 ≤ k := Nat.pos_of_ne_zero fun z => by
        subst z
        omega
      rw [numC_ge (by omega), List.length_append, List.length_singleton]
      have := ih k1 (m := m / 10) (by rw [Nat.pow_succ] at h; omega)
      omega
open PySem.NumText in
theorem numC_val (m : Nat) : digitsVal (numC m) = m := PySem.W.KIN.val_back m
theorem list_uniq {c : Nat} : ∀ {a b p q : List Nat}, c ∉ a → c ∉ p → a ++ c :: b = p ++ c :: q → a = p ∧ b = q
  | [], b, [], q, _, _, h => ⟨rfl, (List.cons.inj h).2⟩
  | [], b, y :: p, q, _, hp, h => by
    have := (List.cons.inj h).1
    exact absurd (by rw [this]; exact List.mem_cons_self ..) hp
  | x :: a, b, [], q, ha, _, h => by
    have := (List.cons.inj h).1
    exact absurd (by rw [← this]; exact List.mem_cons_self ..) ha
  | x :: a, b, y :: p, q, ha, hp, h => by
    obtain ⟨h1, h2⟩ := List.cons.inj h
    obtain ⟨e1, e2⟩ := list_uniq (fun z => ha (List.mem_cons_of_mem _ z)) (fun z => hp (List.mem_cons_of_mem _ z)) h2
    exact ⟨by rw [h1, e1], e2⟩
theorem cnt_two (c : Nat) : ∀ a b : List Nat, cnt c (a ++ b) = cnt c a + cnt c b
  | [], b => by
    rw [List.nil_append, cnt_nil]
    omega
  | x :: a, b => by
    rw [List.cons_append, cnt_cons, cnt_cons, cnt_two c a b]
    omega
/-- a text without the sign, split by it -/
theorem split_none {x : Str} {c : Nat} (h : c ∉ tL x) : Txt.split x ⟨#[c]⟩ = [x] := by
  have l := split_len x c
  have e0 : cnt c x.cps.toList = 0 := cnt_none c _ h
  rw [e0] at l
  have j := StrLaws.join_split x ⟨#[c]⟩
  generalize Txt.split x ⟨#[c]⟩ = ps at l j
  match ps, l with
  | [p], _ =>
    have e : p = x := j
    rw [e]
/-- a text with the sign once, split by it -/
theorem split_once {x : Str} {c : Nat} {a b : List Nat} (e : tL x = a ++ c :: b) (ha : c ∉ a) (hb : c ∉ b) : Txt.split x ⟨#[c]⟩ = [ofC a, ofC b] := by
  have l := split_len x c
  have ec : cnt c (tL x) = 1 := by
    rw [e, cnt_two, cnt_none c a ha, cnt_cons, if_pos rfl, cnt_none c b hb]
    rfl
  have ec' : cnt c x.cps.toList = 1 := ec
  rw [ec'] at l
  have j := StrLaws.join_split x ⟨#[c]⟩
  have f := StrLaws.split_free x c
  generalize Txt.split x ⟨#[c]⟩ = ps at l j f
  match ps, l with
  | [p, q], _ =>
    have j' : p ++ ⟨#[c]⟩ ++ q = x := j
    have t : tL p ++ c :: tL q = a ++ c :: b := by
      rw [← e, ← j', tL_app, tL_app]
      show _ = tL p ++ [c] ++ tL q
      simp
    obtain ⟨e1, e2⟩ := list_uniq (f p (List.mem_cons_self ..)) ha t
    have p1 : ofC a = p := by rw [← e1]; exact ofC_tL p
    have p2 : ofC b = q := by rw [← e2]; exact ofC_tL q
    rw [p1, p2]
/-! ### numbers and their texts -/
/-- the sign of an integer's text -/
def signC (a : Int) : List Nat := if a < 0 then [45] else []
/-- the text of a number -/
def textN (a b : Int) : List Nat := signC a ++ numC a.natAbs ++ (if b = 1 then [] else 47 :: numC b.natAbs)
theorem tL_ofString (s : String) : tL (Str.ofString s) = s.toList.map Char.toNat := by
  rw [Str.ofString_eq_toList]
  exact List.toList_toArray ..
theorem int_text (i : Int) : tL (Str.ofString (toString i)) = signC i ++ numC i.natAbs := by
  cases i with
  | ofNat m =>
    rw [show signC (Int.ofNat m) = [] from if_neg (Int.not_lt.mpr (Int.natCast_nonneg m))]
    exact numC_text m
  | negSucc k =>
    rw [show signC (Int.negSucc k) = [45] from if_pos (by omega)]
    have e : toString (Int.negSucc k) = "-" ++ toString (((k + 1 : Nat)) : Int) := rfl
    rw [e, tL_ofString, String.toList_append, List.map_append, ← tL_ofString (toString _), numC_text]
    rfl
theorem numC_back {l : List Nat} (h : PySem.NumText.AllDigits l) (hne : l ≠ []) (h0 : ∀ r, l = 48 :: r → r = []) : numC (PySem.NumText.digitsVal l) = l := by
  have len : l.length = (l.length - 1) + 1 := by
    have : l.length ≠ 0 := fun z => hne (List.eq_nil_of_length_eq_zero z)
    omega
  have t := PySem.NumText.toDigits_digitsVal (l.length - 1) l len h ?_
  · unfold numC
    rw [t, List.map_map]
    refine (List.map_congr_left fun c hc => ?_).trans (List.map_id l)
    have := h c hc
    show (Char.ofNat c).toNat = c
    have all : ∀ d, d < 128 → (Char.ofNat d).toNat = d := by decide +kernel
    exact all c (by omega)
  · match l, hne, h, h0 with
    | c :: r, _, h, h0 =>
      have hc := h.head
      by_cases z : c = 48
      · subst z
        exact .inl (by rw [h0 r rfl]; rfl)
      · exact .inr ⟨c, r, rfl, by omega⟩
theorem slash_free {l : List Nat} (h : PySem.NumText.AllDigits l) : 47 ∉ l := fun z => by
  have := h _ z
  omega
theorem sign_free (a : Int) : 47 ∉ signC a := by
  unfold signC
  split
  · decide
  · decide
theorem top_free (a : Int) : 47 ∉ signC a ++ numC a.natAbs := fun z => by
  rcases List.mem_append.mp z with z | z
  · exact sign_free a z
  · exact slash_free (numC_digits _) z
theorem text_whole (a : Int) : textN a 1 = signC a ++ numC a.natAbs := by
  unfold textN
  rw [if_pos rfl, List.append_nil]
theorem text_part {a b : Int} (h : b ≠ 1) : textN a b = (signC a ++ numC a.natAbs) ++ 47 :: numC b.natAbs := by
  unfold textN
  rw [if_neg h]
/-- what stands behind a sign -/
def unsign : List Nat → List Nat
  | 45 :: r => r
  | l => l
/-- the integer that a text writes -/
def intC : List Nat → Int
  | 45 :: r => -((PySem.NumText.digitsVal r : Nat) : Int)
  | l => ((PySem.NumText.digitsVal l : Nat) : Int)
theorem unsign_ne {l : List Nat} (h : ∀ r, l ≠ 45 :: r) : unsign l = l ∧ intC l = ((PySem.NumText.digitsVal l : Nat) : Int) := by
  unfold unsign intC
  split
  · exact absurd rfl (h _)
  · exact ⟨rfl, rfl⟩
theorem num_ne (m : Nat) : ∀ r, numC m ≠ 45 :: r := fun r z => by
  have := numC_digits m 45 (by rw [z]; exact List.mem_cons_self ..)
  omega
theorem unsign_text (a : Int) : unsign (signC a ++ numC a.natAbs) = numC a.natAbs ∧ intC (signC a ++ numC a.natAbs) = a := by
  unfold signC
  by_cases h : a < 0
  · rw [if_pos h]
    refine ⟨rfl, ?_⟩
    show -((PySem.NumText.digitsVal (numC a.natAbs) : Nat) : Int) = a
    rw [numC_val]
    omega
  · rw [if_neg h, List.nil_append]
    obtain ⟨e1, e2⟩ := unsign_ne (num_ne a.natAbs)
    rw [e1, e2, numC_val]
    exact ⟨rfl, by omega⟩
theorem int_read {x : Str} (h : PySem.NumText.AllDigits (unsign (tL x))) (hne : unsign (tL x) ≠ []) (hl : x.length ≤ 4300) : PySem.intText? x = some (intC (tL x)) := by
  by_cases c : ∃ r, tL x = 45 :: r
  · obtain ⟨r, e⟩ := c
    rw [e] at h hne
    rw [e]
    exact PySem.intText_neg e h hne hl
  · obtain ⟨e1, e2⟩ := unsign_ne fun r z => c ⟨r, z⟩
    rw [e1] at h hne
    rw [e2]
    exact PySem.intText_digits h hne hl
/-! signs of texts -/
theorem at_sign {x : Str} {c i : Nat} : StrLaws.At x ⟨#[c]⟩ x.length i ↔ (tL x)[i]? = some c := by
  unfold StrLaws.At
  rw [StrLaws.subAt_eq]
  have l1 : (⟨#[c]⟩ : Str).length = 1 := rfl
  have l2 : (⟨#[c]⟩ : Str).cps.toList = [c] := rfl
  rw [l1, l2, beq_iff_eq]
  constructor
  · rintro ⟨_, h⟩
    have : ((tL x).drop i)[0]? = some c := by
      have g : (((tL x).drop i).take 1)[0]? = some c := by
        rw [show ((tL x).drop i).take 1 = [c] from h]
        rfl
      rwa [List.getElem?_take_of_lt (by decide)] at g
    rwa [List.getElem?_drop] at this
  · intro h
    have hlt : i < (tL x).length := by
      rcases Nat.lt_or_ge i (tL x).length with z | z
      · exact z
      · rw [List.getElem?_eq_none z] at h
        cases h
    refine ⟨by rw [tL_len]; omega, ?_⟩
    show ((tL x).drop i).take 1 = [c]
    rw [List.drop_eq_getElem_cons hlt, List.take_succ_cons, List.take_zero]
    rw [List.getElem?_eq_getElem hlt] at h
    rw [Option.some.inj h]
theorem part_none {x : Str} {c : Nat} (h : c ∉ tL x) : Txt.partition x ⟨#[c]⟩ = (x, Str.empty, Str.empty) := by
  unfold Txt.partition
  rcases StrLaws.occ_head x ⟨#[c]⟩ 1 (Nat.le_refl 1) with ⟨h0, _⟩ | ⟨i, r, h0, hi, _⟩
  · rw [h0]
  · exact absurd (List.mem_of_getElem? (at_sign.mp hi)) h
theorem part_once {x : Str} {c : Nat} {u v : List Nat} (e : tL x = u ++ c :: v) (hu : c ∉ u) : Txt.partition x ⟨#[c]⟩ = (ofC u, ⟨#[c]⟩, ofC v) := by
  unfold Txt.partition
  have here : (tL x)[u.length]? = some c := by
    rw [e, List.getElem?_append_right (Nat.le_refl _), Nat.sub_self]
    rfl
  rcases StrLaws.occ_head x ⟨#[c]⟩ 1 (Nat.le_refl 1) with ⟨_, hn⟩ | ⟨i, r, h0, hi, hn⟩
  · exact absurd (at_sign.mpr here) (hn _)
  · have hi' := at_sign.mp hi
    have ei : i = u.length := by
      rcases Nat.lt_trichotomy i u.length with z | z | z
      · rw [e, List.getElem?_append_left z] at hi'
        exact absurd (List.mem_of_getElem? hi') hu
      · exact z
      · exact absurd (at_sign.mpr here) (hn _ z)
    subst ei
    rw [h0]
    have e1 : Builtin.Str.strSub x 0 u.length = ofC u := tL_inj (by
      show (Builtin.Str.strSub x 0 u.length).cps.toList = _
      rw [StrLaws.strSub_toList, tL_ofC]
      show ((tL x).drop 0).take (u.length - 0) = u
      rw [e]
      simp)
    have e2 : Builtin.Str.strSub x (u.length + (⟨#[c]⟩ : Str).length) x.length = ofC v := tL_inj (by
      show (Builtin.Str.strSub x (u.length + 1) x.length).cps.toList = _
      rw [StrLaws.strSub_toList, tL_ofC, tL_len]
      show ((tL x).drop (u.length + 1)).take ((tL x).length - (u.length + 1)) = v
      rw [e, ← List.drop_drop, List.drop_left, List.drop_succ_cons, List.drop_zero, List.take_of_length_le]
      rw [List.length_append, List.length_cons]
      omega)
    show (Builtin.Str.strSub x 0 u.length, (⟨#[c]⟩ : Str), Builtin.Str.strSub x (u.length + (⟨#[c]⟩ : Str).length) x.length) = _
    rw [e1, e2]
theorem unpre (x : Str) : tL (Txt.removeprefix x ⟨#[45]⟩) = unsign (tL x) := by
  rw [StrLaws.removeprefix_eq]
  have l1 : (⟨#[45]⟩ : Str).length = 1 := rfl
  rw [l1]
  by_cases c : ∃ r, tL x = 45 :: r
  · obtain ⟨r, e⟩ := c
    have a : StrLaws.At x ⟨#[45]⟩ x.length 0 := at_sign.mpr (by rw [e]; rfl)
    obtain ⟨a1, a2⟩ := a
    rw [if_pos (by rw [a2, Bool.and_true]; exact decide_eq_true a1)]
    show tL ⟨_⟩ = _
    rw [e]
    show (((tL x).drop 1).take (x.length - 1)).toArray.toList = r
    rw [List.toList_toArray, tL_len, e]
    simp
  · rw [if_neg, (unsign_ne fun r z => c ⟨r, z⟩).1]
    intro z
    rw [Bool.and_eq_true] at z
    have a : StrLaws.At x ⟨#[45]⟩ x.length 0 := ⟨of_decide_eq_true z.1, z.2⟩
    have := at_sign.mp a
    refine c ?_
    match h : tL x, this with
    | d :: r, this => exact ⟨r, by rw [show d = 45 from Option.some.inj this]⟩
/-- figures alone, and one at least -/
def digB (x : Str) : Bool := decide (tL x ≠ []) && (tL x).all fun c => decide (48 ≤ c ∧ c ≤ 57)
theorem digB_iff {x : Str} : digB x = true ↔ tL x ≠ [] ∧ PySem.NumText.AllDigits (tL x) := by
  unfold digB PySem.NumText.AllDigits
  rw [Bool.and_eq_true, decide_eq_true_eq, List.all_eq_true]
  constructor
  · rintro ⟨a, b⟩
    exact ⟨a, fun c hc => of_decide_eq_true (b c hc)⟩
  · rintro ⟨a, b⟩
    exact ⟨a, fun c hc => decide_eq_true (b c hc)⟩
theorem dec_sign : ∀ c, c < 128 → Unicode.isDecimal c = decide (48 ≤ c ∧ c ≤ 57) := by decide +kernel
theorem dig_is (x : Str) : (Txt.isascii x && Txt.isdecimal x) = digB x := by
  have e1 : Txt.isascii x = (tL x).all fun c => decide (c < 128) := by
    unfold Txt.isascii tL
    rw [Array.all_toList]
  have e2 : Txt.isdecimal x = (decide (tL x ≠ []) && (tL x).all Unicode.isDecimal) := by
    unfold Txt.isdecimal
    have : decide (x.length > 0) = decide (tL x ≠ []) := by
      rw [tL_len]
      refine decide_eq_decide.mpr ?_
      exact List.length_pos_iff
    rw [this]
    unfold tL
    rw [Array.all_toList]
  rw [e1, e2]
  unfold digB
  cases a : (tL x).all fun c => decide (c < 128) with
  | true =>
    rw [Bool.true_and]
    congr 1
    rw [List.all_eq_true] at a
    generalize tL x = l at a ⊢
    induction l with
    | nil => rfl
    | cons c r ih =>
      rw [List.all_cons, List.all_cons, ih fun d hd => a d (List.mem_cons_of_mem _ hd), dec_sign c (of_decide_eq_true (a c (List.mem_cons_self ..)))]
  | false =>
    rw [Bool.false_and]
    symm
    rw [Bool.and_eq_false_iff]
    refine .inr ?_
    cases b : (tL x).all fun c => decide (48 ≤ c ∧ c ≤ 57) with
    | false => rfl
    | true =>
      rw [List.all_eq_true] at b
      have : ((tL x).all fun c => decide (c < 128)) = true := List.all_eq_true.mpr fun c hc => decide_eq_true (by
        have := of_decide_eq_true (b c hc)
        omega)
      rw [this] at a
      cases a
/-! a text read as a number -/
def Reads (l : List Nat) (r : D) : Prop := (∃ a b : Int, IsNum a b ∧ l = textN a b ∧ r = .tup [.int a, .int b]) ∨ (r = .non ∧ ∀ a b : Int, IsNum a b → l ≠ textN a b)
/-- the bottom's text -/
def botOf (P : Str × Str × Str) : Str := if P.2.1.length = 0 then ⟨#[49]⟩ else P.2.2
theorem text_parts {x : Str} {a b : Int} (hn : IsNum a b) (e : tL x = textN a b) : tL (Txt.partition x ⟨#[47]⟩).1 = signC a ++ numC a.natAbs ∧ tL (botOf (Txt.partition x ⟨#[47]⟩)) = numC b.natAbs := by
  by_cases c : b = 1
  · subst c
    rw [text_whole] at e
    rw [part_none (by rw [e]; exact top_free a)]
    refine ⟨e, ?_⟩
    show tL (if Str.empty.length = 0 then _ else _) = _
    rw [if_pos (show Str.empty.length = 0 from rfl)]
    show [49] = numC 1
    rw [numC_lt (by decide)]
  · rw [text_part c] at e
    rw [part_once e (top_free a)]
    refine ⟨tL_ofC _, ?_⟩
    show tL (if (⟨#[47]⟩ : Str).length = 0 then _ else _) = _
    rw [if_neg (show ¬ (⟨#[47]⟩ : Str).length = 0 by decide)]
    exact tL_ofC _
theorem text_one {a b a' b' : Int} (hn : IsNum a b) (hn' : IsNum a' b') (e : textN a b = textN a' b') : a = a' ∧ b = b' := by
  obtain ⟨p1, p2⟩ := text_parts (x := ofC (textN a b)) hn (tL_ofC _)
  obtain ⟨q1, q2⟩ := text_parts (x := ofC (textN a b)) hn' (by rw [tL_ofC, e])
  have e1 : signC a ++ numC a.natAbs = signC a' ++ numC a'.natAbs := p1.symm.trans q1
  have e2 : numC b.natAbs = numC b'.natAbs := p2.symm.trans q2
  have f1 : a = a' := by rw [← (unsign_text a).2, e1, (unsign_text a').2]
  have f2 : b.natAbs = b'.natAbs := by rw [← numC_val b.natAbs, e2, numC_val]
  obtain ⟨_, h2, _⟩ := hn
  obtain ⟨_, h2', _⟩ := hn'
  exact ⟨f1, by omega⟩
theorem Reads.same {l : List Nat} {r r' : D} (h : Reads l r) (h' : Reads l r') : r = r' := by
  rcases h with ⟨a, b, h1, h2, h3⟩ | ⟨h1, h2⟩
  · rcases h' with ⟨a', b', g1, g2, g3⟩ | ⟨g1, g2⟩
    · obtain ⟨e1, e2⟩ := text_one h1 g1 (h2.symm.trans g2)
      rw [h3, g3, e1, e2]
    · exact absurd h2 (g2 a b h1)
  · rcases h' with ⟨a', b', g1, g2, g3⟩ | ⟨g1, g2⟩
    · exact absurd g2 (h2 a' b' g1)
    · rw [h1, g1]
theorem numC_short {n : Nat} (h : n ≤ 1000000000000000000000000000000) : (numC n).length ≤ 31 := numC_len (by decide) (by
  have : (10 : Nat) ^ 31 = 10000000000000000000000000000000 := by decide +kernel
  omega)
/-! data shown by repr, in any later store -/
theorem emD_py {μ : Sto} {d : D} {p : PyData} (h : Py μ d p) : emD μ d = false := by
  cases h with
  | ref h1 h2 =>
    simp only [emD]
    rw [lstAt_cell h1]
  | _ => rfl
mutual
theorem Py.ext {μ μ' : Sto} (e : Ext μ μ') : ∀ {d : D} {p : PyData}, Py μ d p → Py μ' d p
  | _, _, .non => .non
  | _, _, .bl b => .bl b
  | _, _, .int i => .int i
  | _, _, .str x => .str x
  | _, _, .tup h => .tup (PyAll.ext e h)
  | _, _, .ro h => .ro (PyAll.ext e h)
  | _, _, .ref h1 h2 => .ref (e.lst h1) (PyAll.ext e h2)
theorem PyAll.ext {μ μ' : Sto} (e : Ext μ μ') : ∀ {ds : List D} {ps : List PyData}, PyAll μ ds ps → PyAll μ' ds ps
  | _, _, .nil => .nil
  | _, _, .cons h1 h2 => .cons (Py.ext e h1) (PyAll.ext e h2)
end
/-- repr of d is s -/
def RepIs (μ : Sto) (d : D) (s : Str) : Prop := PyData.strOk s = true ∧ ((∃ k, d = .ref k ∧ cell μ k = some (.dct []) ∧ s = "{}") ∨ ∃ p, Py μ d p ∧ p.showable = true ∧ p.depth ≤ 60 ∧ p.shown.length ≤ sizeLine ∧ s = p.shown)
theorem RepIs.ext {μ μ' : Sto} {d : D} {s : Str} (e : Ext μ μ') (h : RepIs μ d s) : RepIs μ' d s := by
  obtain ⟨ok, ⟨k, h1, h2, h3⟩ | ⟨p, h1, h2⟩⟩ := h
  · exact ⟨ok, .inl ⟨k, h1, e.2 _ _ h2, h3⟩⟩
  · exact ⟨ok, .inr ⟨p, Py.ext e h1, h2⟩⟩
theorem RepIs.go {μ : Sto} {d : D} {s : Str} {P : D → Sto → Prop} (h : RepIs μ d s) (k : P (.str s) μ) : wRepr2 [d] μ P := by
  obtain ⟨_, ⟨j, h1, h2, h3⟩ | ⟨p, h1, h2, h3, h4, h5⟩⟩ := h
  · subst h1 h3
    unfold wRepr2
    simp only [emD, h2]
    exact k
  · subst h5
    unfold wRepr2
    simp only [emD_py h1]
    exact ⟨p, h1, h2, h3, h4, k⟩
theorem kit_ss : kitB "str" "str" = some true := by decide +kernel
/-- no text -/
def NoText (μ : Sto) (d : D) : Prop := ∃ t, tyOf2 μ d = some t ∧ kitB t "str" = some false
theorem NoText.ext {μ μ' : Sto} {d : D} (e : Ext μ μ') (h : NoText μ d) : NoText μ' d := by
  obtain ⟨t, h1, h2⟩ := h
  refine ⟨t, ?_, h2⟩
  cases d with
  | ref k =>
    unfold tyOf2 at h1 ⊢
    simp only [] at h1 ⊢
    cases hc : cell μ k with
    | none =>
      rw [hc] at h1
      have : (lstAt μ k).map (fun _ => "list") = some t := h1
      unfold lstAt at this
      rw [hc] at this
      cases this
    | some o =>
      rw [e.2 _ _ hc]
      rw [hc] at h1
      cases o with
      | dct kvs => exact h1
      | lst xs =>
        have h1' : (lstAt μ k).map (fun _ => "list") = some t := h1
        show (lstAt μ' k).map (fun _ => "list") = some t
        rw [lstAt_of (e.2 _ _ hc)]
        rw [lstAt_of hc] at h1'
        exact h1'
      | _ =>
        have h1' : (lstAt μ k).map (fun _ => "list") = some t := h1
        unfold lstAt at h1'
        rw [hc] at h1'
        cases h1'
  | _ => exact h1
theorem ok_repr {x : Str} (h : ∀ c ∈ tL x, c < 128) : PyData.strOk (reprText x) = true := by
  have one : ∀ q, q = 34 ∨ q = 39 → ∀ c, c < 128 → ∀ d ∈ Builtin.Str.reprChar q c, d < 1114112 := by
    have a : ∀ c, c < 128 → ∀ d ∈ Builtin.Str.reprChar 34 c, d < 1114112 := by decide +kernel
    have b : ∀ c, c < 128 → ∀ d ∈ Builtin.Str.reprChar 39 c, d < 1114112 := by decide +kernel
    rintro q (rfl | rfl)
    · exact a
    · exact b
  have hq : reprQuote x = 34 ∨ reprQuote x = 39 := by
    unfold reprQuote
    split
    · exact .inl rfl
    · exact .inr rfl
  have fold : ∀ (l : List Nat) (acc : Array Nat), (∀ c ∈ l, c < 128) → (∀ d ∈ acc, d < 1114112) → ∀ d ∈ l.foldl (fun out c => out ++ (Builtin.Str.reprChar (reprQuote x) c).toArray) acc, d < 1114112 := by
    intro l
    induction l with
    | nil => exact fun acc _ h2 => h2
    | cons c r ih =>
      intro acc h1 h2
      refine ih _ (fun d hd => h1 d (List.mem_cons_of_mem _ hd)) fun d hd => ?_
      rcases Array.mem_append.mp hd with z | z
      · exact h2 d z
      · exact one _ hq c (h1 c (List.mem_cons_self ..)) d (by simpa using z)
  unfold PyData.strOk
  rw [Array.all_eq_true_iff_forall_mem]
  intro d hd
  refine decide_eq_true ?_
  unfold reprText at hd
  rcases Array.mem_push.mp hd with z | z
  · rw [← Array.foldl_toList] at z
    refine fold _ _ h (fun e he => ?_) d z
    rw [show e = reprQuote x by simpa using he]
    rcases hq with q | q <;> rw [q] <;> decide
  · rw [z]
    rcases hq with q | q <;> rw [q] <;> decide
/-! sizes of such texts -/
theorem log_num {i : Int} (h : i.natAbs ≤ 1000000000000000000000000000000) : i.natAbs.log2 < 1920 := by
  by_cases z : i.natAbs = 0
  · rw [z]
    decide
  · refine (Nat.log2_lt z).mpr ?_
    have l : 1000000000000000000000000000000 < 2 ^ 100 := by decide +kernel
    have l2 : (2 : Nat) ^ 100 < 2 ^ 1920 := Nat.pow_lt_pow_right (by decide) (by decide)
    omega
theorem text_short {i : Int} (h : i.natAbs ≤ 1000000000000000000000000000000) : (Str.ofString (toString i)).length ≤ 32 := by
  rw [tL_len, int_text, List.length_append]
  have := numC_short h
  unfold signC
  split <;> simp only [List.length_cons, List.length_nil] <;> omega
theorem textN_short {a b : Int} (hn : IsNum a b) : (textN a b).length ≤ 64 := by
  obtain ⟨h1, h2, h3, h4, h5⟩ := hn
  have q1 := numC_short h4
  have q2 := numC_short (n := b.natAbs) (by omega)
  unfold textN signC
  rw [List.length_append, List.length_append]
  repeat' split
  all_goals simp only [List.length_cons, List.length_nil]
  all_goals omega
theorem slash_is : Str.ofString "/" = ⟨#[47]⟩ := by decide +kernel
theorem whole_is (a : Int) : Str.ofString (toString a) = ofC (textN a 1) := tL_inj (by rw [tL_ofC, text_whole, int_text])
theorem part_is {a b : Int} (hb : 1 ≤ b) (h : b ≠ 1) : Str.ofString (toString a) ++ (Str.ofString "/" ++ Str.ofString (toString b)) = ofC (textN a b) := tL_inj (by
  rw [tL_ofC, text_part h, tL_app, tL_app, int_text, int_text, slash_is]
  have : signC b = [] := if_neg (by omega)
  rw [this]
  rfl)
/-! ### roots without bounds, products of powers of 2, 3, 5, 7 -/
structure LeastR (n a b : Nat) : Prop where
  n1 : 1 ≤ n
  a1 : 1 ≤ a
  b1 : 1 ≤ b
  cop : Nat.gcd a b = 1
  least : ∀ m x y : Nat, m ∣ n → x ^ m = a → y ^ m = b → m = 1
theorem LeastForm.r {n a b : Nat} (h : LeastForm n a b) : LeastR n a b := ⟨h.n1, h.a1, h.b1, h.cop, h.least⟩
theorem LeastR.form {n a b : Nat} (h : LeastR n a b) (h60 : n ≤ 60) (ha : a ≤ 1000000000000000000000000000000) (hb : b ≤ 1000000000000000000000000000000) : LeastForm n a b := ⟨h.n1, h60, h.a1, h.b1, ha, hb, h.cop, h.least⟩
/-- numbers that are no powers -/
theorem noPow_by {c : Nat} (rs : List Nat) (h2 : 2 ≤ c) (hl : c < 2 ^ (rs.length + 2)) (chk : ((List.range rs.length).all fun i => decide (rs.getD i 0 ^ (i + 2) < c) && decide (c < (rs.getD i 0 + 1) ^ (i + 2))) = true) : NoPow c := by
  refine ⟨h2, fun m x h => ?_⟩
  have x2 : 2 ≤ x := by
    refine Nat.le_of_not_lt fun z => ?_
    have : x = 0 ∨ x = 1 := by omega
    rcases this with rfl | rfl
    · cases m with
      | zero => rw [Nat.pow_zero] at h; omega
      | succ m => rw [Nat.zero_pow (Nat.succ_pos m)] at h; omega
    · rw [Nat.one_pow] at h
      omega
  refine Nat.le_antisymm (Nat.le_of_not_lt fun z => ?_) (Nat.pos_of_ne_zero fun z => ?_)
  · have ml : m < rs.length + 2 := by
      refine Nat.lt_of_not_le fun q => ?_
      have q1 : 2 ^ (rs.length + 2) ≤ 2 ^ m := Nat.pow_le_pow_right (by decide) q
      have q2 : 2 ^ m ≤ x ^ m := Nat.pow_le_pow_left x2 m
      omega
    have ck := List.all_eq_true.mp chk (m - 2) (List.mem_range.mpr (by omega))
    rw [Bool.and_eq_true, decide_eq_true_eq, decide_eq_true_eq, show m - 2 + 2 = m by omega, ← h] at ck
    have l1 : rs.getD (m - 2) 0 < x := Nat.lt_of_not_le fun q => by
      have := Nat.pow_le_pow_left q m
      omega
    have l2 : x < rs.getD (m - 2) 0 + 1 := Nat.lt_of_not_le fun q => by
      have := Nat.pow_le_pow_left q m
      omega
    omega
  · rw [z, Nat.pow_zero] at h
    omega
theorem np2 : NoPow 2 := noPow_by [1] (by decide) (by decide) (by decide)
theorem tpB_pos (es : List Int) : 1 ≤ tpB es := tp_pos _ 4
theorem tpA_pos (es : List Int) : 1 ≤ tpA es := tp_pos _ 4
/-! what exponents and a degree share -/
def lowG (n : Nat) (es : List Int) : Nat := es.foldl (fun g e => Nat.gcd g e.natAbs) n
theorem lowG_pos {n : Nat} (h : 0 < n) : ∀ es : List Int, 0 < lowG n es ∧ lowG n es ≤ n := by
  intro es
  induction es generalizing n with
  | nil => exact ⟨h, Nat.le_refl _⟩
  | cons e r ih =>
    have g := Nat.gcd_pos_of_pos_left e.natAbs h
    have q := ih g
    exact ⟨q.1, Nat.le_trans q.2 (Nat.gcd_le_left _ h)⟩
def lowE (n : Nat) (es : List Int) : List Int := es.map fun e => e / (lowG n es : Int)
theorem lowE_len (n : Nat) (es : List Int) : (lowE n es).length = es.length := List.length_map _
theorem lowE_few {n b : Nat} {es : List Int} (h : ∀ e, e ∈ es → e.natAbs ≤ b) : ∀ e, e ∈ lowE n es → e.natAbs ≤ b := fun e he => by
  obtain ⟨x, hx, rfl⟩ := List.mem_map.mp he
  exact Nat.le_trans (Int.natAbs_ediv_le_natAbs x _) (h x hx)
theorem tp_size7 {es : List Int} (h : ∀ e, e ∈ es → e.natAbs ≤ 720) : tp es 4 < 2 ^ 6000 := by
  have q : ∀ i, [2, 3, 5, 7].getD i 1 ^ ((es.getD i 0).toNat) ≤ [2, 3, 5, 7].getD i 1 ^ 720 := fun i => Nat.pow_le_pow_right (prime_few i).1 (getD_few h i)
  have e : tp es 4 ≤ 1 * [2, 3, 5, 7].getD 0 1 ^ 720 * [2, 3, 5, 7].getD 1 1 ^ 720 * [2, 3, 5, 7].getD 2 1 ^ 720 * [2, 3, 5, 7].getD 3 1 ^ 720 :=
    Nat.mul_le_mul (Nat.mul_le_mul (Nat.mul_le_mul (Nat.mul_le_mul (Nat.le_refl _) (q 0)) (q 1)) (q 2)) (q 3)
  have e2 : 1 * [2, 3, 5, 7].getD 0 1 ^ 720 * [2, 3, 5, 7].getD 1 1 ^ 720 * [2, 3, 5, 7].getD 2 1 ^ 720 * [2, 3, 5, 7].getD 3 1 ^ 720 = 210 ^ 720 := by
    show 1 * 2 ^ 720 * 3 ^ 720 * 5 ^ 720 * 7 ^ 720 = 210 ^ 720
    rw [Nat.one_mul, ← Nat.mul_pow, ← Nat.mul_pow, ← Nat.mul_pow]
  have e3 : (210 : Nat) ^ 720 ≤ 256 ^ 720 := Nat.pow_le_pow_left (by decide) 720
  have e4 : (256 : Nat) ^ 720 = 2 ^ 5760 := by
    rw [show (256 : Nat) = 2 ^ 8 from rfl, ← Nat.pow_mul]
  have e5 : (2 : Nat) ^ 5760 < 2 ^ 6000 := Nat.pow_lt_pow_right (by decide) (by decide)
  omega
/-- the text, or the word of what is too great -/
def textR (n a b : Nat) : Str := Str.ofString (toString (n : Int)) ++ Str.ofString " of " ++ ofC (textN (a : Int) (b : Int))
theorem part_is3 {a b : Int} (hb : 1 ≤ b) (h : b ≠ 1) : Str.ofString (toString a) ++ Str.ofString "/" ++ Str.ofString (toString b) = ofC (textN a b) := by
  rw [← part_is hb h]
  refine tL_inj ?_
  simp only [tL_app, List.append_assoc]
theorem sh_strs3 (x y z : Str) (hx : PyData.strOk x = true) (hy : PyData.strOk y = true) (hz : PyData.strOk z = true) : SeqAt.shaped (.list [.str x, .str y, .str z]) = true := by
  unfold SeqAt.shaped
  have e : (PyData.list [.str x, .str y, .str z]).canLay0 = (PyData.strOk x && (PyData.strOk y && (PyData.strOk z && true))) := rfl
  rw [e, hx, hy, hz]
  rfl
/-! ### looks: pairs of an n and what was seen; steps -/
abbrev Look := Nat × Bool
structure LooksOk (ls : List Look) : Prop where
  few : ls.length ≤ 20
  n1 : ∀ l, l ∈ ls → 1 ≤ l.1 ∧ l.1 ≤ 1000
/-- p is a step of n by the sign -/
def Step (sg : Int) (n p : Nat) : Prop := (IsPr p ∧ p ∣ n ∧ (sg = 1 ∨ 2 < p)) ∨ (sg = -1 ∧ p = 4 ∧ n % 4 = 0)
def NoWhole (ls : List Look) (p : Nat) : Prop := ∀ m, (m, false) ∈ ls → ¬ p ∣ m
def Never (sg : Int) (ls : List Look) (n : Nat) : Prop := ∀ p, Step sg n p → ¬ NoWhole ls p
theorem Step.dvd {sg : Int} {n p : Nat} (h : Step sg n p) : p ∣ n := by
  rcases h with ⟨_, h, _⟩ | ⟨_, rfl, h⟩
  · exact h
  · exact Nat.dvd_of_mod_eq_zero h
/-- the steps of a kind -/
def KStep (sg : Int) (ps : Option (List Nat)) (f : Bool) (p : Nat) : Prop := match ps with
  | none => IsPr p ∧ (sg = 1 ∨ 2 < p)
  | some l => p ∈ l ∨ (f = true ∧ p = 4)
theorem splK_steps {sg : Int} {ps : Option (List Nat)} {f : Bool} (hk : IsKind sg ps f) {n : Nat} (hn : 1 ≤ n) : SplK sg ps f n ↔ ∃ p, KStep sg ps f p ∧ p ∣ n := by
  obtain ⟨hs, _, _⟩ := hk
  cases ps with
  | none =>
    unfold SplK KStep OddPr
    constructor
    · rintro (⟨rfl, h⟩ | ⟨rfl, p, h1, h2, h3⟩)
      · obtain ⟨p, h1, h2⟩ := pr_dvd n h
        exact ⟨p, ⟨h1, .inl rfl⟩, h2⟩
      · exact ⟨p, ⟨h1, .inr h3⟩, h2⟩
    · rintro ⟨p, ⟨h1, h2⟩, h3⟩
      have le := Nat.le_of_dvd hn h3
      have p2 := h1.1
      rcases hs with rfl | rfl
      · exact .inl ⟨rfl, by omega⟩
      · exact .inr ⟨rfl, p, h1, h3, h2.resolve_left (by decide)⟩
  | some l =>
    unfold SplK KStep
    constructor
    · rintro (⟨h1, h2⟩ | ⟨p, h1, h2⟩)
      · exact ⟨4, .inr ⟨h1, rfl⟩, Nat.dvd_of_mod_eq_zero h2⟩
      · exact ⟨p, .inl h1, h2⟩
    · rintro ⟨p, h1 | ⟨h1, rfl⟩, h2⟩
      · exact .inr ⟨p, h1, h2⟩
      · exact .inl ⟨h1, Nat.mod_eq_zero_of_dvd h2⟩
/-- a step of a kind that divides n is a step of n -/
theorem KStep.step {sg : Int} {ps : Option (List Nat)} {f : Bool} (hk : IsKind sg ps f) {n p : Nat} (h : KStep sg ps f p) (hd : p ∣ n) : Step sg n p := by
  obtain ⟨hs, hf, hp⟩ := hk
  cases ps with
  | none => exact .inl ⟨h.1, hd, h.2⟩
  | some l =>
    obtain ⟨good, h2⟩ := hp
    rcases h with h | ⟨h1, rfl⟩
    · have pr := (good.2.1 p h).1
      refine .inl ⟨pr, hd, ?_⟩
      rcases hs with rfl | rfl
      · exact .inl rfl
      · have p2 := pr.1
        have ne : p ≠ 2 := fun z => h2 rfl (z ▸ h)
        exact .inr (by omega)
    · refine .inr ⟨?_, rfl, Nat.mod_eq_zero_of_dvd hd⟩
      rcases hs with rfl | rfl
      · rw [hf rfl] at h1
        cases h1
      · rfl
def FitsK (sg : Int) (ps : Option (List Nat)) (f : Bool) (ls : List Look) : Prop := ∀ n b, (n, b) ∈ ls → (b = true ↔ SplK sg ps f n)
theorem FitsK.noWhole {sg : Int} {ps : Option (List Nat)} {f : Bool} {ls : List Look} (hk : IsKind sg ps f) (ok : LooksOk ls) (h : FitsK sg ps f ls) {p : Nat} (hp : KStep sg ps f p) : NoWhole ls p := fun m hm hd => by
  have n1 := (ok.n1 _ hm).1
  have := (h m false hm).mpr ((splK_steps hk n1).mpr ⟨p, hp, hd⟩)
  cases this
theorem FitsK.never {sg : Int} {ps : Option (List Nat)} {f : Bool} {ls : List Look} (hk : IsKind sg ps f) (ok : LooksOk ls) (h : FitsK sg ps f ls) {n : Nat} (hn : 1 ≤ n) (hs : Never sg ls n) : ¬ SplK sg ps f n := fun z => by
  obtain ⟨p, h1, h2⟩ := (splK_steps hk hn).mp z
  exact hs p (h1.step hk h2) (h.noWhole hk ok h1)
/-! ### values of any kind: with lists in them (true) or with dicts (false), apart from the jar -/
mutual
inductive VA (j : Nat) (μ : Sto) : Bool → D → PyData → Prop
  | non {b : Bool} : VA j μ b .non .none
  | bl {b : Bool} (x : Bool) : VA j μ b (.bl x) (.bool x)
  | int {b : Bool} (i : Int) : VA j μ b (.int i) (.int i)
  | str {b : Bool} (x : Str) : VA j μ b (.str x) (.str x)
  | tup {b : Bool} {ds : List D} {ps : List PyData} : VAAll j μ b ds ps → VA j μ b (.tup ds) (.tuple ps)
  | lst {k : Nat} {ds : List D} {ps : List PyData} : k ≠ j → lstAt μ k = some ds → VAAll j μ true ds ps → VA j μ true (.ref k) (.list ps)
  | d0 {k : Nat} : k ≠ j → cell μ k = some (.dct []) → VA j μ false (.ref k) (.dict [])
  | d1 {k : Nat} {x : Str} {i : Int} : k ≠ j → cell μ k = some (.dct [(.inr x, .int i)]) → VA j μ false (.ref k) (.dict [(.str x, .int i)])
inductive VAAll (j : Nat) (μ : Sto) : Bool → List D → List PyData → Prop
  | nil {b : Bool} : VAAll j μ b [] []
  | cons {b : Bool} {d : D} {ds : List D} {p : PyData} {ps : List PyData} : VA j μ b d p → VAAll j μ b ds ps → VAAll j μ b (d :: ds) (p :: ps)
end
mutual
theorem VA.grow {j : Nat} {μ μ' : Sto} (g : Grow j μ μ') : ∀ {b : Bool} (p : PyData) {d : D}, VA j μ b d p → VA j μ' b d p
  | _, .none, _, h => by cases h; exact .non
  | _, .bool _, _, h => by cases h; exact .bl _
  | _, .int _, _, h => by cases h; exact .int _
  | _, .str _, _, h => by cases h; exact .str _
  | _, .tuple ps, _, h => by
    cases h with
    | tup h => exact .tup (VAAll.grow g ps h)
  | _, .list ps, _, h => by
    cases h with
    | lst n l h => exact .lst n (g.lst n l) (VAAll.grow g ps h)
  | _, .dict _, _, h => by
    cases h with
    | d0 n c => exact .d0 n (g.2 _ _ n c)
    | d1 n c => exact .d1 n (g.2 _ _ n c)
theorem VAAll.grow {j : Nat} {μ μ' : Sto} (g : Grow j μ μ') : ∀ {b : Bool} (ps : List PyData) {ds : List D}, VAAll j μ b ds ps → VAAll j μ' b ds ps
  | _, [], _, h => by cases h; exact .nil
  | _, p :: ps, _, h => by
    cases h with
    | cons h1 h2 => exact .cons (VA.grow g p h1) (VAAll.grow g ps h2)
end
theorem VA.ext {j : Nat} {μ μ' : Sto} {b : Bool} {d : D} {p : PyData} (e : Ext μ μ') (h : VA j μ b d p) : VA j μ' b d p := h.grow ((Grow.refl j μ).ext e)
mutual
theorem VA.py {j : Nat} {μ : Sto} : ∀ (p : PyData) {d : D}, VA j μ true d p → Py μ d p
  | .none, _, h => by cases h; exact .non
  | .bool _, _, h => by cases h; exact .bl _
  | .int _, _, h => by cases h; exact .int _
  | .str _, _, h => by cases h; exact .str _
  | .tuple ps, _, h => by
    cases h with
    | tup h => exact .tup (VAAll.py ps h)
  | .list ps, _, h => by
    cases h with
    | lst n l h => exact .ref l (VAAll.py ps h)
  | .dict _, _, h => by cases h
theorem VAAll.py {j : Nat} {μ : Sto} : ∀ (ps : List PyData) {ds : List D}, VAAll j μ true ds ps → PyAll μ ds ps
  | [], _, h => by cases h; exact .nil
  | p :: ps, _, h => by
    cases h with
    | cons h1 h2 => exact .cons (VA.py p h1) (VAAll.py ps h2)
end
mutual
theorem VA.pyT {j : Nat} {μ : Sto} : ∀ (p : PyData) {d : D}, VA j μ false d p → PyT μ d p
  | .none, _, h => by cases h; exact .non
  | .bool _, _, h => by cases h; exact .bl _
  | .int _, _, h => by cases h; exact .int _
  | .str _, _, h => by cases h; exact .str _
  | .tuple ps, _, h => by
    cases h with
    | tup h => exact .tup (VAAll.pyT ps h)
  | .list ps, _, h => by cases h
  | .dict _, _, h => by
    cases h with
    | d0 n c => exact .d0 c
    | d1 n c => exact .d1 c
theorem VAAll.pyT {j : Nat} {μ : Sto} : ∀ (ps : List PyData) {ds : List D}, VAAll j μ false ds ps → PyTAll μ ds ps
  | [], _, h => by cases h; exact .nil
  | p :: ps, _, h => by
    cases h with
    | cons h1 h2 => exact .cons (VA.pyT p h1) (VAAll.pyT ps h2)
end
theorem VA.rep {j : Nat} {μ : Sto} {b : Bool} {d : D} {p : PyData} (h : VA j μ b d p) : Py μ d p ∨ PyT μ d p := by
  cases b with
  | true => exact .inl h.py
  | false => exact .inr h.pyT
def isIntB : D → Bool
  | .int _ => true
  | .bl _ => true
  | _ => false
def isBlB : D → Bool
  | .bl _ => true
  | _ => false
def isTupB : D → Bool
  | .tup _ => true
  | _ => false
def isStrB : D → Bool
  | .str _ => true
  | _ => false
/-- the type of a value, and what isinstance says of it -/
theorem VA.ty {j : Nat} {μ : Sto} {b : Bool} {d : D} {p : PyData} (h : VA j μ b d p) : ∃ t, tyOf2 μ d = some t ∧ kitB t "int" = some (isIntB d) ∧ kitB t "bool" = some (isBlB d) ∧ kitB t "tuple" = some (isTupB d) ∧ kitB t "str" = some (isStrB d) := by
  have k1 : kitB "NoneType" "int" = some false ∧ kitB "NoneType" "bool" = some false ∧ kitB "NoneType" "tuple" = some false ∧ kitB "NoneType" "str" = some false := by decide +kernel
  have k2 : kitB "bool" "int" = some true ∧ kitB "bool" "bool" = some true ∧ kitB "bool" "tuple" = some false ∧ kitB "bool" "str" = some false := by decide +kernel
  have k3 : kitB "int" "int" = some true ∧ kitB "int" "bool" = some false ∧ kitB "int" "tuple" = some false ∧ kitB "int" "str" = some false := by decide +kernel
  have k4 : kitB "str" "int" = some false ∧ kitB "str" "bool" = some false ∧ kitB "str" "tuple" = some false ∧ kitB "str" "str" = some true := by decide +kernel
  have k5 : kitB "tuple" "int" = some false ∧ kitB "tuple" "bool" = some false ∧ kitB "tuple" "tuple" = some true ∧ kitB "tuple" "str" = some false := by decide +kernel
  have k6 : kitB "list" "int" = some false ∧ kitB "list" "bool" = some false ∧ kitB "list" "tuple" = some false ∧ kitB "list" "str" = some false := by decide +kernel
  have k7 : kitB "dict" "int" = some false ∧ kitB "dict" "bool" = some false ∧ kitB "dict" "tuple" = some false ∧ kitB "dict" "str" = some false := by decide +kernel
  cases h with
  | non => exact ⟨_, rfl, k1⟩
  | bl _ => exact ⟨_, rfl, k2⟩
  | int _ => exact ⟨_, rfl, k3⟩
  | str _ => exact ⟨_, rfl, k4⟩
  | tup _ => exact ⟨_, rfl, k5⟩
  | @lst k ds ps _ l _ =>
    refine ⟨"list", ?_, k6⟩
    unfold tyOf2
    have c := lstAt_cell l
    simp only [c, tyOf, l, Option.map_some]
  | @d0 k _ c =>
    refine ⟨"dict", ?_, k7⟩
    unfold tyOf2
    simp only [c]
  | @d1 k _ _ _ c =>
    refine ⟨"dict", ?_, k7⟩
    unfold tyOf2
    simp only [c]
def wholeB (d : D) (l m : Int) : Bool := match d with
  | .int i => decide (l ≤ i) && decide (i ≤ m)
  | _ => false
theorem VA.notInt {j : Nat} {μ : Sto} {b : Bool} {d : D} {p : PyData} (h : VA j μ b d p) : (∃ i, d = .int i) ∨ (∃ x, d = .bl x) ∨ (isIntB d = false ∧ ∀ l m, wholeB d l m = false) := by
  cases h with
  | int i => exact .inl ⟨i, rfl⟩
  | bl x => exact .inr (.inl ⟨x, rfl⟩)
  | _ => exact .inr (.inr ⟨rfl, fun _ _ => rfl⟩)
def lookB : D → Bool
  | .tup [a, c] => wholeB a 1 1000 && isBlB c
  | _ => false
theorem VA.notTup {j : Nat} {μ : Sto} {b : Bool} {d : D} {p : PyData} (h : VA j μ b d p) : (∃ ds ps, d = .tup ds ∧ p = .tuple ps ∧ VAAll j μ b ds ps) ∨ (isTupB d = false ∧ lookB d = false ∧ ∀ ds, d ≠ .tup ds) := by
  cases h with
  | tup h => exact .inl ⟨_, _, rfl, rfl, h⟩
  | _ => exact .inr ⟨rfl, rfl, fun _ z => by cases z⟩
theorem VAAll.get {j : Nat} {μ : Sto} {b : Bool} : ∀ {ds : List D} {ps : List PyData}, VAAll j μ b ds ps → ∀ d, d ∈ ds → ∃ p, p ∈ ps ∧ VA j μ b d p
  | [], _, _, _, h => by cases h
  | d :: r, _, .cons h1 h2, x, hx => by
    rcases List.mem_cons.mp hx with z | z
    · rw [z]
      exact ⟨_, List.mem_cons_self .., h1⟩
    · obtain ⟨p, a, c⟩ := VAAll.get h2 x z
      exact ⟨p, List.mem_cons_of_mem _ a, c⟩
theorem VAAll.make {j : Nat} {μ : Sto} {b : Bool} : ∀ {ds : List D}, (∀ d, d ∈ ds → ∃ p, VA j μ b d p) → ∃ ps, VAAll j μ b ds ps
  | [], _ => ⟨[], .nil⟩
  | d :: r, h => by
    obtain ⟨p, hp⟩ := h d (List.mem_cons_self ..)
    obtain ⟨ps, hr⟩ := VAAll.make fun x hx => h x (List.mem_cons_of_mem _ hx)
    exact ⟨p :: ps, .cons hp hr⟩
/-- a value that can be shown -/
def Sz (n m : Nat) (p : PyData) : Prop := p.showable = true ∧ p.depth ≤ n ∧ p.shown.length ≤ m ∧ PyData.strOk p.shown = true
def szB (n m : Nat) (p : PyData) : Bool := p.showable && (decide (p.depth ≤ n) && (decide (p.shown.length ≤ m) && PyData.strOk p.shown))
theorem sz_of {n m : Nat} {p : PyData} (h : szB n m p = true) : Sz n m p := by
  unfold szB at h
  rw [Bool.and_eq_true, Bool.and_eq_true, Bool.and_eq_true, decide_eq_true_eq, decide_eq_true_eq] at h
  exact h
/-! ### kinds among values of any kind -/
def numB : D → Bool
  | .tup [.int a, .int b] => (decide (-1000000000000000000000000000000 ≤ a) && decide (a ≤ 1000000000000000000000000000000)) && ((decide (1 ≤ b) && decide (b ≤ 1000000000000000000000000000000)) && (!decide (a = 0) && decide (((Int.gcd a b : Nat) : Int) = 1)))
  | _ => false
theorem numB_len {ds : List D} (h : ds.length ≠ 2) : numB (.tup ds) = false := by
  unfold numB
  split
  · rename_i e
    cases e
    exact absurd rfl h
  · rfl
/-! ### texts of roots -/
/-- a text with a separator in it, parted at its first place -/
theorem part_seq {x y : Str} {u v : List Nat} {c : Nat} {ys : List Nat} (e : tL x = u ++ tL y ++ v) (hy : tL y = c :: ys) (hu : c ∉ u) : Txt.partition x y = (ofC u, y, ofC v) := by
  unfold Txt.partition
  have ly : y.length = (tL y).length := tL_len y
  have lx : x.length = u.length + (tL y).length + v.length := by rw [tL_len, e, List.length_append, List.length_append]
  have atI : ∀ i, StrLaws.At x y x.length i ↔ i + y.length ≤ x.length ∧ ((tL x).drop i).take y.length = tL y := fun i => by
    unfold StrLaws.At
    rw [StrLaws.subAt_eq, beq_iff_eq]
    exact Iff.rfl
  have here : StrLaws.At x y x.length u.length := (atI _).mpr ⟨by omega, by
    rw [e, List.append_assoc, List.drop_left, ly, List.take_left]⟩
  rcases StrLaws.occ_head x y 1 (Nat.le_refl 1) with ⟨_, hn⟩ | ⟨i, r, h0, hi, hn⟩
  · exact absurd here (hn _)
  · have ei : i = u.length := by
      rcases Nat.lt_trichotomy i u.length with z | z | z
      · have h2 := ((atI i).mp hi).2
        have h3 : (((tL x).drop i).take y.length)[0]? = some c := by rw [h2, hy]; rfl
        rw [List.getElem?_take_of_lt (by rw [ly, hy]; exact Nat.succ_pos _), List.getElem?_drop, Nat.add_zero, e, List.append_assoc, List.getElem?_append_left z] at h3
        exact absurd (List.mem_of_getElem? h3) hu
      · exact z
      · exact absurd here (hn _ z)
    subst ei
    rw [h0]
    have e1 : Builtin.Str.strSub x 0 u.length = ofC u := tL_inj (by
      show (Builtin.Str.strSub x 0 u.length).cps.toList = _
      rw [StrLaws.strSub_toList, tL_ofC]
      show ((tL x).drop 0).take (u.length - 0) = u
      rw [e, List.append_assoc]
      simp)
    have e2 : Builtin.Str.strSub x (u.length + y.length) x.length = ofC v := tL_inj (by
      show (Builtin.Str.strSub x (u.length + y.length) x.length).cps.toList = _
      rw [StrLaws.strSub_toList, tL_ofC, lx]
      show ((tL x).drop (u.length + y.length)).take (_ - (u.length + y.length)) = v
      rw [e, ly, ← List.length_append, List.drop_left, List.take_of_length_le]
      rw [List.length_append]
      omega)
    show (Builtin.Str.strSub x 0 u.length, y, Builtin.Str.strSub x (u.length + y.length) x.length) = _
    rw [e1, e2]
theorem of_is : tL (Str.ofString " of ") = [32, 111, 102, 32] := by decide +kernel
theorem textR_list (n a b : Nat) : tL (textR n a b) = numC n ++ tL (Str.ofString " of ") ++ textN (a : Int) (b : Int) := by
  unfold textR
  rw [tL_app, tL_app, tL_ofC, int_text]
  have : signC (n : Int) = [] := if_neg (by omega)
  rw [this, Int.natAbs_natCast]
  rfl
theorem num_no_space (n : Nat) : 32 ∉ numC n := fun h => by
  have := numC_digits n 32 h
  omega
theorem textR_part (n a b : Nat) : Txt.partition (textR n a b) (Str.ofString " of ") = (ofC (numC n), Str.ofString " of ", ofC (textN (a : Int) (b : Int))) :=
  part_seq (textR_list n a b) (c := 32) (ys := [111, 102, 32]) of_is (num_no_space n)
theorem numC_two {n : Nat} (h : n ≤ 99) : (numC n).length ≤ 2 := numC_len (k := 2) (by decide) (by omega)

def topS (i : Nat) : Stmt := PySem.Challenge.pw_purepowers_k35_whole_texts_of_roots.main.body.getD i (.Pass ⟨0, 0, 0, 0⟩)
def memS (i j : Nat) : Stmt := match topS i with
  | .ClassDef _ _ _ body _ _ _ _ _ _ _ => body.getD j (.Pass ⟨0, 0, 0, 0⟩)
  | s => s
abbrev s_l_kind : Stmt := topS 64
theorem sc_l_kind : FnScope ["_law_e", "_law_kinds_now", "_law_words", "_law_bases", "_law_plain_ones", "_law_k"] ["_law_e"] (defScope s_l_kind) := ⟨rfl, rfl, rfl, by decide +kernel, rfl, by decide +kernel, by decide +kernel⟩
abbrev s_l_tell : Stmt := topS 63
theorem sc_l_tell : FnScope ["_law_act_now", "_law_e", "_law_found"] ["_law_act_now"] (defScope s_l_tell) := ⟨rfl, rfl, rfl, by decide +kernel, rfl, by decide +kernel, by decide +kernel⟩
abbrev s_is_between : Stmt := topS 18
theorem sc_is_between : FnScope ["value", "least", "most"] ["value", "least", "most"] (defScope s_is_between) := ⟨rfl, rfl, rfl, by decide +kernel, rfl, by decide +kernel, by decide +kernel⟩
abbrev s_is_number : Stmt := topS 19
theorem sc_is_number : FnScope ["value", "top", "bottom"] ["value"] (defScope s_is_number) := ⟨rfl, rfl, rfl, by decide +kernel, rfl, by decide +kernel, by decide +kernel⟩
abbrev s_check_number : Stmt := topS 21
theorem sc_check_number : FnScope ["number"] ["number"] (defScope s_check_number) := ⟨rfl, rfl, rfl, by decide +kernel, rfl, by decide +kernel, by decide +kernel⟩
abbrev s_number_text : Stmt := topS 26
theorem sc_number_text : FnScope ["number", "top", "bottom"] ["number"] (defScope s_number_text) := ⟨rfl, rfl, rfl, by decide +kernel, rfl, by decide +kernel, by decide +kernel⟩
abbrev s_Root_str : Stmt := memS 46 10
theorem sc_Root_str : FnScope ["self"] ["self"] (defScope s_Root_str) := ⟨rfl, rfl, rfl, by decide +kernel, rfl, by decide +kernel, by decide +kernel⟩
abbrev s_are_digits : Stmt := topS 20
theorem sc_are_digits : FnScope ["text"] ["text"] (defScope s_are_digits) := ⟨rfl, rfl, rfl, by decide +kernel, rfl, by decide +kernel, by decide +kernel⟩
abbrev s_loosely_read_numbers : Stmt := topS 28
theorem sc_loosely_read_numbers : FnScope ["text", "digits", "top", "slash", "bottom"] ["text"] (defScope s_loosely_read_numbers) := ⟨rfl, rfl, rfl, by decide +kernel, rfl, by decide +kernel, by decide +kernel⟩
abbrev s_read_number : Stmt := topS 27
theorem sc_read_number : FnScope ["text", "number"] ["text"] (defScope s_read_number) := ⟨rfl, rfl, rfl, by decide +kernel, rfl, by decide +kernel, by decide +kernel⟩
abbrev s_check_degree : Stmt := topS 22
theorem sc_check_degree : FnScope ["n", "least", "most"] ["n", "least", "most"] (defScope s_check_degree) := ⟨rfl, rfl, rfl, by decide +kernel, rfl, by decide +kernel, by decide +kernel⟩
abbrev s_power_of : Stmt := topS 34
theorem sc_power_of : FnScope ["value", "exponent", "result"] ["value", "exponent"] (defScope s_power_of) := ⟨rfl, rfl, rfl, by decide +kernel, rfl, by decide +kernel, by decide +kernel⟩
abbrev s_floor_root : Stmt := topS 35
theorem sc_floor_root : FnScope ["value", "n", "size", "root", "half", "lower"] ["value", "n"] (defScope s_floor_root) := ⟨rfl, rfl, rfl, by decide +kernel, rfl, by decide +kernel, by decide +kernel⟩
abbrev s_exact_root : Stmt := topS 36
theorem sc_exact_root : FnScope ["value", "n", "root"] ["value", "n"] (defScope s_exact_root) := ⟨rfl, rfl, rfl, by decide +kernel, rfl, by decide +kernel, by decide +kernel⟩
abbrev s_rough_root_by : Stmt := topS 33
theorem sc_rough_root_by : FnScope ["value", "n", "exponent", "prime", "modulus", "rests", "root"] ["value", "n"] (defScope s_rough_root_by) := ⟨rfl, rfl, rfl, by decide +kernel, rfl, by decide +kernel, by decide +kernel⟩
abbrev s_divided_out : Stmt := topS 32
theorem sc_divided_out : FnScope ["value", "divisor", "square", "times", "left"] ["value", "divisor"] (defScope s_divided_out) := ⟨rfl, rfl, rfl, by decide +kernel, rfl, by decide +kernel, by decide +kernel⟩
abbrev s_integer_root_by : Stmt := topS 31
theorem sc_integer_root_by : FnScope ["value", "n", "common", "powers", "rest", "root", "exponent", "times"] ["value", "n"] (defScope s_integer_root_by) := ⟨rfl, rfl, rfl, by decide +kernel, rfl, by decide +kernel, by decide +kernel⟩
abbrev s_fraction_root_by : Stmt := topS 30
theorem sc_fraction_root_by : FnScope ["top", "bottom", "n", "top_root", "top_exponent", "bottom_root", "exponent"] ["top", "bottom", "n"] (defScope s_fraction_root_by) := ⟨rfl, rfl, rfl, by decide +kernel, rfl, by decide +kernel, by decide +kernel⟩
abbrev s_Root_init : Stmt := memS 46 0
theorem sc_Root_init : FnScope ["self", "number", "n", "root", "exponent"] ["self", "number", "n"] (defScope s_Root_init) := ⟨rfl, rfl, rfl, by decide +kernel, rfl, by decide +kernel, by decide +kernel⟩
abbrev s_loosely_read_roots : Stmt := topS 50
theorem sc_loosely_read_roots : FnScope ["text", "degree", "_", "number_told"] ["text"] (defScope s_loosely_read_roots) := ⟨rfl, rfl, rfl, by decide +kernel, rfl, by decide +kernel, by decide +kernel⟩
abbrev s_root_or_none : Stmt := topS 47
theorem sc_root_or_none : FnScope ["text", "root"] ["text"] (defScope s_root_or_none) := ⟨rfl, rfl, rfl, by decide +kernel, rfl, by decide +kernel, by decide +kernel⟩
abbrev s_Root_read : Stmt := memS 46 1
theorem sc_Root_read : FnScope ["text", "root"] ["text"] (defScope s_Root_read) := ⟨rfl, rfl, rfl, by decide +kernel, rfl, by decide +kernel, by decide +kernel⟩
abbrev s_l_by_hand : Stmt := topS 74
theorem sc_l_by_hand : FnScope ["_law_bad", "_law_each", "_law_good"] [] (defScope s_l_by_hand) := ⟨rfl, rfl, rfl, by decide +kernel, rfl, by decide +kernel, by decide +kernel⟩
abbrev s_l_gcd : Stmt := topS 57
theorem sc_l_gcd : FnScope ["_law_high", "_law_low_here"] ["_law_high", "_law_low_here"] (defScope s_l_gcd) := ⟨rfl, rfl, rfl, by decide +kernel, rfl, by decide +kernel, by decide +kernel⟩
abbrev s_l_low : Stmt := topS 67
theorem sc_l_low : FnScope ["_law_exps_here", "_law_nth", "_law_both", "_law_each"] ["_law_exps_here", "_law_nth"] (defScope s_l_low) := ⟨rfl, rfl, rfl, by decide +kernel, rfl, by decide +kernel, by decide +kernel⟩
abbrev s_l_text : Stmt := topS 61
theorem sc_l_text : FnScope ["_law_fraction"] ["_law_fraction"] (defScope s_l_text) := ⟨rfl, rfl, rfl, by decide +kernel, rfl, by decide +kernel, by decide +kernel⟩
abbrev s_l_to : Stmt := topS 56
theorem sc_l_to : FnScope ["_law_base_now", "_law_count_now", "_law_found", "_law_turn"] ["_law_base_now", "_law_count_now"] (defScope s_l_to) := ⟨rfl, rfl, rfl, by decide +kernel, rfl, by decide +kernel, by decide +kernel⟩
abbrev s_l_value : Stmt := topS 65
theorem sc_l_value : FnScope ["_law_exps_here", "_law_top", "_law_bottom", "_law_prime", "_law_count_now"] ["_law_exps_here"] (defScope s_l_value) := ⟨rfl, rfl, rfl, by decide +kernel, rfl, by decide +kernel, by decide +kernel⟩
abbrev s_l_said : Stmt := topS 69
theorem sc_l_said : FnScope ["_law_rooted", "_law_exps_here", "_law_nth"] ["_law_rooted"] (defScope s_l_said) := ⟨rfl, rfl, rfl, by decide +kernel, rfl, by decide +kernel, by decide +kernel⟩
abbrev s_l_tap : Stmt := topS 54
theorem sc_l_tap : FnScope ["_law_keg", "_law_count_now", "_law_deep", "_law_digit"] ["_law_keg", "_law_count_now"] (defScope s_l_tap) := ⟨rfl, rfl, rfl, by decide +kernel, rfl, by decide +kernel, by decide +kernel⟩
abbrev s_l_of : Stmt := topS 55
theorem sc_l_of : FnScope ["_law_keg", "_law_some"] ["_law_keg", "_law_some"] (defScope s_l_of) := ⟨rfl, rfl, rfl, by decide +kernel, rfl, by decide +kernel, by decide +kernel⟩
abbrev s_l_odd : Stmt := topS 62
theorem sc_l_odd : FnScope ["_law_keg", "_law_some"] ["_law_keg"] (defScope s_l_odd) := ⟨rfl, rfl, rfl, by decide +kernel, rfl, by decide +kernel, by decide +kernel⟩
abbrev s_l_exps : Stmt := topS 66
theorem sc_l_exps : FnScope ["_law_keg", "_law_wide", "_law_turn"] ["_law_keg", "_law_wide"] (defScope s_l_exps) := ⟨rfl, rfl, rfl, by decide +kernel, rfl, by decide +kernel, by decide +kernel⟩
abbrev s_l_some_root : Stmt := topS 68
theorem sc_l_some_root : FnScope ["_law_keg"] ["_law_keg"] (defScope s_l_some_root) := ⟨rfl, rfl, rfl, by decide +kernel, rfl, by decide +kernel, by decide +kernel⟩
abbrev s_l_number_in : Stmt := topS 70
theorem sc_l_number_in : FnScope ["_law_said_here", "_law_sign"] ["_law_said_here"] (defScope s_l_number_in) := ⟨rfl, rfl, rfl, by decide +kernel, rfl, by decide +kernel, by decide +kernel⟩
abbrev s_l_primes : Stmt := topS 60
theorem sc_l_primes : FnScope ["_law_value_now", "_law_found", "_law_left", "_law_prime"] ["_law_value_now"] (defScope s_l_primes) := ⟨rfl, rfl, rfl, by decide +kernel, rfl, by decide +kernel, by decide +kernel⟩
abbrev s_l_floor : Stmt := topS 58
theorem sc_l_floor : FnScope ["_law_value_now", "_law_count_now", "_law_low_here", "_law_high", "_law_middle"] ["_law_value_now", "_law_count_now"] (defScope s_l_floor) := ⟨rfl, rfl, rfl, by decide +kernel, rfl, by decide +kernel, by decide +kernel⟩
abbrev s_l_is_power : Stmt := topS 59
theorem sc_l_is_power : FnScope ["_law_value_now", "_law_count_now"] ["_law_value_now", "_law_count_now"] (defScope s_l_is_power) := ⟨rfl, rfl, rfl, by decide +kernel, rfl, by decide +kernel, by decide +kernel⟩
abbrev s_l_is_root_text : Stmt := topS 71
theorem sc_l_is_root_text : FnScope ["_law_said_here", "_law_words", "_law_halves", "_law_top", "_law_bottom", "_law_prime", "_law_each"] ["_law_said_here"] (defScope s_l_is_root_text) := ⟨rfl, rfl, rfl, by decide +kernel, rfl, by decide +kernel, by decide +kernel⟩
abbrev s_l_bent_text : Stmt := topS 72
theorem sc_l_bent_text : FnScope ["_law_keg", "_law_said_here", "_law_words", "_law_j", "_law_way", "_law_k", "_law_fresh"] ["_law_keg", "_law_said_here"] (defScope s_l_bent_text) := ⟨rfl, rfl, rfl, by decide +kernel, rfl, by decide +kernel, by decide +kernel⟩
abbrev s_Root_eq : Stmt := memS 46 9
theorem sc_Root_eq : FnScope ["self", "other"] ["self", "other"] (defScope s_Root_eq) := ⟨rfl, rfl, rfl, by decide +kernel, rfl, by decide +kernel, by decide +kernel⟩
abbrev s_l_right : Stmt := topS 73
theorem sc_l_right : FnScope ["_law_keg", "_law_again", "_law_said_here", "_law_turn", "_law_near", "_law_told"] ["_law_keg"] (defScope s_l_right) := ⟨rfl, rfl, rfl, by decide +kernel, rfl, by decide +kernel, by decide +kernel⟩
abbrev s_l_open : Stmt := topS 53
theorem sc_l_open : FnScope ["_law_script", "_law_k", "_law_own", "_law_stir", "_law_entry"] ["_law_script", "_law_k"] (defScope s_l_open) := ⟨rfl, rfl, rfl, by decide +kernel, rfl, by decide +kernel, by decide +kernel⟩
abbrev s_law : Stmt := topS 75
theorem sc_law : FnScope ["_law_script", "_law_k"] ["_law_script"] (defScope s_law) := ⟨rfl, rfl, rfl, by decide +kernel, rfl, by decide +kernel, by decide +kernel⟩
theorem bt_ArithmeticError : bootBuiltins "ArithmeticError" = some (.type "ArithmeticError") := by decide +kernel
theorem bt_LookupError : bootBuiltins "LookupError" = some (.type "LookupError") := by decide +kernel
theorem bt_ValueError : bootBuiltins "ValueError" = some (.type "ValueError") := by decide +kernel
theorem bt_abs : bootBuiltins "abs" = some (.builtin "abs") := by decide +kernel
theorem bt_all : bootBuiltins "all" = some (.builtin "all") := by decide +kernel
theorem bt_bool : bootBuiltins "bool" = some (.type "bool") := by decide +kernel
theorem bt_divmod : bootBuiltins "divmod" = some (.builtin "divmod") := by decide +kernel
theorem bt_int : bootBuiltins "int" = some (.type "int") := by decide +kernel
theorem bt_isinstance : bootBuiltins "isinstance" = some (.builtin "isinstance") := by decide +kernel
theorem bt_len : bootBuiltins "len" = some (.builtin "len") := by decide +kernel
theorem bt_list : bootBuiltins "list" = some (.type "list") := by decide +kernel
theorem bt_max : bootBuiltins "max" = some (.builtin "max") := by decide +kernel
theorem bt_min : bootBuiltins "min" = some (.builtin "min") := by decide +kernel
theorem bt_repr : bootBuiltins "repr" = some (.builtin "repr") := by decide +kernel
theorem bt_set : bootBuiltins "set" = some (.type "set") := by decide +kernel
theorem bt_sorted : bootBuiltins "sorted" = some (.builtin "sorted") := by decide +kernel
theorem bt_str : bootBuiltins "str" = some (.type "str") := by decide +kernel
theorem bt_tuple : bootBuiltins "tuple" = some (.type "tuple") := by decide +kernel
def c_MOST_SIZE : Int := 1000000000000000000000000000000
def c_MOST_DEGREE : Int := 60
def c_SMALL_PRIMES : Int := 64266330917908644872330635228106713310880186591609208114244758680898150367880703152525200743234420230
def c_POWER_RESTS : D := .tup [.tup [.int 2, .int 240, .tup (([1, 49, 121, 169] : List Int).map D.int)], .tup [.int 3, .int 819, .tup (([1, 8, 64, 118, 125, 181, 190, 307, 512, 629, 638, 694, 701, 755, 811, 818] : List Int).map D.int)], .tup [.int 5, .int 341, .tup (([1, 32, 56, 67, 87, 98, 243, 254, 274, 285, 309, 340] : List Int).map D.int)], .tup [.int 7, .int 43, .tup (([1, 6, 7, 36, 37, 42] : List Int).map D.int)], .tup [.int 11, .int 23, .tup (([1, 22] : List Int).map D.int)], .tup [.int 13, .int 53, .tup (([1, 23, 30, 52] : List Int).map D.int)]]
def q_l_right : Str := PySem.Str.ofString "_law_right" ++ ".<locals>." ++ "<lambda>"
def q_l_by_hand : Str := PySem.Str.ofString "_law_by_hand" ++ ".<locals>." ++ "<lambda>"
def dd_check_degree : List D := [.int 1, .int 1000000000000000000000000000000]
structure Tx (K : PySem.W.Frag) (mg : Str → Option Value) where
  k_Root : ClsT K mg "Root"
  ne_Root : PySem.W.findIn K (.ref k_Root.C) "__ne__" = some (some (.builtin "object.__ne__"))
  na_Root__degree : NoAttr K k_Root.C "_degree"
  na_Root__number : NoAttr K k_Root.C "_number"
  f_l_kind : FnT K mg "_law_kind" s_l_kind ["_law_e"]
  f_l_tell : FnT K mg "_law_tell" s_l_tell ["_law_act_now"]
  f_is_between : FnT K mg "is_between" s_is_between ["value", "least", "most"]
  f_is_number : FnT K mg "is_number" s_is_number ["value"]
  f_check_number : FnT K mg "check_number" s_check_number ["number"]
  f_number_text : FnT K mg "number_text" s_number_text ["number"]
  f_Root_str : MthT K k_Root.C "__str__" "Root.__str__" s_Root_str ["self"]
  f_are_digits : FnT K mg "are_digits" s_are_digits ["text"]
  f_loosely_read_numbers : FnA K mg "loosely_read_numbers" "_loosely_read" s_loosely_read_numbers ["text"]
  f_read_number : FnT K mg "read_number" s_read_number ["text"]
  f_check_degree : FnTd K mg "check_degree" s_check_degree dd_check_degree
  f_power_of : FnT K mg "power_of" s_power_of ["value", "exponent"]
  f_floor_root : FnT K mg "floor_root" s_floor_root ["value", "n"]
  f_exact_root : FnT K mg "exact_root" s_exact_root ["value", "n"]
  f_rough_root_by : FnT K mg "_rough_root_by" s_rough_root_by ["value", "n"]
  f_divided_out : FnT K mg "divided_out" s_divided_out ["value", "divisor"]
  f_integer_root_by : FnT K mg "integer_root_by" s_integer_root_by ["value", "n"]
  f_fraction_root_by : FnT K mg "fraction_root_by" s_fraction_root_by ["top", "bottom", "n"]
  f_Root_init : MthT K k_Root.C "__init__" "Root.__init__" s_Root_init ["self", "number", "n"]
  f_loosely_read_roots : FnA K mg "loosely_read_roots" "_loosely_read" s_loosely_read_roots ["text"]
  f_root_or_none : FnT K mg "root_or_none" s_root_or_none ["text"]
  f_Root_read : StaT K k_Root.C "read" "Root.read" s_Root_read ["text"]
  f_l_by_hand : FnT K mg "_law_by_hand" s_l_by_hand []
  f_l_gcd : FnT K mg "_law_gcd" s_l_gcd ["_law_high", "_law_low_here"]
  f_l_low : FnT K mg "_law_low" s_l_low ["_law_exps_here", "_law_nth"]
  f_l_text : FnT K mg "_law_text" s_l_text ["_law_fraction"]
  f_l_to : FnT K mg "_law_to" s_l_to ["_law_base_now", "_law_count_now"]
  f_l_value : FnT K mg "_law_value" s_l_value ["_law_exps_here"]
  f_l_said : FnT K mg "_law_said" s_l_said ["_law_rooted"]
  f_l_tap : FnT K mg "_law_tap" s_l_tap ["_law_keg", "_law_count_now"]
  f_l_of : FnT K mg "_law_of" s_l_of ["_law_keg", "_law_some"]
  f_l_odd : FnT K mg "_law_odd" s_l_odd ["_law_keg"]
  f_l_exps : FnT K mg "_law_exps" s_l_exps ["_law_keg", "_law_wide"]
  f_l_some_root : FnT K mg "_law_some_root" s_l_some_root ["_law_keg"]
  f_l_number_in : FnT K mg "_law_number_in" s_l_number_in ["_law_said_here"]
  f_l_primes : FnT K mg "_law_primes" s_l_primes ["_law_value_now"]
  f_l_floor : FnT K mg "_law_floor" s_l_floor ["_law_value_now", "_law_count_now"]
  f_l_is_power : FnT K mg "_law_is_power" s_l_is_power ["_law_value_now", "_law_count_now"]
  f_l_is_root_text : FnT K mg "_law_is_root_text" s_l_is_root_text ["_law_said_here"]
  f_l_bent_text : FnT K mg "_law_bent_text" s_l_bent_text ["_law_keg", "_law_said_here"]
  f_Root_eq : MthT K k_Root.C "__eq__" "Root.__eq__" s_Root_eq ["self", "other"]
  f_l_right : FnT K mg "_law_right" s_l_right ["_law_keg"]
  f_l_open : FnT K mg "_law_open" s_l_open ["_law_script", "_law_k"]
  f_law : FnT K mg "law" s_law ["_law_script"]
  b_ArithmeticError : mg "ArithmeticError" = none
  b_LookupError : mg "LookupError" = none
  b_ValueError : mg "ValueError" = none
  b_abs : mg "abs" = none
  b_all : mg "all" = none
  b_bool : mg "bool" = none
  b_divmod : mg "divmod" = none
  b_int : mg "int" = none
  b_isinstance : mg "isinstance" = none
  b_len : mg "len" = none
  b_list : mg "list" = none
  b_max : mg "max" = none
  b_min : mg "min" = none
  b_range : mg "range" = none
  b_repr : mg "repr" = none
  b_set : mg "set" = none
  b_sorted : mg "sorted" = none
  b_str : mg "str" = none
  b_tuple : mg "tuple" = none
  b_zip : mg "zip" = none
  {t_MOST_SIZE : Tok}
  c_MOST_SIZE : mg "MOST_SIZE" = some (.int c_MOST_SIZE t_MOST_SIZE)
  {t_MOST_DEGREE : Tok}
  c_MOST_DEGREE : mg "MOST_DEGREE" = some (.int c_MOST_DEGREE t_MOST_DEGREE)
  {t_SMALL_PRIMES : Tok}
  c_SMALL_PRIMES : mg "SMALL_PRIMES" = some (.int c_SMALL_PRIMES t_SMALL_PRIMES)
  {v_POWER_RESTS : Value}
  c_POWER_RESTS : mg "POWER_RESTS" = some v_POWER_RESTS
  d_POWER_RESTS : kD K HDL.c_POWER_RESTS v_POWER_RESTS = true
  e_InvalidDegree : ErrT K mg "InvalidDegree" "given" "ValueError.__new__"
  e_InvalidNumber : ErrT K mg "InvalidNumber" "given" "ValueError.__new__"
  e_InvalidText : ErrT K mg "InvalidText" "given" "ValueError.__new__"
  n_InvalidDegree : ClsN K mg "InvalidDegree"
  n_InvalidKind : ClsN K mg "InvalidKind"
  n_InvalidLooks : ClsN K mg "InvalidLooks"
  n_InvalidNumber : ClsN K mg "InvalidNumber"
  n_InvalidRoots : ClsN K mg "InvalidRoots"
  n_InvalidText : ClsN K mg "InvalidText"
  n_NoAnswer : ClsN K mg "NoAnswer"
  n_NoNumber : ClsN K mg "NoNumber"
  n_NotARoot : ClsN K mg "NotARoot"
  n_TooGreat : ClsN K mg "TooGreat"
  n_WrongName : ClsN K mg "WrongName"
  n_WrongValue : ClsN K mg "WrongValue"
  xc_InvalidDegree : ExcC K e_InvalidDegree.C
  fc_InvalidDegree : FldC K e_InvalidDegree.C "given"
  xm0_InvalidDegree : PySem.W.exmAny K (.ref e_InvalidDegree.C) [.ref n_WrongValue.C, .ref n_WrongName.C, .ref n_NoAnswer.C] = some true
  xm1_InvalidDegree : PySem.W.exmAny K (.ref e_InvalidDegree.C) [.ref n_InvalidText.C, .ref n_InvalidNumber.C, .ref n_InvalidDegree.C] = some true
  k_InvalidDegree_ArithmeticError : PySem.W.kitOne K (.ref e_InvalidDegree.C) (.type "ArithmeticError") = some false
  k_InvalidDegree_InvalidDegree : PySem.W.kitOne K (.ref e_InvalidDegree.C) (.ref n_InvalidDegree.C) = some true
  k_InvalidDegree_InvalidKind : PySem.W.kitOne K (.ref e_InvalidDegree.C) (.ref n_InvalidKind.C) = some false
  k_InvalidDegree_InvalidLooks : PySem.W.kitOne K (.ref e_InvalidDegree.C) (.ref n_InvalidLooks.C) = some false
  k_InvalidDegree_InvalidNumber : PySem.W.kitOne K (.ref e_InvalidDegree.C) (.ref n_InvalidNumber.C) = some false
  k_InvalidDegree_InvalidRoots : PySem.W.kitOne K (.ref e_InvalidDegree.C) (.ref n_InvalidRoots.C) = some false
  k_InvalidDegree_InvalidText : PySem.W.kitOne K (.ref e_InvalidDegree.C) (.ref n_InvalidText.C) = some false
  k_InvalidDegree_LookupError : PySem.W.kitOne K (.ref e_InvalidDegree.C) (.type "LookupError") = some false
  k_InvalidDegree_NoAnswer : PySem.W.kitOne K (.ref e_InvalidDegree.C) (.ref n_NoAnswer.C) = some false
  k_InvalidDegree_NoNumber : PySem.W.kitOne K (.ref e_InvalidDegree.C) (.ref n_NoNumber.C) = some false
  k_InvalidDegree_NotARoot : PySem.W.kitOne K (.ref e_InvalidDegree.C) (.ref n_NotARoot.C) = some false
  k_InvalidDegree_TooGreat : PySem.W.kitOne K (.ref e_InvalidDegree.C) (.ref n_TooGreat.C) = some false
  k_InvalidDegree_ValueError : PySem.W.kitOne K (.ref e_InvalidDegree.C) (.type "ValueError") = some true
  k_InvalidDegree_WrongName : PySem.W.kitOne K (.ref e_InvalidDegree.C) (.ref n_WrongName.C) = some false
  k_InvalidDegree_WrongValue : PySem.W.kitOne K (.ref e_InvalidDegree.C) (.ref n_WrongValue.C) = some true
  xc_InvalidNumber : ExcC K e_InvalidNumber.C
  fc_InvalidNumber : FldC K e_InvalidNumber.C "given"
  xm0_InvalidNumber : PySem.W.exmAny K (.ref e_InvalidNumber.C) [.ref n_WrongValue.C, .ref n_WrongName.C, .ref n_NoAnswer.C] = some true
  xm1_InvalidNumber : PySem.W.exmAny K (.ref e_InvalidNumber.C) [.ref n_InvalidText.C, .ref n_InvalidNumber.C, .ref n_InvalidDegree.C] = some true
  k_InvalidNumber_ArithmeticError : PySem.W.kitOne K (.ref e_InvalidNumber.C) (.type "ArithmeticError") = some false
  k_InvalidNumber_InvalidDegree : PySem.W.kitOne K (.ref e_InvalidNumber.C) (.ref n_InvalidDegree.C) = some false
  k_InvalidNumber_InvalidKind : PySem.W.kitOne K (.ref e_InvalidNumber.C) (.ref n_InvalidKind.C) = some false
  k_InvalidNumber_InvalidLooks : PySem.W.kitOne K (.ref e_InvalidNumber.C) (.ref n_InvalidLooks.C) = some false
  k_InvalidNumber_InvalidNumber : PySem.W.kitOne K (.ref e_InvalidNumber.C) (.ref n_InvalidNumber.C) = some true
  k_InvalidNumber_InvalidRoots : PySem.W.kitOne K (.ref e_InvalidNumber.C) (.ref n_InvalidRoots.C) = some false
  k_InvalidNumber_InvalidText : PySem.W.kitOne K (.ref e_InvalidNumber.C) (.ref n_InvalidText.C) = some false
  k_InvalidNumber_LookupError : PySem.W.kitOne K (.ref e_InvalidNumber.C) (.type "LookupError") = some false
  k_InvalidNumber_NoAnswer : PySem.W.kitOne K (.ref e_InvalidNumber.C) (.ref n_NoAnswer.C) = some false
  k_InvalidNumber_NoNumber : PySem.W.kitOne K (.ref e_InvalidNumber.C) (.ref n_NoNumber.C) = some false
  k_InvalidNumber_NotARoot : PySem.W.kitOne K (.ref e_InvalidNumber.C) (.ref n_NotARoot.C) = some false
  k_InvalidNumber_TooGreat : PySem.W.kitOne K (.ref e_InvalidNumber.C) (.ref n_TooGreat.C) = some false
  k_InvalidNumber_ValueError : PySem.W.kitOne K (.ref e_InvalidNumber.C) (.type "ValueError") = some true
  k_InvalidNumber_WrongName : PySem.W.kitOne K (.ref e_InvalidNumber.C) (.ref n_WrongName.C) = some false
  k_InvalidNumber_WrongValue : PySem.W.kitOne K (.ref e_InvalidNumber.C) (.ref n_WrongValue.C) = some true
  xc_InvalidText : ExcC K e_InvalidText.C
  fc_InvalidText : FldC K e_InvalidText.C "given"
  xm0_InvalidText : PySem.W.exmAny K (.ref e_InvalidText.C) [.ref n_WrongValue.C, .ref n_WrongName.C, .ref n_NoAnswer.C] = some true
  xm1_InvalidText : PySem.W.exmAny K (.ref e_InvalidText.C) [.ref n_InvalidText.C, .ref n_InvalidNumber.C, .ref n_InvalidDegree.C] = some true
  k_InvalidText_ArithmeticError : PySem.W.kitOne K (.ref e_InvalidText.C) (.type "ArithmeticError") = some false
  k_InvalidText_InvalidDegree : PySem.W.kitOne K (.ref e_InvalidText.C) (.ref n_InvalidDegree.C) = some false
  k_InvalidText_InvalidKind : PySem.W.kitOne K (.ref e_InvalidText.C) (.ref n_InvalidKind.C) = some false
  k_InvalidText_InvalidLooks : PySem.W.kitOne K (.ref e_InvalidText.C) (.ref n_InvalidLooks.C) = some false
  k_InvalidText_InvalidNumber : PySem.W.kitOne K (.ref e_InvalidText.C) (.ref n_InvalidNumber.C) = some false
  k_InvalidText_InvalidRoots : PySem.W.kitOne K (.ref e_InvalidText.C) (.ref n_InvalidRoots.C) = some false
  k_InvalidText_InvalidText : PySem.W.kitOne K (.ref e_InvalidText.C) (.ref n_InvalidText.C) = some true
  k_InvalidText_LookupError : PySem.W.kitOne K (.ref e_InvalidText.C) (.type "LookupError") = some false
  k_InvalidText_NoAnswer : PySem.W.kitOne K (.ref e_InvalidText.C) (.ref n_NoAnswer.C) = some false
  k_InvalidText_NoNumber : PySem.W.kitOne K (.ref e_InvalidText.C) (.ref n_NoNumber.C) = some false
  k_InvalidText_NotARoot : PySem.W.kitOne K (.ref e_InvalidText.C) (.ref n_NotARoot.C) = some false
  k_InvalidText_TooGreat : PySem.W.kitOne K (.ref e_InvalidText.C) (.ref n_TooGreat.C) = some false
  k_InvalidText_ValueError : PySem.W.kitOne K (.ref e_InvalidText.C) (.type "ValueError") = some true
  k_InvalidText_WrongName : PySem.W.kitOne K (.ref e_InvalidText.C) (.ref n_WrongName.C) = some false
  k_InvalidText_WrongValue : PySem.W.kitOne K (.ref e_InvalidText.C) (.ref n_WrongValue.C) = some true
  m_l_right : MkT K "_law_right" s_l_right f_l_right.a f_l_right.fd
  m_l_by_hand : MkT K "_law_by_hand" s_l_by_hand f_l_by_hand.a f_l_by_hand.fd
  mne : m_l_right.p ≠ m_l_by_hand.p
  m_gcd : mg "gcd" = some (.builtin "math.gcd")
  m_isqrt : mg "isqrt" = some (.builtin "math.isqrt")
structure Cs where
  K : PySem.W.Frag
  c_InvalidDegree : Addr
  x_InvalidDegree : PySem.W.exmOne K (.ref c_InvalidDegree) (.ref c_InvalidDegree) = some true
  c_InvalidNumber : Addr
  x_InvalidNumber : PySem.W.exmOne K (.ref c_InvalidNumber) (.ref c_InvalidNumber) = some true
  c_InvalidText : Addr
  x_InvalidText : PySem.W.exmOne K (.ref c_InvalidText) (.ref c_InvalidText) = some true
  n_InvalidDegree : Addr
  n_InvalidKind : Addr
  n_InvalidLooks : Addr
  n_InvalidNumber : Addr
  n_InvalidRoots : Addr
  n_InvalidText : Addr
  n_NoAnswer : Addr
  n_NoNumber : Addr
  n_NotARoot : Addr
  n_TooGreat : Addr
  n_WrongName : Addr
  n_WrongValue : Addr
  xc_InvalidDegree : ExcC K c_InvalidDegree
  fc_InvalidDegree : FldC K c_InvalidDegree "given"
  xm0_InvalidDegree : PySem.W.exmAny K (.ref c_InvalidDegree) [.ref n_WrongValue, .ref n_WrongName, .ref n_NoAnswer] = some true
  xm1_InvalidDegree : PySem.W.exmAny K (.ref c_InvalidDegree) [.ref n_InvalidText, .ref n_InvalidNumber, .ref n_InvalidDegree] = some true
  k_InvalidDegree_ArithmeticError : PySem.W.kitOne K (.ref c_InvalidDegree) (.type "ArithmeticError") = some false
  k_InvalidDegree_InvalidDegree : PySem.W.kitOne K (.ref c_InvalidDegree) (.ref n_InvalidDegree) = some true
  k_InvalidDegree_InvalidKind : PySem.W.kitOne K (.ref c_InvalidDegree) (.ref n_InvalidKind) = some false
  k_InvalidDegree_InvalidLooks : PySem.W.kitOne K (.ref c_InvalidDegree) (.ref n_InvalidLooks) = some false
  k_InvalidDegree_InvalidNumber : PySem.W.kitOne K (.ref c_InvalidDegree) (.ref n_InvalidNumber) = some false
  k_InvalidDegree_InvalidRoots : PySem.W.kitOne K (.ref c_InvalidDegree) (.ref n_InvalidRoots) = some false
  k_InvalidDegree_InvalidText : PySem.W.kitOne K (.ref c_InvalidDegree) (.ref n_InvalidText) = some false
  k_InvalidDegree_LookupError : PySem.W.kitOne K (.ref c_InvalidDegree) (.type "LookupError") = some false
  k_InvalidDegree_NoAnswer : PySem.W.kitOne K (.ref c_InvalidDegree) (.ref n_NoAnswer) = some false
  k_InvalidDegree_NoNumber : PySem.W.kitOne K (.ref c_InvalidDegree) (.ref n_NoNumber) = some false
  k_InvalidDegree_NotARoot : PySem.W.kitOne K (.ref c_InvalidDegree) (.ref n_NotARoot) = some false
  k_InvalidDegree_TooGreat : PySem.W.kitOne K (.ref c_InvalidDegree) (.ref n_TooGreat) = some false
  k_InvalidDegree_ValueError : PySem.W.kitOne K (.ref c_InvalidDegree) (.type "ValueError") = some true
  k_InvalidDegree_WrongName : PySem.W.kitOne K (.ref c_InvalidDegree) (.ref n_WrongName) = some false
  k_InvalidDegree_WrongValue : PySem.W.kitOne K (.ref c_InvalidDegree) (.ref n_WrongValue) = some true
  xc_InvalidNumber : ExcC K c_InvalidNumber
  fc_InvalidNumber : FldC K c_InvalidNumber "given"
  xm0_InvalidNumber : PySem.W.exmAny K (.ref c_InvalidNumber) [.ref n_WrongValue, .ref n_WrongName, .ref n_NoAnswer] = some true
  xm1_InvalidNumber : PySem.W.exmAny K (.ref c_InvalidNumber) [.ref n_InvalidText, .ref n_InvalidNumber, .ref n_InvalidDegree] = some true
  k_InvalidNumber_ArithmeticError : PySem.W.kitOne K (.ref c_InvalidNumber) (.type "ArithmeticError") = some false
  k_InvalidNumber_InvalidDegree : PySem.W.kitOne K (.ref c_InvalidNumber) (.ref n_InvalidDegree) = some false
  k_InvalidNumber_InvalidKind : PySem.W.kitOne K (.ref c_InvalidNumber) (.ref n_InvalidKind) = some false
  k_InvalidNumber_InvalidLooks : PySem.W.kitOne K (.ref c_InvalidNumber) (.ref n_InvalidLooks) = some false
  k_InvalidNumber_InvalidNumber : PySem.W.kitOne K (.ref c_InvalidNumber) (.ref n_InvalidNumber) = some true
  k_InvalidNumber_InvalidRoots : PySem.W.kitOne K (.ref c_InvalidNumber) (.ref n_InvalidRoots) = some false
  k_InvalidNumber_InvalidText : PySem.W.kitOne K (.ref c_InvalidNumber) (.ref n_InvalidText) = some false
  k_InvalidNumber_LookupError : PySem.W.kitOne K (.ref c_InvalidNumber) (.type "LookupError") = some false
  k_InvalidNumber_NoAnswer : PySem.W.kitOne K (.ref c_InvalidNumber) (.ref n_NoAnswer) = some false
  k_InvalidNumber_NoNumber : PySem.W.kitOne K (.ref c_InvalidNumber) (.ref n_NoNumber) = some false
  k_InvalidNumber_NotARoot : PySem.W.kitOne K (.ref c_InvalidNumber) (.ref n_NotARoot) = some false
  k_InvalidNumber_TooGreat : PySem.W.kitOne K (.ref c_InvalidNumber) (.ref n_TooGreat) = some false
  k_InvalidNumber_ValueError : PySem.W.kitOne K (.ref c_InvalidNumber) (.type "ValueError") = some true
  k_InvalidNumber_WrongName : PySem.W.kitOne K (.ref c_InvalidNumber) (.ref n_WrongName) = some false
  k_InvalidNumber_WrongValue : PySem.W.kitOne K (.ref c_InvalidNumber) (.ref n_WrongValue) = some true
  xc_InvalidText : ExcC K c_InvalidText
  fc_InvalidText : FldC K c_InvalidText "given"
  xm0_InvalidText : PySem.W.exmAny K (.ref c_InvalidText) [.ref n_WrongValue, .ref n_WrongName, .ref n_NoAnswer] = some true
  xm1_InvalidText : PySem.W.exmAny K (.ref c_InvalidText) [.ref n_InvalidText, .ref n_InvalidNumber, .ref n_InvalidDegree] = some true
  k_InvalidText_ArithmeticError : PySem.W.kitOne K (.ref c_InvalidText) (.type "ArithmeticError") = some false
  k_InvalidText_InvalidDegree : PySem.W.kitOne K (.ref c_InvalidText) (.ref n_InvalidDegree) = some false
  k_InvalidText_InvalidKind : PySem.W.kitOne K (.ref c_InvalidText) (.ref n_InvalidKind) = some false
  k_InvalidText_InvalidLooks : PySem.W.kitOne K (.ref c_InvalidText) (.ref n_InvalidLooks) = some false
  k_InvalidText_InvalidNumber : PySem.W.kitOne K (.ref c_InvalidText) (.ref n_InvalidNumber) = some false
  k_InvalidText_InvalidRoots : PySem.W.kitOne K (.ref c_InvalidText) (.ref n_InvalidRoots) = some false
  k_InvalidText_InvalidText : PySem.W.kitOne K (.ref c_InvalidText) (.ref n_InvalidText) = some true
  k_InvalidText_LookupError : PySem.W.kitOne K (.ref c_InvalidText) (.type "LookupError") = some false
  k_InvalidText_NoAnswer : PySem.W.kitOne K (.ref c_InvalidText) (.ref n_NoAnswer) = some false
  k_InvalidText_NoNumber : PySem.W.kitOne K (.ref c_InvalidText) (.ref n_NoNumber) = some false
  k_InvalidText_NotARoot : PySem.W.kitOne K (.ref c_InvalidText) (.ref n_NotARoot) = some false
  k_InvalidText_TooGreat : PySem.W.kitOne K (.ref c_InvalidText) (.ref n_TooGreat) = some false
  k_InvalidText_ValueError : PySem.W.kitOne K (.ref c_InvalidText) (.type "ValueError") = some true
  k_InvalidText_WrongName : PySem.W.kitOne K (.ref c_InvalidText) (.ref n_WrongName) = some false
  k_InvalidText_WrongValue : PySem.W.kitOne K (.ref c_InvalidText) (.ref n_WrongValue) = some true
  p_l_right : Addr
  p_l_by_hand : Addr
  c_Root : Addr
def zOf {K : PySem.W.Frag} {mg : Str → Option Value} (T : Tx K mg) : Cs := { K := K, n_InvalidDegree := T.n_InvalidDegree.C, n_InvalidKind := T.n_InvalidKind.C, n_InvalidLooks := T.n_InvalidLooks.C, n_InvalidNumber := T.n_InvalidNumber.C, n_InvalidRoots := T.n_InvalidRoots.C, n_InvalidText := T.n_InvalidText.C, n_NoAnswer := T.n_NoAnswer.C, n_NoNumber := T.n_NoNumber.C, n_NotARoot := T.n_NotARoot.C, n_TooGreat := T.n_TooGreat.C, n_WrongName := T.n_WrongName.C, n_WrongValue := T.n_WrongValue.C, xc_InvalidDegree := T.xc_InvalidDegree, fc_InvalidDegree := T.fc_InvalidDegree, xm0_InvalidDegree := T.xm0_InvalidDegree, xm1_InvalidDegree := T.xm1_InvalidDegree, k_InvalidDegree_ArithmeticError := T.k_InvalidDegree_ArithmeticError, k_InvalidDegree_InvalidDegree := T.k_InvalidDegree_InvalidDegree, k_InvalidDegree_InvalidKind := T.k_InvalidDegree_InvalidKind, k_InvalidDegree_InvalidLooks := T.k_InvalidDegree_InvalidLooks, k_InvalidDegree_InvalidNumber := T.k_InvalidDegree_InvalidNumber, k_InvalidDegree_InvalidRoots := T.k_InvalidDegree_InvalidRoots, k_InvalidDegree_InvalidText := T.k_InvalidDegree_InvalidText, k_InvalidDegree_LookupError := T.k_InvalidDegree_LookupError, k_InvalidDegree_NoAnswer := T.k_InvalidDegree_NoAnswer, k_InvalidDegree_NoNumber := T.k_InvalidDegree_NoNumber, k_InvalidDegree_NotARoot := T.k_InvalidDegree_NotARoot, k_InvalidDegree_TooGreat := T.k_InvalidDegree_TooGreat, k_InvalidDegree_ValueError := T.k_InvalidDegree_ValueError, k_InvalidDegree_WrongName := T.k_InvalidDegree_WrongName, k_InvalidDegree_WrongValue := T.k_InvalidDegree_WrongValue, xc_InvalidNumber := T.xc_InvalidNumber, fc_InvalidNumber := T.fc_InvalidNumber, xm0_InvalidNumber := T.xm0_InvalidNumber, xm1_InvalidNumber := T.xm1_InvalidNumber, k_InvalidNumber_ArithmeticError := T.k_InvalidNumber_ArithmeticError, k_InvalidNumber_InvalidDegree := T.k_InvalidNumber_InvalidDegree, k_InvalidNumber_InvalidKind := T.k_InvalidNumber_InvalidKind, k_InvalidNumber_InvalidLooks := T.k_InvalidNumber_InvalidLooks, k_InvalidNumber_InvalidNumber := T.k_InvalidNumber_InvalidNumber, k_InvalidNumber_InvalidRoots := T.k_InvalidNumber_InvalidRoots, k_InvalidNumber_InvalidText := T.k_InvalidNumber_InvalidText, k_InvalidNumber_LookupError := T.k_InvalidNumber_LookupError, k_InvalidNumber_NoAnswer := T.k_InvalidNumber_NoAnswer, k_InvalidNumber_NoNumber := T.k_InvalidNumber_NoNumber, k_InvalidNumber_NotARoot := T.k_InvalidNumber_NotARoot, k_InvalidNumber_TooGreat := T.k_InvalidNumber_TooGreat, k_InvalidNumber_ValueError := T.k_InvalidNumber_ValueError, k_InvalidNumber_WrongName := T.k_InvalidNumber_WrongName, k_InvalidNumber_WrongValue := T.k_InvalidNumber_WrongValue, xc_InvalidText := T.xc_InvalidText, fc_InvalidText := T.fc_InvalidText, xm0_InvalidText := T.xm0_InvalidText, xm1_InvalidText := T.xm1_InvalidText, k_InvalidText_ArithmeticError := T.k_InvalidText_ArithmeticError, k_InvalidText_InvalidDegree := T.k_InvalidText_InvalidDegree, k_InvalidText_InvalidKind := T.k_InvalidText_InvalidKind, k_InvalidText_InvalidLooks := T.k_InvalidText_InvalidLooks, k_InvalidText_InvalidNumber := T.k_InvalidText_InvalidNumber, k_InvalidText_InvalidRoots := T.k_InvalidText_InvalidRoots, k_InvalidText_InvalidText := T.k_InvalidText_InvalidText, k_InvalidText_LookupError := T.k_InvalidText_LookupError, k_InvalidText_NoAnswer := T.k_InvalidText_NoAnswer, k_InvalidText_NoNumber := T.k_InvalidText_NoNumber, k_InvalidText_NotARoot := T.k_InvalidText_NotARoot, k_InvalidText_TooGreat := T.k_InvalidText_TooGreat, k_InvalidText_ValueError := T.k_InvalidText_ValueError, k_InvalidText_WrongName := T.k_InvalidText_WrongName, k_InvalidText_WrongValue := T.k_InvalidText_WrongValue, c_InvalidDegree := T.e_InvalidDegree.C, x_InvalidDegree := T.e_InvalidDegree.x, c_InvalidNumber := T.e_InvalidNumber.C, x_InvalidNumber := T.e_InvalidNumber.x, c_InvalidText := T.e_InvalidText.C, x_InvalidText := T.e_InvalidText.x, p_l_right := T.m_l_right.p, p_l_by_hand := T.m_l_by_hand.p, c_Root := T.k_Root.C }
def mks {K : PySem.W.Frag} {mg : Str → Option Value} (T : Tx K mg) : List HD.Maker := [T.m_l_right.mk q_l_right, T.m_l_by_hand.mk q_l_by_hand]

def g0_0 {α : Type} : List α → List α → List α
  | [], [w0] => [w0]
  | _, _ => []
theorem gall_g0_0 : GAll 0 1 g0_0 := by
  intro K ι H ds es vs zs l1 l2 h1 h2
  match ds, l1, h1, es, l2, h2 with
  | [], _, h1, [w0], _, h2 =>
    have e1 : vs = [] := h1
    obtain ⟨y0, e2, iy0⟩ := isAll1 h2
    subst e1 e2
    exact ⟨_, _, rfl, iy0, rfl⟩
theorem bd_check_degree_3 {K : PySem.W.Frag} {f : Addr} {fd : FuncData} (F : FunDf K "check_degree" "check_degree" s_check_degree dd_check_degree f fd) : BdD K fd ["n", "least", "most"] (dd_check_degree.drop 2) :=
  bdD_of F 3 2 rfl fun T kV doc pm an cdv ct us its l1 (l2 : its.length = 2) => match us, l1, its, l2 with
    | [_, _, _], _, [_, _], _ => ⟨_, rfl, rfl⟩
theorem kb_Root_read_g0_0t {K : PySem.W.Frag} {f : Addr} {fd : FuncData} (F : Fun K "read" "Root.read" s_Root_read f fd) : KBd K fd ["text"] ["text"] 0 g0_0 := by
  refine kbd_of F (fun kV doc pm an cdv ct us ws l1 l2 => ?_) (fun l1 l2 r1 r2 => ?_)
  · match us, l1, ws, l2 with
    | [], _, [_], _ => rfl
  · rename_i vs us zs ws
    match vs, l1, us, r1, zs, l2, ws, r2 with
    | [], _, [], .nil, [_], _, [_], .cons b0 .nil =>
      exact .cons b0 .nil

/-! what is told of an error: InvalidText:given are raised here -/
def ShowsX (μ : Sto) (x : D) (p : PyData) : Prop := (∀ μ', Ext μ μ' → Py μ' x p ∨ PyT μ' x p) ∧ p.showable = true ∧ p.depth ≤ 60 ∧ p.shown.length ≤ sizeLine
def sp_l_kind (Z : Cs) (a : Addr) (cls : Value) (d : Option Addr) : SpD := fun ds μ P _ => (∃ (dx : Addr) (x : D) (p : PyData), ds = [.exc a Z.c_InvalidText dx ["given"] [x]] ∧ cls = .ref Z.c_InvalidText ∧ d = some dx ∧ ShowsX μ x p ∧ ∀ (i : Nat) μ', Ext μ μ' → lstAt μ' i = some [.str "error", .str "InvalidText", .str p.shown] → P (.ref i) μ')
theorem len_l_kind (Z : Cs) (a : Addr) (cls : Value) (d : Option Addr) : ∀ ds μ Pd R, sp_l_kind Z a cls d ds μ Pd R → ds.length = 1 := fun ds μ Pd R h => by
  rcases h with ⟨_, _, _, e, _⟩ <;> rw [e] <;> rfl
def T_l_kind (Z : Cs) (a : Addr) (cls : Value) (d : Option Addr) : WS :=
  (wSeq (wIfS (wOr (wB (wOp wNe (wCntB (wVar 1) (wC (.bl true))) (wC (.int 1)))) (wB (wOp wNe (wVar 3) (wVar 4)))) (wRet (wLst (wCons (wC (.str "error")) (wCons (wC (.str "another")) (wCons (wC (.str "")) wNil))))) wNext)
  (wSeq (wAsg (wIdxB (wVar 1) (wC (.bl true))) (wgName 5))
  (wSeq (wIfS (wB (wOp wNe (wVar 3) (wLst (wCons (wOp wLt (wVar 5) (wC (.int 7))) (wCons (wC (.bl false)) (wCons (wOp wGt (wVar 5) (wC (.int 6))) wNil)))))) (wRet (wLst (wCons (wC (.str "error")) (wCons (wC (.str "another")) (wCons (wC (.str "")) wNil))))) wNext)
  (wSeq (wIfS (wB (wOp wEq (wVar 5) (wC (.int 7)))) (wRet (wLst (wCons (wC (.str "error")) (wCons (wOp wIx (wVar 2) (wVar 5)) (wCons (wC (.str "")) wNil))))) wNext)
  (wRet (wLst (wCons (wC (.str "error")) (wCons (wOp wIx (wVar 2) (wVar 5)) (wCons (wCB wRepr3 (wCons (wIf (wB (wOp wIn (wVar 5) (wLst (wCons (wC (.int 5)) (wCons (wC (.int 6)) wNil))))) (wFldE Z.K "index" a cls d (wVar 0)) (wFldE Z.K "given" a cls d (wVar 0))) wNil)) wNil)))))))))
theorem is_InvalidText {Z : Cs} {a dx : Addr} {x : D} {t : D} {cv : Value} {b : Bool} {μ : Sto} {P : D → Sto → Prop} (hc : clsOf t = some cv) (hk : PySem.W.kitOne Z.K (.ref Z.c_InvalidText) cv = some b) (k : P (.bl b) μ) :
    wIsE Z.K a (.ref Z.c_InvalidText) (some dx) [(.exc a Z.c_InvalidText dx ["given"] [x]), t] μ P := by
  exact ⟨Z.c_InvalidText, rfl, ⟨_, _, rfl⟩, Z.xc_InvalidText, cv, b, hc, hk, k⟩
theorem rest_InvalidText {Z : Cs} {a dx : Addr} {x : D} {p : PyData} {μ : Sto} {R : XD} {E : EndsD} {i1 i2 i3 i4 : Nat} (hx : ShowsX μ x p) 
    (l1 : lstAt μ i1 = some ([true, false, false, false, false, false, false, false, false].map D.bl)) (l2 : lstAt μ i2 = some [.str "InvalidText", .str "InvalidNumber", .str "InvalidDegree", .str "InvalidKind", .str "NotARoot", .str "InvalidLooks", .str "InvalidRoots", .str "NoNumber", .str "TooGreat"])
    (l3 : lstAt μ i3 = some [.bl true, .bl false, .bl false]) (l4 : lstAt μ i4 = some [.bl true, .bl false, .bl false])
    (k : ∀ (i : Nat) μ', Ext μ μ' → lstAt μ' i = some [.str "error", .str "InvalidText", .str p.shown] → E.rt (.ref i) μ') :
    T_l_kind Z a (.ref Z.c_InvalidText) (some dx) R E [some (.exc a Z.c_InvalidText dx ["given"] [x]), some (.ref i1), some (.ref i2), some (.ref i3), some (.ref i4), none] μ := by
  unfold T_l_kind
  walk_at "hd"
  simp only [wCntB, wIdxB]
  walk_at "hd"
  refine ⟨⟨_, l1⟩, _, l1, ?_⟩
  rw [show decide (((List.count true [true, false, false, false, false, false, false, false, false] : Nat) : Int) = 1) = true from by decide]
  simp only [Bool.not_true]
  refine ⟨.list [.bool true, .bool false, .bool false], .list [.bool true, .bool false, .bool false], .ref l3 (.cons (.bl _) (.cons (.bl _) (.cons (.bl _) .nil))), .ref l4 (.cons (.bl _) (.cons (.bl _) (.cons (.bl _) .nil))), by rfl, by rfl, ?_⟩
  rw [show PyData.eqv (.list [.bool true, .bool false, .bool false]) (.list [.bool true, .bool false, .bool false]) = true from rfl]
  simp only [Bool.not_true]
  refine ⟨⟨_, l1⟩, _, 0, l1, rfl, by decide, by decide, ?_⟩
  rw [show decide (((0 : Nat) : Int) < 7) = true from by decide, show decide ((6 : Int) < ((0 : Nat) : Int)) = false from by decide]
  refine ⟨.list [.bool true, .bool false, .bool false], .list [.bool true, .bool false, .bool false], .ref ((Ext.app _ _).lst l3) (.cons (.bl _) (.cons (.bl _) (.cons (.bl _) .nil))), .ref (lst_new _ _) (.cons (.bl _) (.cons (.bl _) (.cons (.bl _) .nil))), by rfl, by rfl, ?_⟩
  rw [show PyData.eqv (.list [.bool true, .bool false, .bool false]) (.list [.bool true, .bool false, .bool false]) = true from rfl]
  simp only [Bool.not_true]
  rw [show decide (((0 : Nat) : Int) = 7) = false from by decide]
  simp only []
  have aq : atI [D.str "InvalidText", .str "InvalidNumber", .str "InvalidDegree", .str "InvalidKind", .str "NotARoot", .str "InvalidLooks", .str "InvalidRoots", .str "NoNumber", .str "TooGreat"] ((0 : Nat) : Int) = some (.str "InvalidText") := atI_nat (j := 0) rfl
  simp only [(Ext.app μ [O.lst [D.bl true, D.bl false, D.bl false]]).lst l2, aq]
  refine ⟨by decide, ?_⟩
  simp only [wIn]
  refine ⟨.int ((0 : Nat) : Int), [.int 5, .int 6], .int _, .ref (lst_new _ _) (.cons (.int 5) (.cons (.int 6) .nil)), by rfl, by rfl, ?_⟩
  rw [show ([PyData.int 5, .int 6].any fun z => PyData.eqv z (.int ((0 : Nat) : Int))) = false from rfl]
  simp only [wFldE]
  walk_at "hd"
  refine ⟨Z.fc_InvalidText, ?_⟩
  simp only [HD.wRepr3]
  try walk_at "hd"
  obtain ⟨hp, s1, s2, s3⟩ := hx
  refine ⟨p, hp _ ((Ext.app _ _).trans (Ext.app _ _)), s1, s2, s3, ?_⟩
  exact ⟨by decide, k _ _ (((Ext.app _ _).trans (Ext.app _ _)).trans (Ext.app _ _)) (lst_new _ _)⟩
def W_l_kind (Z : Cs) (a : Addr) (cls : Value) (d : Option Addr) : WS :=
  (wSeq (wAsg (wLst (wCons (wCB (wIsE Z.K a cls d) (wCons (wVar 0) (wCons (wC (.adr Z.n_InvalidText)) wNil))) (wCons (wCB (wIsE Z.K a cls d) (wCons (wVar 0) (wCons (wC (.adr Z.n_InvalidNumber)) wNil))) (wCons (wCB (wIsE Z.K a cls d) (wCons (wVar 0) (wCons (wC (.adr Z.n_InvalidDegree)) wNil))) wNil)))) (wgName 1))
  (wSeq (wAsg (wOp wAdd (wVar 1) (wLst (wCons (wCB (wIsE Z.K a cls d) (wCons (wVar 0) (wCons (wC (.adr Z.n_InvalidKind)) wNil))) (wCons (wCB (wIsE Z.K a cls d) (wCons (wVar 0) (wCons (wC (.adr Z.n_NotARoot)) wNil))) (wCons (wCB (wIsE Z.K a cls d) (wCons (wVar 0) (wCons (wC (.adr Z.n_InvalidLooks)) wNil))) wNil))))) (wgName 1))
  (wSeq (wAsg (wOp wAdd (wVar 1) (wLst (wCons (wCB (wIsE Z.K a cls d) (wCons (wVar 0) (wCons (wC (.adr Z.n_InvalidRoots)) wNil))) (wCons (wCB (wIsE Z.K a cls d) (wCons (wVar 0) (wCons (wC (.adr Z.n_NoNumber)) wNil))) (wCons (wCB (wIsE Z.K a cls d) (wCons (wVar 0) (wCons (wC (.adr Z.n_TooGreat)) wNil))) wNil))))) (wgName 1))
  (wSeq (wAsg (wLst (wCons (wC (.str "InvalidText")) (wCons (wC (.str "InvalidNumber")) (wCons (wC (.str "InvalidDegree")) (wCons (wC (.str "InvalidKind")) (wCons (wC (.str "NotARoot")) (wCons (wC (.str "InvalidLooks")) wNil))))))) (wgName 2))
  (wSeq (wAsg (wOp wAdd (wVar 2) (wLst (wCons (wC (.str "InvalidRoots")) (wCons (wC (.str "NoNumber")) (wCons (wC (.str "TooGreat")) wNil))))) (wgName 2))
  (wSeq (wAsg (wLst (wCons (wCB (wIsE Z.K a cls d) (wCons (wVar 0) (wCons (wC (.adr Z.n_WrongValue)) wNil))) (wCons (wCB (wIsE Z.K a cls d) (wCons (wVar 0) (wCons (wC (.adr Z.n_WrongName)) wNil))) (wCons (wCB (wIsE Z.K a cls d) (wCons (wVar 0) (wCons (wC (.adr Z.n_NoAnswer)) wNil))) wNil)))) (wgName 3))
  (wSeq (wAsg (wLst (wCons (wCB (wIsE Z.K a cls d) (wCons (wVar 0) (wCons (wC (.ty "ValueError")) wNil))) (wCons (wCB (wIsE Z.K a cls d) (wCons (wVar 0) (wCons (wC (.ty "LookupError")) wNil))) (wCons (wCB (wIsE Z.K a cls d) (wCons (wVar 0) (wCons (wC (.ty "ArithmeticError")) wNil))) wNil)))) (wgName 4))
  (wSeq (wIfS (wOr (wB (wOp wNe (wCntB (wVar 1) (wC (.bl true))) (wC (.int 1)))) (wB (wOp wNe (wVar 3) (wVar 4)))) (wRet (wLst (wCons (wC (.str "error")) (wCons (wC (.str "another")) (wCons (wC (.str "")) wNil))))) wNext)
  (wSeq (wAsg (wIdxB (wVar 1) (wC (.bl true))) (wgName 5))
  (wSeq (wIfS (wB (wOp wNe (wVar 3) (wLst (wCons (wOp wLt (wVar 5) (wC (.int 7))) (wCons (wC (.bl false)) (wCons (wOp wGt (wVar 5) (wC (.int 6))) wNil)))))) (wRet (wLst (wCons (wC (.str "error")) (wCons (wC (.str "another")) (wCons (wC (.str "")) wNil))))) wNext)
  (wSeq (wIfS (wB (wOp wEq (wVar 5) (wC (.int 7)))) (wRet (wLst (wCons (wC (.str "error")) (wCons (wOp wIx (wVar 2) (wVar 5)) (wCons (wC (.str "")) wNil))))) wNext)
  (wRet (wLst (wCons (wC (.str "error")) (wCons (wOp wIx (wVar 2) (wVar 5)) (wCons (wCB wRepr3 (wCons (wIf (wB (wOp wIn (wVar 5) (wLst (wCons (wC (.int 5)) (wCons (wC (.int 6)) wNil))))) (wFldE Z.K "index" a cls d (wVar 0)) (wFldE Z.K "given" a cls d (wVar 0))) wNil)) wNil))))))))))))))))
theorem case_InvalidText {Z : Cs} {a dx : Addr} {x : D} {p : PyData} {μ : Sto} {R : XD} {E : EndsD} (hx : ShowsX μ x p) (k : ∀ (i : Nat) μ', Ext μ μ' → lstAt μ' i = some [.str "error", .str "InvalidText", .str p.shown] → E.rt (.ref i) μ') : W_l_kind Z a (.ref Z.c_InvalidText) (some dx) R E [some (.exc a Z.c_InvalidText dx ["given"] [x]), none, none, none, none, none] μ := by
  have e : W_l_kind Z a (.ref Z.c_InvalidText) (some dx) = wSeq _ (wSeq _ (wSeq _ (wSeq _ (wSeq _ (wSeq _ (wSeq _ (T_l_kind Z a (.ref Z.c_InvalidText) (some dx)))))))) := rfl
  rw [e]
  walk_at "hd"
  refine is_InvalidText rfl Z.k_InvalidText_InvalidText ?_
  refine is_InvalidText rfl Z.k_InvalidText_InvalidNumber ?_
  refine is_InvalidText rfl Z.k_InvalidText_InvalidDegree ?_
  refine ⟨by decide, ?_⟩
  refine is_InvalidText rfl Z.k_InvalidText_InvalidKind ?_
  refine is_InvalidText rfl Z.k_InvalidText_NotARoot ?_
  refine is_InvalidText rfl Z.k_InvalidText_InvalidLooks ?_
  refine ⟨by decide, _, _, (Ext.app _ _).lst (lst_new _ _), lst_new _ _, by decide, ?_⟩
  refine is_InvalidText rfl Z.k_InvalidText_InvalidRoots ?_
  refine is_InvalidText rfl Z.k_InvalidText_NoNumber ?_
  refine is_InvalidText rfl Z.k_InvalidText_TooGreat ?_
  refine ⟨by decide, _, _, (Ext.app _ _).lst (lst_new _ _), lst_new _ _, by decide, ?_⟩
  refine ⟨by decide, by decide, _, _, (Ext.app _ _).lst (lst_new _ _), lst_new _ _, by decide, ?_⟩
  refine is_InvalidText rfl Z.k_InvalidText_WrongValue ?_
  refine is_InvalidText rfl Z.k_InvalidText_WrongName ?_
  refine is_InvalidText rfl Z.k_InvalidText_NoAnswer ?_
  refine ⟨by decide, ?_⟩
  refine is_InvalidText rfl Z.k_InvalidText_ValueError ?_
  refine is_InvalidText rfl Z.k_InvalidText_LookupError ?_
  refine is_InvalidText rfl Z.k_InvalidText_ArithmeticError ?_
  refine ⟨by decide, ?_⟩
  have up : ∀ {ν : Sto} {o : O} {i : Nat} {xs : List D}, lstAt ν i = some xs → lstAt (ν ++ [o]) i = some xs := fun h => (Ext.app _ _).lst h
  obtain ⟨hp, hs⟩ := hx
  refine rest_InvalidText ⟨fun μ' e => hp μ' (Ext.trans ?_ e), hs⟩ (up (up (up (up (up (lst_new _ _)))))) (up (up (lst_new _ _))) (up (lst_new _ _)) (lst_new _ _) fun i μ' e h => k i μ' (Ext.trans ?_ e) h
  all_goals repeat (first | exact Ext.app _ _ | refine Ext.trans ?_ (Ext.app _ _))
theorem vc_l_kind (Z : Cs) (a : Addr) (cls : Value) (d : Option Addr) : ∀ ds μ Pd R, sp_l_kind Z a cls d ds μ Pd R → W_l_kind Z a cls d (fun _ C fs μ' => R C fs μ') { nx := fun _ μ' => Pd .non μ', rt := Pd } (startD 6 ds) μ := by
  intro ds μ Pd R h
  rcases h with ⟨dx, x, p, rfl, rfl, rfl, hx, k⟩
  · exact case_InvalidText hx k

/-! what a call tells (its condition is proved where it is called) -/
def W_l_tell (Z : Cs) (wact : WE) : WS :=
  (wSeq (wTryAs3 Z.K [.ref Z.n_WrongValue, .ref Z.n_WrongName, .ref Z.n_NoAnswer] 1 (wAsg wact (wgName 2)) (fun a cls d => (wRet (wCall (sp_l_kind Z a cls d) (wCons (wVar 1) wNil)))))
  (wRet (wLst (wCons (wC (.str "told")) (wCons (wVar 2) wNil)))))

/-! whether a value is an int between two -/
def sp_is_between : SpD := fun ds μ P _ => ∃ (d : D) (l m : Int) (j : Nat) (b : Bool) (p : PyData), ds = [d, .int l, .int m] ∧ VA j μ b d p ∧ P (.bl (wholeB d l m)) μ
theorem len_is_between : ∀ ds μ Pd R, sp_is_between ds μ Pd R → ds.length = 3 := fun ds μ Pd R ⟨i, l, m, _, _, _, e, _⟩ => by rw [e] <;> rfl
def W_is_between : WS :=
  (wSeq (wIfS (wOr (wNot (wTruth (wCB (wIsi2 "int") (wCons (wVar 0) (wCons (wC (.ty "int")) wNil))))) (wTruth (wCB (wIsi2 "bool") (wCons (wVar 0) (wCons (wC (.ty "bool")) wNil))))) (wRet (wC (.bl false))) wNext)
  (wRet (wChain wLe wLe (wVar 1) (wVar 0) (wVar 2))))
theorem vc_is_between : ∀ ds μ Pd R, sp_is_between ds μ Pd R → W_is_between (fun _ C fs μ' => R C fs μ') { nx := fun _ μ' => Pd .non μ', rt := Pd } (startD 3 ds) μ := by
  intro ds μ Pd R h
  obtain ⟨d, l, m, j, b, p, rfl, hv, k⟩ := h
  obtain ⟨t, ht, k1, k2, _⟩ := hv.ty
  unfold W_is_between
  walk_at "hd"
  refine ⟨t, _, ht, k1, ?_⟩
  rcases hv.notInt with ⟨i, rfl⟩ | ⟨x, rfl⟩ | ⟨hi, hw⟩
  · simp only [isIntB, Bool.not_true]
    refine ⟨t, _, ht, k2, ?_⟩
    simp only [isBlB]
    unfold wholeB at k
    cases c : decide (l ≤ i) with
    | true =>
      simp only []
      simp only [c, Bool.true_and] at k
      exact k
    | false =>
      simp only []
      simp only [c, Bool.false_and] at k
      exact k
  · simp only [isIntB, Bool.not_true]
    refine ⟨t, _, ht, k2, ?_⟩
    simp only [isBlB]
    exact k
  · rw [hi]
    simp only [Bool.not_false]
    rw [hw] at k
    exact k

/-! whether a value is a number -/
def sp_is_number : SpD := fun ds μ P _ => ∃ (d : D) (j : Nat) (b : Bool) (p : PyData), ds = [d] ∧ VA j μ b d p ∧ P (.bl (numB d)) μ
theorem len_is_number : ∀ ds μ Pd R, sp_is_number ds μ Pd R → ds.length = 1 := fun ds μ Pd R ⟨i, _, _, _, e, _⟩ => by rw [e] <;> rfl
def W_is_number : WS :=
  (wSeq (wIfS (wOr (wNot (wTruth (wCB (wIsi2 "tuple") (wCons (wVar 0) (wCons (wC (.ty "tuple")) wNil))))) (wB (wOp wNe (wCB wLen (wCons (wVar 0) wNil)) (wC (.int 2))))) (wRet (wC (.bl false))) wNext)
  (wSeq (wAsg (wVar 0) (wgTup 2 (wgCons (wgName 1) (wgCons (wgName 2) wgEnd))))
  (wSeq (wIfS (wOr (wNot (wTruth (wCall sp_is_between (wCons (wVar 1) (wCons (wNeg (wC (.int c_MOST_SIZE))) (wCons (wC (.int c_MOST_SIZE)) wNil)))))) (wNot (wTruth (wCall sp_is_between (wCons (wVar 2) (wCons (wC (.int 1)) (wCons (wC (.int c_MOST_SIZE)) wNil))))))) (wRet (wC (.bl false))) wNext)
  (wRet (wAndV (wOp wNe (wVar 1) (wC (.int 0))) (wOp wEq (wCB wGcd (wCons (wVar 1) (wCons (wVar 2) wNil))) (wC (.int 1))))))))
theorem vc_is_number : ∀ ds μ Pd R, sp_is_number ds μ Pd R → W_is_number (fun _ C fs μ' => R C fs μ') { nx := fun _ μ' => Pd .non μ', rt := Pd } (startD 3 ds) μ := by
  intro ds μ Pd R h
  obtain ⟨d, j, b, p, rfl, hv, k⟩ := h
  obtain ⟨t, ht, _, _, k3, _⟩ := hv.ty
  unfold W_is_number
  walk_at "hd"
  refine ⟨t, _, ht, k3, ?_⟩
  rcases hv.notTup with ⟨ds, ps, rfl, rfl, hs⟩ | ⟨hi, _, no⟩
  · simp only [isTupB, Bool.not_true]
    refine ⟨ds.length, rfl, ?_⟩
    by_cases c : ds.length = 2
    · match ds, c, ps, hs with
      | [s, q], _, _, .cons (p := pS) hS (.cons (p := pQ) hQ .nil) =>
        rw [show decide (((List.length [s, q] : Nat) : Int) = 2) = true from by simp]
        simp only [Bool.not_true]
        try walk_at "hd"
        refine ⟨s, -c_MOST_SIZE, c_MOST_SIZE, j, b, pS, rfl, hS, ?_⟩
        have e1 : wholeB s (-c_MOST_SIZE) c_MOST_SIZE = wholeB s (-1000000000000000000000000000000) 1000000000000000000000000000000 := rfl
        rw [e1]
        have bad1 : wholeB s (-1000000000000000000000000000000) 1000000000000000000000000000000 = false → numB (.tup [s, q]) = false := fun z => by
          cases s with
          | int i =>
            cases q with
            | int m =>
              have z' : (decide (-1000000000000000000000000000000 ≤ i) && decide (i ≤ 1000000000000000000000000000000)) = false := z
              show ((decide (-1000000000000000000000000000000 ≤ i) && decide (i ≤ 1000000000000000000000000000000)) && _) = false
              rw [z', Bool.false_and]
            | _ => rfl
          | _ => rfl
        cases c1 : wholeB s (-1000000000000000000000000000000) 1000000000000000000000000000000 with
        | false =>
          simp only [Bool.not_false]
          rw [bad1 c1] at k
          exact k
        | true =>
          simp only [Bool.not_true]
          obtain ⟨a, rfl⟩ : ∃ a, s = .int a := by
            cases s with
            | int i => exact ⟨i, rfl⟩
            | _ => cases c1
          refine ⟨q, 1, c_MOST_SIZE, j, b, pQ, rfl, hQ, ?_⟩
          have e2 : wholeB q 1 c_MOST_SIZE = wholeB q 1 1000000000000000000000000000000 := rfl
          rw [e2]
          have bad2 : wholeB q 1 1000000000000000000000000000000 = false → numB (.tup [.int a, q]) = false := fun z => by
            cases q with
            | int m =>
              have z' : (decide (1 ≤ m) && decide (m ≤ 1000000000000000000000000000000)) = false := z
              show ((decide (-1000000000000000000000000000000 ≤ a) && decide (a ≤ 1000000000000000000000000000000)) && ((decide (1 ≤ m) && decide (m ≤ 1000000000000000000000000000000)) && _)) = false
              rw [z', Bool.false_and, Bool.and_false]
            | _ => rfl
          cases c2 : wholeB q 1 1000000000000000000000000000000 with
          | false =>
            simp only [Bool.not_false]
            rw [bad2 c2] at k
            exact k
          | true =>
            simp only [Bool.not_true]
            obtain ⟨m, rfl⟩ : ∃ m, q = .int m := by
              cases q with
              | int i => exact ⟨i, rfl⟩
              | _ => cases c2
            have ek : numB (.tup [.int a, .int m]) = (!decide (a = 0) && decide (((Int.gcd a m : Nat) : Int) = 1)) := by
              show (wholeB (.int a) (-1000000000000000000000000000000) 1000000000000000000000000000000 && (wholeB (.int m) 1 1000000000000000000000000000000 && _)) = _
              rw [c1, c2, Bool.true_and, Bool.true_and]
            rw [ek] at k
            cases c3 : decide (a = 0) with
            | true =>
              rw [c3, Bool.not_true, Bool.false_and] at k
              exact k
            | false =>
              rw [c3, Bool.not_false, Bool.true_and] at k
              exact k
    · rw [decide_eq_false (by omega)]
      simp only [Bool.not_false]
      rw [numB_len c] at k
      exact k
  · rw [hi]
    simp only [Bool.not_false]
    have e : numB d = false := by
      cases d with
      | tup ds => exact absurd rfl (no ds)
      | _ => rfl
    rw [e] at k
    exact k

/-! InvalidNumber for what is no number -/
def sp_check_number (Z : Cs) : SpD := fun ds μ P R => ∃ (d : D) (j : Nat) (b : Bool) (p : PyData), ds = [d] ∧ VA j μ b d p ∧ (numB d = false → R Z.c_InvalidNumber [("given", d)] μ) ∧ (numB d = true → P .non μ)
theorem len_check_number (Z : Cs) : ∀ ds μ Pd R, sp_check_number Z ds μ Pd R → ds.length = 1 := fun ds μ Pd R ⟨i, _, _, _, e, _⟩ => by rw [e] <;> rfl
def W_check_number (Z : Cs) : WS :=
  (wIfS (wNot (wTruth (wCall sp_is_number (wCons (wVar 0) wNil)))) (wRaise Z.c_InvalidNumber "given" (wCons (wVar 0) wNil)) wNext)
theorem vc_check_number (Z : Cs) : ∀ ds μ Pd R, sp_check_number Z ds μ Pd R → W_check_number Z (fun _ C fs μ' => R C fs μ') { nx := fun _ μ' => Pd .non μ', rt := Pd } (startD 1 ds) μ := by
  intro ds μ Pd R h
  obtain ⟨d, j, b, p, rfl, hv, kR, k⟩ := h
  unfold W_check_number
  walk_at "hd"
  refine ⟨d, j, b, p, rfl, hv, ?_⟩
  simp only [wRaise]
  walk_at "hd"
  cases c : numB d with
  | true => exact k c
  | false => exact kR c

/-! the text of a number -/
theorem numB_yes {a b : Int} (h : IsNum a b) : numB (.tup [.int a, .int b]) = true := by
  obtain ⟨g1, g2, g3, g4, g5⟩ := h
  show ((decide (-1000000000000000000000000000000 ≤ a) && decide (a ≤ 1000000000000000000000000000000)) && ((decide (1 ≤ b) && decide (b ≤ 1000000000000000000000000000000)) && (!decide (a = 0) && decide (((Int.gcd a b : Nat) : Int) = 1)))) = true
  rw [g3, decide_eq_true (by omega), decide_eq_true (by omega), decide_eq_true g2, decide_eq_true g5, decide_eq_false g1]
  rfl
def sp_number_text (Z : Cs) : SpD := fun ds μ P _ => ∃ a b : Int, ds = [.tup [.int a, .int b]] ∧ IsNum a b ∧ P (.str (ofC (textN a b))) μ
theorem len_number_text (Z : Cs) : ∀ ds μ Pd R, sp_number_text Z ds μ Pd R → ds.length = 1 := fun ds μ Pd R ⟨i, l, e, _⟩ => by rw [e] <;> rfl
def W_number_text (Z : Cs) : WS :=
  (wSeq (wDrop (wCall (sp_check_number Z) (wCons (wVar 0) wNil)))
  (wSeq (wAsg (wVar 0) (wgTup 2 (wgCons (wgName 1) (wgCons (wgName 2) wgEnd))))
  (wSeq (wIfS (wB (wOp wEq (wVar 2) (wC (.int 1)))) (wRet (wCB wStrI (wCons (wVar 1) wNil))) wNext)
  (wRet (wJoined [(wFmt (wVar 1)), (wC (.str "/")), (wFmt (wVar 2))])))))
theorem vc_number_text (Z : Cs) : ∀ ds μ Pd R, sp_number_text Z ds μ Pd R → W_number_text Z (fun _ C fs μ' => R C fs μ') { nx := fun _ μ' => Pd .non μ', rt := Pd } (startD 3 ds) μ := by
  intro ds μ Pd R h
  obtain ⟨a, b, rfl, hn, k⟩ := h
  have hn' := hn
  obtain ⟨h1, h2, h3, h4, h5⟩ := hn'
  unfold W_number_text
  walk_at "hd"
  refine ⟨_, 0, true, _, rfl, .tup (.cons (.int _) (.cons (.int _) .nil)), fun z => (by rw [numB_yes hn] at z; cases z), fun _ => ?_⟩
  have big : 1000 ≤ sizeLine := le_line (Nat.le_refl _)
  have sa := text_short h4
  have sb := text_short (i := b) (by omega)
  walk_at "hd"
  cases c : decide (b = 1) with
  | true =>
    have c' := of_decide_eq_true c
    subst c'
    simp only []
    refine ⟨log_num h4, ?_⟩
    exact whole_is a ▸ k
  | false =>
    have c' := of_decide_eq_false c
    simp only [wJoined, wJs, wFmt]
    walk_at "hd"
    refine ⟨log_num h4, ?_⟩
    have l0 : Str.empty.length = 0 := rfl
    have l1 : (Str.ofString "/").length = 1 := by decide +kernel
    have a1 : (Str.empty ++ Str.ofString (toString a)).length ≤ 32 := by
      rw [tL_len, tL_app, List.length_append, ← tL_len, ← tL_len]
      omega
    have a2 : (Str.empty ++ Str.ofString (toString a) ++ Str.ofString "/").length ≤ 33 := by
      rw [tL_len, tL_app, List.length_append, ← tL_len, ← tL_len]
      omega
    have a3 : (Str.empty ++ Str.ofString (toString a) ++ Str.ofString "/" ++ Str.ofString (toString b)).length ≤ 65 := by
      rw [tL_len, tL_app, List.length_append, ← tL_len, ← tL_len]
      omega
    refine ⟨by omega, by omega, log_num (i := b) (by omega), by omega, ?_⟩
    have e : Str.empty ++ Str.ofString (toString a) ++ Str.ofString "/" ++ Str.ofString (toString b) = ofC (textN a b) := by
      rw [← part_is h2 c']
      refine tL_inj ?_
      simp only [tL_app, List.append_assoc]
      rfl
    exact e ▸ k

/-! the text of a root -/
def sp_Root_str (Z : Cs) : SpD := fun ds μ P _ => ∃ k n a b : Nat, ds = [.ref k] ∧ cell μ k = some (rootO Z.c_Root n a b) ∧ LeastForm n a b ∧ P (.str (textR n a b)) μ
theorem len_Root_str (Z : Cs) : ∀ ds μ Pd R, sp_Root_str Z ds μ Pd R → ds.length = 1 := fun ds μ Pd R ⟨i, l, _, _, e, _⟩ => by rw [e] <;> rfl
theorem LeastForm.num {n a b : Nat} (h : LeastForm n a b) : IsNum (a : Int) (b : Int) := by
  have h1 := h.a1
  have h2 := h.b1
  have h3 := h.a30
  have h4 := h.b30
  exact ⟨by omega, by omega, h.cop, by omega, by omega⟩
def W_Root_str (Z : Cs) : WS :=
  (wRet (wJoined [(wFmt (wFld Z.c_Root "_degree" (wVar 0))), (wC (.str " of ")), (wFmt (wCall (sp_number_text Z) (wCons (wFld Z.c_Root "_number" (wVar 0)) wNil)))]))
theorem vc_Root_str (Z : Cs) : ∀ ds μ Pd R, sp_Root_str Z ds μ Pd R → W_Root_str Z (fun _ C fs μ' => R C fs μ') { nx := fun _ μ' => Pd .non μ', rt := Pd } (startD 1 ds) μ := by
  intro ds μ Pd R h
  obtain ⟨k, n, a, b, rfl, hc, lf, kk⟩ := h
  unfold W_Root_str
  have big : 1000 ≤ sizeLine := le_line (Nat.le_refl _)
  have h60 := lf.n60
  have sn := text_short (i := (n : Int)) (by omega)
  have st := textN_short lf.num
  simp only [wJoined, wJs, wFmt, wRet]
  refine fld_deg rfl hc ?_
  simp only []
  refine ⟨log_num (i := (n : Int)) (by omega), ?_⟩
  have l0 : Str.empty.length = 0 := rfl
  have l1 : (Str.ofString " of ").length = 4 := by decide +kernel
  have a1 : (Str.empty ++ Str.ofString (toString (n : Int))).length ≤ 32 := by
    rw [tL_len, tL_app, List.length_append, ← tL_len, ← tL_len]
    omega
  have a2 : (Str.empty ++ Str.ofString (toString (n : Int)) ++ Str.ofString " of ").length ≤ 36 := by
    rw [tL_len, tL_app, List.length_append, ← tL_len, ← tL_len]
    omega
  have lt : (ofC (textN (a : Int) (b : Int))).length ≤ 64 := by
    rw [tL_len, tL_ofC]
    exact st
  have a3 : (Str.empty ++ Str.ofString (toString (n : Int)) ++ Str.ofString " of " ++ ofC (textN (a : Int) (b : Int))).length ≤ 100 := by
    rw [tL_len, tL_app, List.length_append, ← tL_len, ← tL_len]
    omega
  walk_at "hd"
  refine ⟨by omega, by omega, fld_num rfl hc ⟨(a : Int), (b : Int), rfl, lf.num, by omega, by omega, ?_⟩⟩
  have e : Str.empty ++ Str.ofString (toString (n : Int)) ++ Str.ofString " of " ++ ofC (textN (a : Int) (b : Int)) = textR n a b := by
    unfold textR
    refine tL_inj ?_
    simp only [tL_app, List.append_assoc]
    rfl
  exact e ▸ kk

/-! figures alone -/
def sp_are_digits : SpD := fun ds μ P _ => ∃ x : Str, ds = [.str x] ∧ P (.bl (digB x)) μ
theorem len_are_digits : ∀ ds μ Pd R, sp_are_digits ds μ Pd R → ds.length = 1 := fun ds μ Pd R ⟨i, e, _⟩ => by rw [e] <;> rfl
def W_are_digits : WS :=
  (wRet (wAndV (wAscii (wVar 0)) (wDecimal (wVar 0))))
theorem vc_are_digits : ∀ ds μ Pd R, sp_are_digits ds μ Pd R → W_are_digits (fun _ C fs μ' => R C fs μ') { nx := fun _ μ' => Pd .non μ', rt := Pd } (startD 1 ds) μ := by
  intro ds μ Pd R h
  obtain ⟨x, rfl, k⟩ := h
  unfold W_are_digits
  simp only [wAscii, wDecimal, wT0]
  walk_at "hd"
  refine ⟨trivial, ?_⟩
  have e := dig_is x
  cases c : Txt.isascii x with
  | false =>
    rw [c, Bool.false_and] at e
    rw [← e] at k
    simp only [c]
    exact k
  | true =>
    rw [c, Bool.true_and] at e
    simp only [c, wT0]
    walk_at "hd"
    rw [e]
    exact k

/-! a text read as a number, loosely -/
def T_loosely_read_numbers : WS :=
  (wSeq (wIfS (wOr (wNot (wTruth (wCall sp_are_digits (wCons (wVar 1) wNil)))) (wNot (wTruth (wCall sp_are_digits (wCons (wVar 4) wNil))))) (wRet (wC .non)) wNext)
  (wSeq (wIfS (wB (wOp wGt (wCB wMax (wCons (wCB wLen (wCons (wVar 1) wNil)) (wCons (wCB wLen (wCons (wVar 4) wNil)) wNil))) (wCB wLen (wCons (wCB wStrI (wCons (wC (.int c_MOST_SIZE)) wNil)) wNil)))) (wRet (wC .non)) wNext)
  (wRet (wTup (wCons (wCB wIntT (wCons (wVar 2) wNil)) (wCons (wCB wIntT (wCons (wVar 4) wNil)) wNil))))))
theorem unsign_len (l : List Nat) : (unsign l).length ≤ l.length ∧ l.length ≤ (unsign l).length + 1 := by
  unfold unsign
  split
  · simp only [List.length_cons]
    omega
  · omega
def sp_loosely_read_numbers : SpD := fun ds μ P _ => ∃ p : Str, ds = [.str p] ∧ p.length ≤ 100000 ∧ ∀ d, (d = .non ∨ ∃ a b : Int, d = .tup [.int a, .int b]) → (∀ a b : Int, IsNum a b → tL p = textN a b → d = .tup [.int a, .int b]) → P d μ
theorem len_loosely_read_numbers : ∀ ds μ Pd R, sp_loosely_read_numbers ds μ Pd R → ds.length = 1 := fun ds μ Pd R ⟨i, e, _⟩ => by rw [e] <;> rfl
theorem rest_loosely_read_numbers {p t g y : Str} {μ : Sto} {R : XD} {E : EndsD} {x3 : Option D} (hg : tL g = unsign (tL t)) (hlt : t.length ≤ 100000) (hly : y.length ≤ 100000) (hlg : g.length ≤ 100000)
    (hcan : ∀ a b : Int, IsNum a b → tL p = textN a b → tL t = signC a ++ numC a.natAbs ∧ tL y = numC b.natAbs)
    (k : ∀ d, (d = .non ∨ ∃ a b : Int, d = .tup [.int a, .int b]) → (∀ a b : Int, IsNum a b → tL p = textN a b → d = .tup [.int a, .int b]) → E.rt d μ) :
    T_loosely_read_numbers R E [some (.str p), some (.str g), some (.str t), x3, some (.str y)] μ := by
  have line : 1000000 ≤ sizeLine := by decide
  have none : (∀ a b : Int, IsNum a b → tL p ≠ textN a b) → E.rt .non μ := fun h => k _ (.inl rfl) fun a b h1 h2 => absurd h2 (h a b h1)
  have canG : ∀ a b : Int, IsNum a b → tL p = textN a b → tL g = numC a.natAbs := fun a b h1 h2 => by rw [hg, (hcan a b h1 h2).1, (unsign_text a).1]
  unfold T_loosely_read_numbers
  walk_at "hd"
  refine ⟨g, rfl, ?_⟩
  cases c1 : digB g with
  | false =>
    simp only [Bool.not_false]
    refine none fun a b h1 h2 => ?_
    rw [digB_iff.mpr ⟨by rw [canG a b h1 h2]; exact numC_ne _, by rw [canG a b h1 h2]; exact numC_digits _⟩] at c1
    cases c1
  | true =>
    simp only [Bool.not_true]
    refine ⟨y, rfl, ?_⟩
    cases c2 : digB y with
    | false =>
      simp only [Bool.not_false]
      refine none fun a b h1 h2 => ?_
      have e := (hcan a b h1 h2).2
      rw [digB_iff.mpr ⟨by rw [e]; exact numC_ne _, by rw [e]; exact numC_digits _⟩] at c2
      cases c2
    | true =>
      simp only [Bool.not_true]
      obtain ⟨g1, g2⟩ := digB_iff.mp c1
      obtain ⟨y1, y2⟩ := digB_iff.mp c2
      have e31 : (Str.ofString (toString c_MOST_SIZE)).length = 31 := by decide +kernel
      refine ⟨by omega, by omega, by decide +kernel, by rw [e31]; omega, ?_⟩
      rw [e31]
      cases c3 : decide (((31 : Nat) : Int) < if (g.length : Int) < (y.length : Int) then (y.length : Int) else (g.length : Int)) with
      | true =>
        have c3' := of_decide_eq_true c3
        simp only []
        refine none fun a b h1 h2 => ?_
        have e := (hcan a b h1 h2).2
        have eg := canG a b h1 h2
        obtain ⟨n1, n2, n3, n4, n5⟩ := h1
        have l1 := numC_short n4
        have l2 := numC_short (n := b.natAbs) (by omega)
        rw [← eg, ← tL_len] at l1
        rw [← e, ← tL_len] at l2
        split at c3' <;> omega
      | false =>
        have c3' := of_decide_eq_false c3
        simp only [wIntT]
        have lg : g.length ≤ 31 := by
          split at c3' <;> omega
        have ly : y.length ≤ 31 := by
          split at c3' <;> omega
        have uy : unsign (tL y) = tL y := (unsign_ne fun r z => by
          have := y2 45 (by rw [z]; exact List.mem_cons_self ..)
          omega).1
        have lt : t.length ≤ 32 := by
          have := (unsign_len (tL t)).2
          rw [← hg, ← tL_len, ← tL_len] at this
          omega
        refine ⟨_, int_read (by rw [← hg]; exact g2) (by rw [← hg]; exact g1) (by omega), by omega, _, int_read (by rw [uy]; exact y2) (by rw [uy]; exact y1) (by omega), by omega, by decide, ?_⟩
        refine k _ (.inr ⟨_, _, rfl⟩) fun a b h1 h2 => ?_
        obtain ⟨e1, e2⟩ := hcan a b h1 h2
        obtain ⟨n1, n2, n3, n4, n5⟩ := h1
        have f2 : intC (tL y) = b := by
          rw [(unsign_ne (l := tL y) (by rw [e2]; exact num_ne _)).2, e2, numC_val]
          omega
        rw [e1, (unsign_text a).2, f2]
def W_loosely_read_numbers : WS :=
  (wSeq (wAsg (wPartT (wVar 0) (wC (.str "/"))) (wgTup 3 (wgCons (wgName 2) (wgCons (wgName 3) (wgCons (wgName 4) wgEnd)))))
  (wSeq (wAsg (wUnPre (wVar 2) (wC (.str "-"))) (wgName 1))
  (wSeq (wIfS (wNot (wTruth (wVar 3))) (wAsg (wC (.str "1")) (wgName 4)) wNext)
  (wSeq (wIfS (wOr (wNot (wTruth (wCall sp_are_digits (wCons (wVar 1) wNil)))) (wNot (wTruth (wCall sp_are_digits (wCons (wVar 4) wNil))))) (wRet (wC .non)) wNext)
  (wSeq (wIfS (wB (wOp wGt (wCB wMax (wCons (wCB wLen (wCons (wVar 1) wNil)) (wCons (wCB wLen (wCons (wVar 4) wNil)) wNil))) (wCB wLen (wCons (wCB wStrI (wCons (wC (.int c_MOST_SIZE)) wNil)) wNil)))) (wRet (wC .non)) wNext)
  (wRet (wTup (wCons (wCB wIntT (wCons (wVar 2) wNil)) (wCons (wCB wIntT (wCons (wVar 4) wNil)) wNil)))))))))
theorem vc_loosely_read_numbers : ∀ ds μ Pd R, sp_loosely_read_numbers ds μ Pd R → W_loosely_read_numbers (fun _ C fs μ' => R C fs μ') { nx := fun _ μ' => Pd .non μ', rt := Pd } (startD 5 ds) μ := by
  intro ds μ Pd R h
  obtain ⟨p, rfl, hl, k⟩ := h
  have e : W_loosely_read_numbers = wSeq _ (wSeq _ (wSeq _ T_loosely_read_numbers)) := rfl
  rw [e]
  have line : 1000000 ≤ sizeLine := by decide
  obtain ⟨f1, f2, f3⟩ := fact_partition p (Str.ofString "/")
  have can : ∀ a b : Int, IsNum a b → tL p = textN a b → tL (Txt.partition p (Str.ofString "/")).1 = signC a ++ numC a.natAbs ∧ tL (botOf (Txt.partition p (Str.ofString "/"))) = numC b.natAbs := fun a b h1 h2 => by
    rw [slash_is]
    exact text_parts h1 h2
  unfold botOf at can
  walk_at "hd"
  simp only [wPartT, wUnPre, wT1]
  walk_at "hd"
  generalize Txt.partition p (Str.ofString "/") = V at f1 f2 f3 can ⊢
  obtain ⟨t, s, y⟩ := V
  simp only [] at f1 f2 f3 can ⊢
  have dash : Str.ofString "-" = ⟨#[45]⟩ := by decide +kernel
  have ug : tL (Txt.removeprefix t (Str.ofString "-")) = unsign (tL t) := by rw [dash]; exact unpre t
  have lg : (Txt.removeprefix t (Str.ofString "-")).length ≤ 100000 := by
    rw [tL_len, ug]
    have := (unsign_len (tL t)).1
    rw [← tL_len] at this
    omega
  refine ⟨by decide +kernel, by omega, by omega, by omega, ?_⟩
  cases c : ((s.length : Int) != 0) with
  | true =>
    simp only [Bool.not_true]
    have hs : ¬ s.length = 0 := fun z => by
      rw [z] at c
      exact absurd c (by decide)
    simp only [if_neg hs] at can
    exact rest_loosely_read_numbers ug (by omega) (by omega) lg can k
  | false =>
    simp only [Bool.not_false]
    have hs : s.length = 0 := by
      have : ((s.length : Int) == 0) = true := by
        rw [bne, Bool.not_eq_false'] at c
        exact c
      have := eq_of_beq this
      omega
    simp only [if_pos hs] at can
    have one : Str.ofString "1" = ⟨#[49]⟩ := by decide +kernel
    exact rest_loosely_read_numbers ug (by omega) (by rw [one]; decide) lg (by rw [one]; exact can) k

/-! a text read as a number, or refused -/
theorem numB_in {d : D} (h : numB d = true) : ∃ a b : Int, d = .tup [.int a, .int b] ∧ IsNum a b := by
  unfold numB at h
  split at h
  · rename_i a b
    simp only [Bool.and_eq_true, decide_eq_true_eq, Bool.not_eq_true', decide_eq_false_iff_not] at h
    obtain ⟨⟨h1, h2⟩, ⟨h3, h4⟩, h5, h6⟩ := h
    exact ⟨a, b, rfl, h5, h3, by omega, by omega, h4⟩
  · cases h
def sp_read_number (Z : Cs) : SpD := fun ds μ P R => ∃ p : Str, ds = [.str p] ∧ p.length ≤ 100000 ∧ (∀ a b : Int, IsNum a b → tL p = textN a b → P (.tup [.int a, .int b]) μ) ∧ ((∀ a b : Int, IsNum a b → tL p ≠ textN a b) → R Z.c_InvalidText [("given", .str p)] μ)
theorem len_read_number (Z : Cs) : ∀ ds μ Pd R, sp_read_number Z ds μ Pd R → ds.length = 1 := fun ds μ Pd R ⟨i, e, _⟩ => by rw [e] <;> rfl
def W_read_number (Z : Cs) : WS :=
  (wSeq (wIfS (wNot (wTruth (wCB (wIsi2 "str") (wCons (wVar 0) (wCons (wC (.ty "str")) wNil))))) (wRaise Z.c_InvalidText "given" (wCons (wVar 0) wNil)) wNext)
  (wSeq (wAsg (wCall sp_loosely_read_numbers (wCons (wVar 0) wNil)) (wgName 1))
  (wSeq (wIfS (wOr (wNot (wTruth (wCall sp_is_number (wCons (wVar 1) wNil)))) (wB (wOp wNe (wCall (sp_number_text Z) (wCons (wVar 1) wNil)) (wVar 0)))) (wRaise Z.c_InvalidText "given" (wCons (wVar 0) wNil)) wNext)
  (wRet (wVar 1)))))
theorem vc_read_number (Z : Cs) : ∀ ds μ Pd R, sp_read_number Z ds μ Pd R → W_read_number Z (fun _ C fs μ' => R C fs μ') { nx := fun _ μ' => Pd .non μ', rt := Pd } (startD 2 ds) μ := by
  intro ds μ Pd R h
  obtain ⟨p, rfl, hl, k1, k2⟩ := h
  have kit_ss : kitB "str" "str" = some true := by decide +kernel
  unfold W_read_number
  walk_at "hd"
  try simp only [wIsi2]
  try walk_at "hd"
  refine ⟨_, _, rfl, kit_ss, ?_⟩
  simp only [Bool.not_true]
  refine ⟨p, rfl, hl, fun d hd hc => ?_⟩
  rcases hd with rfl | ⟨a, b, rfl⟩
  · try walk_at "hd"
    refine ⟨_, 0, true, _, rfl, .non, ?_⟩
    rw [show numB D.non = false from rfl]
    simp only [Bool.not_false, wRaise]
    walk_at "hd"
    exact k2 fun a b h1 h2 => by
      have := hc a b h1 h2
      cases this
  · try walk_at "hd"
    refine ⟨_, 0, true, _, rfl, .tup (.cons (.int a) (.cons (.int b) .nil)), ?_⟩
    cases c : numB (.tup [.int a, .int b]) with
    | false =>
      simp only [Bool.not_false, wRaise]
      walk_at "hd"
      refine k2 fun a' b' h1 h2 => ?_
      have e := hc a' b' h1 h2
      cases e
      rw [numB_yes h1] at c
      cases c
    | true =>
      simp only [Bool.not_true]
      obtain ⟨a1, b1, e1, hn⟩ := numB_in c
      cases e1
      refine ⟨a, b, rfl, hn, ?_⟩
      simp only []
      cases c2 : decide (ofC (textN a b) = p) with
      | true =>
        have c2' := of_decide_eq_true c2
        simp only [Bool.not_true]
        exact k1 a b hn (by rw [← c2', tL_ofC])
      | false =>
        have c2' := of_decide_eq_false c2
        simp only [Bool.not_false, wRaise]
        walk_at "hd"
        refine k2 fun a' b' h1 h2 => ?_
        have e := hc a' b' h1 h2
        cases e
        exact c2' (by rw [← h2, ofC_tL])

/-! InvalidDegree for what is no int between two -/
def sp_check_degree (Z : Cs) : SpD := fun ds μ P R => ∃ (d : D) (l m : Int) (j : Nat) (b : Bool) (p : PyData), ds = [d, .int l, .int m] ∧ VA j μ b d p ∧ (wholeB d l m = false → R Z.c_InvalidDegree [("given", d)] μ) ∧ (wholeB d l m = true → P .non μ)
theorem len_check_degree (Z : Cs) : ∀ ds μ Pd R, sp_check_degree Z ds μ Pd R → ds.length = 3 := fun ds μ Pd R ⟨i, l, m, _, _, _, e, _⟩ => by rw [e] <;> rfl
def W_check_degree (Z : Cs) : WS :=
  (wIfS (wNot (wTruth (wCall sp_is_between (wCons (wVar 0) (wCons (wVar 1) (wCons (wVar 2) wNil)))))) (wRaise Z.c_InvalidDegree "given" (wCons (wVar 0) wNil)) wNext)
theorem vc_check_degree (Z : Cs) : ∀ ds μ Pd R, sp_check_degree Z ds μ Pd R → W_check_degree Z (fun _ C fs μ' => R C fs μ') { nx := fun _ μ' => Pd .non μ', rt := Pd } (startD 3 ds) μ := by
  intro ds μ Pd R h
  obtain ⟨d, l, m, j, b, p, rfl, hv, kR, k⟩ := h
  unfold W_check_degree
  walk_at "hd"
  refine ⟨d, l, m, j, b, p, rfl, hv, ?_⟩
  simp only [wRaise]
  walk_at "hd"
  cases c : wholeB d l m with
  | true => exact k c
  | false => exact kR c

/-! a power, by squares -/
theorem pow_fits {v k : Nat} (hv : v < 2 ^ 7000) (hk : k ≤ 9000) : v ^ k < 2 ^ 63000001 := by
  have h1 : v ^ k ≤ (2 ^ 7000) ^ k := Nat.pow_le_pow_left (Nat.le_of_lt hv) k
  rw [← Nat.pow_mul] at h1
  have h2 : (2 : Nat) ^ (7000 * k) ≤ 2 ^ 63000000 := Nat.pow_le_pow_right (by decide) (by omega)
  have h3 : (2 : Nat) ^ 63000000 < 2 ^ 63000001 := Nat.pow_lt_pow_right (by decide) (by decide)
  exact Nat.lt_of_le_of_lt (Nat.le_trans h1 h2) h3
theorem pow_fits2 {v k n : Nat} (hv : v < 2 ^ 7000) (hn : n ≤ 9000 ∨ v ≤ 1) (hk : k ≤ n) : v ^ k < 2 ^ 63000001 := by
  rcases hn with h | h
  · exact pow_fits hv (Nat.le_trans hk h)
  · have h1 : v ^ k ≤ 1 ^ k := Nat.pow_le_pow_left h k
    rw [Nat.one_pow] at h1
    exact Nat.lt_of_le_of_lt h1 (Nat.lt_of_lt_of_le (by decide : 1 < 2 ^ 1) (Nat.pow_le_pow_right (by decide) (by decide)))
def sp_power_of : SpD := fun ds μ P _ => ∃ (v : Int) (n : Nat), ds = [.int v, .int (n : Int)] ∧ (n ≤ 9000 ∨ v.natAbs ≤ 1) ∧ (v.natAbs < 2 ^ 200 ∨ v.natAbs < 2 ^ 7000) ∧ P (.int (v ^ n)) μ
/-- .. of an integer from 0 on -/
theorem powN {ds : List D} {μ : Sto} {P : D → Sto → Prop} {R : Addr → List (Str × D) → Sto → Prop} (h : ∃ v n : Nat, ds = [.int (v : Int), .int (n : Int)] ∧ (n ≤ 9000 ∨ v ≤ 1) ∧ (v < 2 ^ 200 ∨ v < 2 ^ 7000) ∧ P (.int ((v ^ n : Nat) : Int)) μ) : sp_power_of ds μ P R := by
  obtain ⟨v, n, e, h1, h2, h3⟩ := h
  refine ⟨(v : Int), n, e, by rwa [Int.natAbs_natCast], by rwa [Int.natAbs_natCast], ?_⟩
  rw [Int.natCast_pow] at h3
  exact h3
theorem len_power_of : ∀ ds μ Pd R, sp_power_of ds μ Pd R → ds.length = 2 := fun ds μ Pd R ⟨i, l, e, _⟩ => by rw [e] <;> rfl
def W_power_of : WS :=
  (wSeq (wAsg (wC (.int 1)) (wgName 2))
  (wSeq (wWhile (wB (wOp wGt (wVar 1) (wC (.int 0)))) (wSeq (wIfS (wB (wOp wEq (wOp wMod (wVar 1) (wC (.int 2))) (wC (.int 1)))) (wAsg (wOp wMul (wVar 2) (wVar 0)) (wgName 2)) wNext)
  (wSeq (wAsg (wOp wMul (wVar 0) (wVar 0)) (wgName 0))
  (wAsg (wOp wDiv (wVar 1) (wC (.int 2))) (wgName 1)))))
  (wRet (wVar 2))))
theorem vc_power_of : ∀ ds μ Pd R, sp_power_of ds μ Pd R → W_power_of (fun _ C fs μ' => R C fs μ') { nx := fun _ μ' => Pd .non μ', rt := Pd } (startD 3 ds) μ := by
  intro ds μ Pd R h
  obtain ⟨v, n, rfl, hn, hv, k⟩ := h
  have hv : v.natAbs < 2 ^ 7000 := hv.elim (fun z => Nat.lt_trans z (Nat.pow_lt_pow_right (by decide) (by decide))) id
  unfold W_power_of
  walk_at "hd"
  unfold wWhile
  refine ⟨fun m δ' μ' => ∃ (x r : Int) (e i j : Nat), δ' = [some (.int x), some (.int (e : Int)), some (.int r)] ∧ μ' = μ ∧ m = e ∧ x = v ^ (2 ^ i) ∧ r = v ^ j ∧ j + e * 2 ^ i = n, ⟨n, v, 1, n, 0, 0, rfl, rfl, rfl, by rw [Nat.pow_zero, Int.pow_succ, Int.pow_zero, Int.one_mul], (Int.pow_zero v).symm, by omega⟩, ?_⟩
  rintro m δ' μ' ⟨x, r, e, i, j, rfl, rfl, rfl, hx, hr, hj⟩
  walk_at "hd"
  cases c : decide ((0 : Int) < (m : Int)) with
  | false =>
    have c' := of_decide_eq_false c
    have m0 : m = 0 := by omega
    subst m0
    simp only []
    rw [Nat.zero_mul, Nat.add_zero] at hj
    rw [hr, hj]
    exact k
  | true =>
    have c' := of_decide_eq_true c
    simp only []
    have hp : 0 < 2 ^ i := Nat.two_pow_pos i
    have h1 : 2 ^ i ≤ m * 2 ^ i := Nat.le_mul_of_pos_left _ (by omega)
    have fx : x.natAbs < 2 ^ 63000001 := by rw [hx, Int.natAbs_pow]; exact pow_fits2 hv hn (by omega)
    have fr : r.natAbs < 2 ^ 63000001 := by rw [hr, Int.natAbs_pow]; exact pow_fits2 hv hn (by omega)
    have okx : MulOk x x := mulOk (a := 63000001) (b := 63000001) fx fx (by decide)
    have okr : MulOk r x := mulOk (a := 63000001) (b := 63000001) fr fx (by decide)
    have mh : (m : Int) / 2 = ((m / 2 : Nat) : Int) := by omega
    have xs : x * x = v ^ 2 ^ (i + 1) := by
      rw [hx, ← Int.pow_add, Nat.pow_succ]
      congr 1
      omega
    have d2 : DivOk 2 := ⟨by decide, by decide⟩
    rw [mh]
    refine ⟨by decide, ?_⟩
    cases c2 : decide ((m : Int) % 2 = 1) with
    | true =>
      have c2' := of_decide_eq_true c2
      simp only []
      refine ⟨okr, okx, d2, m / 2, by omega, x * x, r * x, m / 2, i + 1, j + 2 ^ i, rfl, rfl, xs, by rw [hr, hx, ← Int.pow_add], ?_⟩
      have q : m = 2 * (m / 2) + 1 := by omega
      have e1 : m * 2 ^ i = 2 * ((m / 2) * 2 ^ i) + 2 ^ i := by
        have : m * 2 ^ i = (2 * (m / 2) + 1) * 2 ^ i := by rw [← q]
        rw [this, Nat.add_mul, Nat.mul_assoc, Nat.one_mul]
      have e2 : m / 2 * 2 ^ (i + 1) = (m / 2 * 2 ^ i) * 2 := by rw [Nat.pow_succ, Nat.mul_assoc]
      omega
    | false =>
      have c2' := of_decide_eq_false c2
      simp only []
      refine ⟨okx, d2, m / 2, by omega, x * x, r, m / 2, i + 1, j, rfl, rfl, xs, hr, ?_⟩
      have q : m = 2 * (m / 2) := by omega
      have e1 : m * 2 ^ i = 2 * ((m / 2) * 2 ^ i) := by
        have : m * 2 ^ i = (2 * (m / 2)) * 2 ^ i := by rw [← q]
        rw [this, Nat.mul_assoc]
      have e2 : m / 2 * 2 ^ (i + 1) = (m / 2 * 2 ^ i) * 2 := by rw [Nat.pow_succ, Nat.mul_assoc]
      omega

/-! a root, rounded down: Newton's steps -/
theorem bits_lt (v : Nat) : v < 2 ^ Builtin.Int.intBits (v : Int) := by
  have h : (v : Int).natAbs < 2 ^ Builtin.Int.intBits (v : Int) := PySem.intBits_le_iff.mp (Nat.le_refl _)
  rwa [Int.natAbs_natCast] at h
theorem bits_le {v m : Nat} (h : v < 2 ^ m) : Builtin.Int.intBits (v : Int) ≤ m := PySem.intBits_le_iff.mpr (by rw [Int.natAbs_natCast]; exact h)
theorem two_le (s r p : Nat) : 2 * (s * r * p) ≤ s * s * p + r * r * p := by
  rw [← Nat.add_mul, ← Nat.mul_assoc]
  refine Nat.mul_le_mul_right p ?_
  rcases Nat.le_total s r with h | h
  · obtain ⟨d, rfl⟩ := Nat.exists_eq_add_of_le h
    have : s * s + (s + d) * (s + d) = 2 * (s * (s + d)) + d * d := by
      simp only [Nat.mul_add, Nat.add_mul, Nat.two_mul]
      have : s * d = d * s := Nat.mul_comm s d
      omega
    omega
  · obtain ⟨d, rfl⟩ := Nat.exists_eq_add_of_le h
    have : (r + d) * (r + d) + r * r = 2 * ((r + d) * r) + d * d := by
      simp only [Nat.mul_add, Nat.add_mul, Nat.two_mul]
      have : r * d = d * r := Nat.mul_comm r d
      omega
    omega
/-- the mean of powers -/
theorem amgm (s r : Nat) : ∀ k : Nat, (k + 1) * (s * r ^ k) ≤ s ^ (k + 1) + k * r ^ (k + 1)
  | 0 => by simp
  | k + 1 => by
    have ih := Nat.mul_le_mul_left s (amgm s r k)
    have q := Nat.mul_le_mul_left (k + 1) (two_le s r (r ^ k))
    have e1 : s * ((k + 1) * (s * r ^ k)) = k * (s * s * r ^ k) + s * s * r ^ k := by
      rw [Nat.mul_left_comm, Nat.add_mul, Nat.one_mul, Nat.mul_assoc s s]
    have e2 : s * (s ^ (k + 1) + k * r ^ (k + 1)) = s ^ (k + 2) + k * (s * r * r ^ k) := by
      rw [Nat.mul_add, Nat.pow_succ s (k + 1), Nat.mul_comm s (s ^ (k + 1)), Nat.mul_left_comm, Nat.pow_succ r k, Nat.mul_comm (r ^ k) r, Nat.mul_assoc]
    have e3 : (k + 1 + 1) * (s * r ^ (k + 1)) = k * (s * r * r ^ k) + 2 * (s * r * r ^ k) := by
      rw [← Nat.add_mul, Nat.pow_succ, Nat.mul_comm (r ^ k) r, Nat.mul_assoc s r]
    have e4 : (k + 1) * r ^ (k + 1 + 1) = k * (r * r * r ^ k) + r * r * r ^ k := by
      rw [Nat.add_mul, Nat.one_mul, Nat.pow_succ, Nat.pow_succ, Nat.mul_comm (r ^ k * r) r, Nat.mul_comm (r ^ k) r, Nat.mul_assoc r r]
    have e5 : (k + 1) * (2 * (s * r * r ^ k)) = 2 * (k * (s * r * r ^ k)) + 2 * (s * r * r ^ k) := by
      rw [Nat.add_mul, Nat.one_mul, Nat.mul_left_comm]
    have e6 : (k + 1) * (s * s * r ^ k + r * r * r ^ k) = k * (s * s * r ^ k) + s * s * r ^ k + (k * (r * r * r ^ k) + r * r * r ^ k) := by
      rw [Nat.mul_add, Nat.add_mul, Nat.add_mul, Nat.one_mul, Nat.one_mul]
    rw [e1, e2] at ih
    rw [e5, e6] at q
    rw [e3, e4]
    generalize k * (s * s * r ^ k) = ka at *
    generalize k * (r * r * r ^ k) = kb at *
    generalize k * (s * r * r ^ k) = kc at *
    generalize s * s * r ^ k = a at *
    generalize r * r * r ^ k = b at *
    generalize s * r * r ^ k = c at *
    show _ ≤ s ^ (k + 2) + _
    generalize s ^ (k + 2) = S at *
    omega
/-- a step from r does not fall below the root -/
theorem newton_ge {v r s k : Nat} (hr : 1 ≤ r) (hs : s ^ (k + 1) ≤ v) : (k + 1) * s ≤ k * r + v / r ^ k := by
  have p0 : 0 < r ^ k := Nat.pow_pos hr
  have a := amgm s r k
  refine Nat.le_of_not_lt fun z => ?_
  -- v / p < (k+1) s - k r
  have h1 : v / r ^ k + 1 + k * r ≤ (k + 1) * s := by omega
  have h2 := Nat.mul_le_mul_right (r ^ k) h1
  have h3 : v < (v / r ^ k + 1) * r ^ k := Nat.lt_mul_of_div_lt (Nat.lt_succ_self _) p0
  have e1 : (k + 1) * s * r ^ k = (k + 1) * (s * r ^ k) := Nat.mul_assoc _ _ _
  have e2 : (v / r ^ k + 1 + k * r) * r ^ k = (v / r ^ k + 1) * r ^ k + k * r ^ (k + 1) := by
    rw [Nat.add_mul, Nat.pow_succ, Nat.mul_comm (r ^ k) r, Nat.mul_assoc]
  rw [e1, e2] at h2
  omega
def spr_floor_root (d : Nat) : SpD := fun ds μ P _ => ∃ v n : Nat, ds = [.int (v : Int), .int (n : Int)] ∧ 1 ≤ n ∧ n ≤ 1000 ∧ v < 2 ^ 6200 ∧ v < 2 ^ (n * (8 * 2 ^ d)) ∧ ∀ r : Nat, r ^ n ≤ v → v < (r + 1) ^ n → P (.int (r : Int)) μ
def sp_floor_root : SpD := spr_floor_root 10
theorem floor_fuel {v n : Nat} (hn : 1 ≤ n) (hv : v < 2 ^ 6200) : v < 2 ^ (n * (8 * 2 ^ 10)) := by
  refine Nat.lt_of_lt_of_le hv (Nat.pow_le_pow_right (by decide) ?_)
  have : 1 * (8 * 2 ^ 10) ≤ n * (8 * 2 ^ 10) := Nat.mul_le_mul_right _ hn
  omega
theorem len_floor_root (d : Nat) : ∀ ds μ Pd R, spr_floor_root d ds μ Pd R → ds.length = 2 := fun ds μ Pd R ⟨i, l, e, _⟩ => by rw [e] <;> rfl
def T_floor_root : WS :=
  (wWhile (wTruth (wC (.bl true))) (wSeq (wAsg (wOp wDiv (wOp wAdd (wOp wMul (wOp wSub (wVar 1) (wC (.int 1))) (wVar 3)) (wOp wDiv (wVar 0) (wCall sp_power_of (wCons (wVar 3) (wCons (wOp wSub (wVar 1) (wC (.int 1))) wNil))))) (wVar 1)) (wgName 5))
  (wSeq (wIfS (wB (wOp wGe (wVar 5) (wVar 3))) (wRet (wVar 3)) wNext)
  (wAsg (wVar 5) (wgName 3)))))
def W_floor_root (rec : SpD) : WS :=
  (wSeq (wIfS (wB (wOp wEq (wVar 0) (wC (.int 0)))) (wRet (wC (.int 0))) wNext)
  (wSeq (wAsg (wOp wDiv (wOp wSub (wOp wAdd (wBits (wVar 0)) (wVar 1)) (wC (.int 1))) (wVar 1)) (wgName 2))
  (wSeq (wAsg (wOp wShlW (wC (.int 1)) (wVar 2)) (wgName 3))
  (wSeq (wIfS (wAnd (wB (wOp wGt (wVar 1) (wC (.int 8)))) (wB (wOp wGt (wVar 2) (wC (.int 8))))) (wSeq (wAsg (wOp wDiv (wVar 2) (wC (.int 2))) (wgName 4))
  (wAsg (wOp wShlW (wOp wAdd (wCall rec (wCons (wOp wShr (wVar 0) (wOp wMul (wVar 1) (wVar 4))) (wCons (wVar 1) wNil))) (wC (.int 1))) (wVar 4)) (wgName 3))) wNext)
  (wWhile (wTruth (wC (.bl true))) (wSeq (wAsg (wOp wDiv (wOp wAdd (wOp wMul (wOp wSub (wVar 1) (wC (.int 1))) (wVar 3)) (wOp wDiv (wVar 0) (wCall sp_power_of (wCons (wVar 3) (wCons (wOp wSub (wVar 1) (wC (.int 1))) wNil))))) (wVar 1)) (wgName 5))
  (wSeq (wIfS (wB (wOp wGe (wVar 5) (wVar 3))) (wRet (wVar 3)) wNext)
  (wAsg (wVar 5) (wgName 3)))))))))
theorem vc_floor_root : ∀ (d : Nat) ds μ Pd R, spr_floor_root d ds μ Pd R → W_floor_root (recS spr_floor_root d) (fun _ C fs μ' => R C fs μ') { nx := fun _ μ' => Pd .non μ', rt := Pd } (startD 6 ds) μ := by
  intro d ds μ Pd R h
  obtain ⟨v, n, rfl, hn1, hn, hv, hf, k⟩ := h
  unfold W_floor_root
  walk_at "hd"
  cases c0 : decide ((v : Int) = 0) with
  | true =>
    have c' := of_decide_eq_true c0
    have e : v = 0 := by omega
    subst e
    simp only []
    refine k 0 (by rw [Nat.zero_pow (by omega)]; exact Nat.le_refl _) (by rw [Nat.one_pow]; decide)
  | false =>
    have c' := of_decide_eq_false c0
    simp only []
    have hb := bits_le hv
    have hb2 := bits_le hf
    have lb := bits_lt v
    generalize Builtin.Int.intBits (v : Int) = b at *
    have e1 : ((b : Int) + (n : Int) - 1) / (n : Int) = (((b + n - 1) / n : Nat) : Int) := by
      rw [Int.natCast_ediv]
      congr 1
      omega
    rw [e1]
    obtain ⟨S, hS⟩ : ∃ S, (b + n - 1) / n = S := ⟨_, rfl⟩
    rw [hS]
    have m1 := Nat.div_add_mod (b + n - 1) n
    have m2 := Nat.mod_lt (b + n - 1) (by omega : n > 0)
    rw [hS] at m1
    have s1 : b ≤ n * S := by omega
    have s2 : n * S < b + n := by omega
    have s3 : S ≤ 8 * 2 ^ d := by
      refine Nat.le_of_not_lt fun z => ?_
      have := Nat.mul_le_mul_left n (show 8 * 2 ^ d + 1 ≤ S from z)
      rw [Nat.mul_add, Nat.mul_one] at this
      omega
    have s4 : S ≤ 6200 := by
      refine Nat.le_of_not_lt fun z => ?_
      have := Nat.mul_le_mul_left n (show 6200 + 1 ≤ S from z)
      have : n * 6201 = n * 6200 + n := by omega
      omega
    have dn : DivOk (n : Int) := divOkN hn1 (show n < 2 ^ 10 by omega) (by decide)
    have e2 : (1 : Int) * 2 ^ ((S : Int)).toNat = ((2 ^ S : Nat) : Int) := by
      rw [Int.one_mul, Int.toNat_natCast, Int.natCast_pow] <;> rfl
    rw [e2]
    refine ⟨dn, shl_ok (n := 1) (by decide) (by omega), ?_⟩
    have tail : ∀ (r0 : Nat) (x4 x5 : Option D), 1 ≤ r0 → r0 ≤ 2 ^ S → v < r0 ^ n → T_floor_root (fun _ C fs μ' => R C fs μ') { nx := fun _ μ' => Pd .non μ', rt := Pd } [some (.int (v : Int)), some (.int (n : Int)), some (.int (S : Int)), some (.int (r0 : Int)), x4, x5] μ := fun r0 x4 x5 t1 t2 t3 => by
      obtain ⟨g, rfl⟩ : ∃ g, n = g + 1 := ⟨n - 1, by omega⟩
      have tp : r0 ^ g ≤ 2 ^ 7300 := by
        refine Nat.le_trans (Nat.pow_le_pow_left t2 g) ?_
        rw [← Nat.pow_mul]
        refine Nat.pow_le_pow_right (by decide) ?_
        have : (g + 1) * S = S * g + S := by rw [Nat.add_mul, Nat.one_mul, Nat.mul_comm]
        omega
      have tq : (2 : Nat) ^ S ≤ 2 ^ 6200 := Nat.pow_le_pow_right (by decide) s4
      unfold T_floor_root
      walk_at "hd"
      unfold wWhile
      refine ⟨fun m δ' μ' => ∃ (r : Nat) (y : Option D), δ' = [some (.int (v : Int)), some (.int ((g + 1 : Nat) : Int)), some (.int (S : Int)), some (.int (r : Int)), x4, y] ∧ μ' = μ ∧ m = r ∧ 1 ≤ r ∧ v < (r + 1) ^ (g + 1) ∧ r ≤ 2 ^ 6200 ∧ r ^ g ≤ 2 ^ 7300, ⟨r0, r0, x5, rfl, rfl, rfl, t1, Nat.lt_of_lt_of_le t3 (Nat.pow_le_pow_left (Nat.le_succ r0) _), Nat.le_trans t2 tq, tp⟩, ?_⟩
      rintro m δ' μ' ⟨r, y, rfl, rfl, rfl, h1, h2, h3, h4⟩
      walk_at "hd"
      have eg : ((g + 1 : Nat) : Int) - 1 = (g : Int) := by omega
      rw [eg]
      have p0 : 0 < m ^ g := Nat.pow_pos h1
      have l1 : (2 : Nat) ^ 7300 < 2 ^ 7301 := Nat.pow_lt_pow_right (by decide) (by decide)
      have l2 : (2 : Nat) ^ 6200 < 2 ^ 6201 := Nat.pow_lt_pow_right (by decide) (by decide)
      have dp : DivOk ((m ^ g : Nat) : Int) := divOkN (by omega) (Nat.lt_of_le_of_lt h4 l1) (by decide)
      have lo : (g : Int) * (m : Int) + (v : Int) / ((m ^ g : Nat) : Int) = ((g * m + v / m ^ g : Nat) : Int) := by
        rw [Int.natCast_add, Int.natCast_mul, Int.natCast_ediv]
      have lo2 : ((g * m + v / m ^ g : Nat) : Int) / ((g + 1 : Nat) : Int) = (((g * m + v / m ^ g) / (g + 1) : Nat) : Int) := by
        rw [Int.natCast_ediv]
      refine ⟨mulOk (a := 10) (b := 6201) (by rw [Int.natAbs_natCast]; omega) (by rw [Int.natAbs_natCast]; exact Nat.lt_of_le_of_lt h3 l2) (by decide), powN ⟨m, g, rfl, by omega, .inr (lt_big (Nat.lt_of_le_of_lt h3 l2) (by decide)), dp, dn, ?_⟩⟩
      rw [lo, lo2]
      obtain ⟨L, hL⟩ : ∃ L, (g * m + v / m ^ g) / (g + 1) = L := ⟨_, rfl⟩
      rw [hL]
      have m1 := Nat.div_add_mod (g * m + v / m ^ g) (g + 1)
      have m2 := Nat.mod_lt (g * m + v / m ^ g) (show g + 1 > 0 by omega)
      rw [hL] at m1
      have e1 : (g + 1) * m = g * m + m := by rw [Nat.add_mul, Nat.one_mul]
      have e2 : (g + 1) * L = g * L + L := by rw [Nat.add_mul, Nat.one_mul]
      cases c : decide ((m : Int) ≤ (L : Int)) with
      | true =>
        have c' := of_decide_eq_true c
        simp only []
        have q2 : m ≤ v / m ^ g := by
          have q1 := Nat.mul_le_mul_left (g + 1) (show m ≤ L by omega)
          clear h2 h3 h4 tq l1 l2 hv hf lb s3
          omega
        have q3 := (Nat.le_div_iff_mul_le p0).mp q2
        exact k m (by rw [Nat.pow_succ, Nat.mul_comm]; exact q3) h2
      | false =>
        have c' := of_decide_eq_false c
        simp only []
        have fl : ∀ s : Nat, s ^ (g + 1) ≤ v → s ≤ L := fun s hs => by
          have a := newton_ge h1 hs
          have e3 : (g + 1) * s = g * s + s := by rw [Nat.add_mul, Nat.one_mul]
          refine Nat.le_of_not_lt fun z => ?_
          have q4 := Nat.mul_le_mul_left (g + 1) (show L + 1 ≤ s from z)
          have e4 : (g + 1) * (L + 1) = (g + 1) * L + (g + 1) := by rw [Nat.mul_add, Nat.mul_one]
          clear h2 h3 h4 tq l1 l2 hv hf lb s3 hs
          omega
        have Lm : L < m := by omega
        refine ⟨L, Lm, L, _, rfl, trivial, rfl, fl 1 (by rw [Nat.one_pow]; omega), Nat.lt_of_not_le fun z => ?_, Nat.le_trans (Nat.le_of_lt Lm) h3, ?_⟩
        · have := fl (L + 1) z
          omega
        · exact Nat.le_trans (Nat.pow_le_pow_left (Nat.le_of_lt Lm) g) h4
    have top : v < (2 ^ S) ^ n := by
      rw [← Nat.pow_mul]
      exact Nat.lt_of_lt_of_le lb (Nat.pow_le_pow_right (by decide) (by rw [Nat.mul_comm]; exact s1))
    have T1 : 1 ≤ 2 ^ S := Nat.pow_pos (by decide)
    cases c1 : decide ((8 : Int) < (n : Int)) with
    | false => exact tail (2 ^ S) none none T1 (Nat.le_refl _) top
    | true =>
      simp only []
      cases c2 : decide ((8 : Int) < (S : Int)) with
      | false => exact tail (2 ^ S) none none T1 (Nat.le_refl _) top
      | true =>
        have c2' := of_decide_eq_true c2
        simp only []
        cases d with
        | zero => omega
        | succ d =>
          have eh : (S : Int) / 2 = ((S / 2 : Nat) : Int) := by omega
          rw [eh]
          obtain ⟨h, hh⟩ : ∃ h, S / 2 = h := ⟨_, rfl⟩
          rw [hh]
          have ew : (v : Int) / 2 ^ ((n : Int) * (h : Int)).toNat = ((v / 2 ^ (n * h) : Nat) : Int) := by
            have e3 : (n : Int) * (h : Int) = ((n * h : Nat) : Int) := by rw [Int.natCast_mul]
            rw [e3, Int.toNat_natCast, Int.natCast_ediv, Int.natCast_pow] <;> rfl
          rw [ew]
          have p0 : 0 < 2 ^ (n * h) := Nat.pow_pos (by decide)
          have hw : v / 2 ^ (n * h) < 2 ^ (n * (S - h)) := by
            refine Nat.div_lt_of_lt_mul ?_
            rw [← Nat.pow_add, ← Nat.mul_add]
            have e4 : h + (S - h) = S := by omega
            rw [e4, Nat.mul_comm, Nat.pow_mul]
            exact top
          refine ⟨⟨by decide, by decide⟩, mulOk (a := 10) (b := 13) (by rw [Int.natAbs_natCast]; omega) (by rw [Int.natAbs_natCast]; omega) (by decide), Int.mul_nonneg (Int.natCast_nonneg _) (Int.natCast_nonneg _), v / 2 ^ (n * h), n, rfl, hn1, hn, Nat.lt_of_le_of_lt (Nat.div_le_self _ _) hv, ?_, fun r r1 r2 => ?_⟩
          · refine lt_big hw (Nat.mul_le_mul_left n ?_)
            rw [Nat.pow_succ] at s3
            omega
          · have rS : r < 2 ^ (S - h) := by
              refine Nat.lt_of_not_le fun z => ?_
              have := Nat.pow_le_pow_left z n
              rw [← Nat.pow_mul, Nat.mul_comm (S - h) n] at this
              omega
            have e5 : ((r : Int) + 1) * 2 ^ ((h : Int)).toNat = (((r + 1) * 2 ^ h : Nat) : Int) := by
              rw [Int.toNat_natCast, Int.natCast_mul, Int.natCast_pow, Int.natCast_add] <;> rfl
            have rb : r + 1 < 2 ^ 6201 := Nat.lt_of_le_of_lt (Nat.le_trans (show r + 1 ≤ 2 ^ (S - h) from rS) (Nat.pow_le_pow_right (by decide) (show S - h ≤ 6200 by omega))) (Nat.pow_lt_pow_right (by decide) (by decide))
            refine ⟨shl_ok (n := 6201) (by
              have : ((r : Int) + 1).natAbs = r + 1 := by omega
              rw [this]
              exact rb) (by omega), ?_⟩
            rw [e5]
            refine tail ((r + 1) * 2 ^ h) _ _ (Nat.mul_pos (by omega) (Nat.pow_pos (by decide))) ?_ ?_
            · have e6 : 2 ^ S = 2 ^ (S - h) * 2 ^ h := by
                rw [← Nat.pow_add]
                congr 1
                omega
              rw [e6]
              exact Nat.mul_le_mul_right _ rS
            · have e7 : ((r + 1) * 2 ^ h) ^ n = (r + 1) ^ n * 2 ^ (n * h) := by
                rw [Nat.mul_pow, ← Nat.pow_mul, Nat.mul_comm h n]
              rw [e7]
              exact Nat.lt_mul_of_div_lt r2 p0

/-! a root, or none -/
def sp_exact_root : SpD := fun ds μ P _ => ∃ v n : Nat, ds = [.int (v : Int), .int (n : Int)] ∧ 1 ≤ n ∧ n ≤ 1000 ∧ v < 2 ^ 6200 ∧ (∀ r : Nat, r ^ n = v → P (.int (r : Int)) μ) ∧ ((∀ r : Nat, r ^ n ≠ v) → P .non μ)
theorem len_exact_root : ∀ ds μ Pd R, sp_exact_root ds μ Pd R → ds.length = 2 := fun ds μ Pd R ⟨i, l, e, _⟩ => by rw [e] <;> rfl
def W_exact_root : WS :=
  (wSeq (wWhile (wB (wOp wEq (wOp wMod (wVar 1) (wC (.int 2))) (wC (.int 0)))) (wSeq (wAsg (wCB wIsqrt (wCons (wVar 0) wNil)) (wgName 2))
  (wSeq (wIfS (wB (wOp wNe (wOp wMul (wVar 2) (wVar 2)) (wVar 0))) (wRet (wC .non)) wNext)
  (wPar 0 1 (wCons (wVar 2) (wCons (wOp wDiv (wVar 1) (wC (.int 2))) wNil))))))
  (wSeq (wIfS (wB (wOp wEq (wVar 1) (wC (.int 1)))) (wRet (wVar 0)) wNext)
  (wSeq (wAsg (wCall sp_floor_root (wCons (wVar 0) (wCons (wVar 1) wNil))) (wgName 2))
  (wRet (wIf (wB (wOp wEq (wCall sp_power_of (wCons (wVar 2) (wCons (wVar 1) wNil))) (wVar 0))) (wVar 2) (wC .non))))))
theorem vc_exact_root : ∀ ds μ Pd R, sp_exact_root ds μ Pd R → W_exact_root (fun _ C fs μ' => R C fs μ') { nx := fun _ μ' => Pd .non μ', rt := Pd } (startD 3 ds) μ := by
  intro ds μ Pd R h
  obtain ⟨v, n, rfl, hn1, hn, hv, k1, k2⟩ := h
  unfold W_exact_root
  walk_at "hd"
  unfold wWhile
  refine ⟨fun m δ' μ' => ∃ (x e : Nat) (y : Option D), δ' = [some (.int (x : Int)), some (.int (e : Int)), y] ∧ μ' = μ ∧ m = e ∧ 1 ≤ e ∧ e ≤ n ∧ x ≤ v ∧ ∀ r : Nat, r ^ n = v ↔ r ^ e = x, ⟨n, v, n, none, rfl, rfl, rfl, hn1, Nat.le_refl _, Nat.le_refl _, fun _ => Iff.rfl⟩, ?_⟩
  rintro m δ' μ' ⟨x, e, y, rfl, rfl, rfl, h1, h2, h3, h4⟩
  walk_at "hd"
  refine ⟨by decide, ?_⟩
  cases c : decide ((m : Int) % 2 = 0) with
  | true =>
    have c' := of_decide_eq_true c
    simp only []
    obtain ⟨g, rfl⟩ : ∃ g, m = g * 2 := ⟨m / 2, by omega⟩
    refine ⟨⟨Int.natCast_nonneg _, by
      have e : ((2 ^ 8000 : Nat) : Int) = (2 : Int) ^ 8000 := by rw [Int.natCast_pow] <;> rfl
      rw [← e]
      exact Int.ofNat_lt.mpr (lt_big (Nat.lt_of_le_of_lt h3 hv) (by decide))⟩, fun r hr0 hr1 hr2 => ?_⟩
    obtain ⟨w, rfl⟩ := Int.eq_ofNat_of_zero_le hr0
    have ww : (w : Int) * (w : Int) = ((w * w : Nat) : Int) := by rw [Int.natCast_mul]
    have ww1 : ((w : Int) + 1) * ((w : Int) + 1) = (((w + 1) * (w + 1) : Nat) : Int) := by rw [Int.natCast_mul, Int.natCast_add] <;> rfl
    rw [ww] at hr1
    rw [ww1] at hr2
    have wv : w ≤ w * w := Nat.le_mul_self w
    have wb' : w < 2 ^ 6200 := Nat.lt_of_le_of_lt (Nat.le_trans wv (show w * w ≤ x by omega)) (Nat.lt_of_le_of_lt h3 hv)
    rw [ww]
    refine ⟨mulOk (a := 6200) (b := 6200) (by rw [Int.natAbs_natCast]; exact wb') (by rw [Int.natAbs_natCast]; exact wb') (by decide), ?_⟩
    have sq : ∀ r : Nat, r ^ (g * 2) = r ^ g * r ^ g := fun r => by rw [Nat.pow_mul, Nat.pow_two]
    cases c2 : decide (((w * w : Nat) : Int) = (x : Int)) with
    | true =>
      have c2' := of_decide_eq_true c2
      have ex : x = w * w := by omega
      simp only [Bool.not_true]
      have eh : ((g * 2 : Nat) : Int) / 2 = (g : Int) := by omega
      rw [eh]
      refine ⟨⟨by decide, by decide⟩, g, by omega, w, g, _, rfl, rfl, by omega, by omega, by omega, fun r => (h4 r).trans ?_⟩
      rw [sq, ex]
      exact ⟨fun h => Nat.mul_self_inj.mp h, fun h => by rw [h]⟩
    | false =>
      have c2' := of_decide_eq_false c2
      simp only [Bool.not_false]
      refine k2 fun r hr => c2' ?_
      have q := (h4 r).mp hr
      rw [sq] at q
      have : r ^ g = w := by
        refine Nat.le_antisymm (Nat.le_of_not_lt fun z => ?_) (Nat.le_of_not_lt fun z => ?_)
        · have := Nat.mul_le_mul (show w + 1 ≤ r ^ g from z) (show w + 1 ≤ r ^ g from z)
          omega
        · have := Nat.mul_self_lt_mul_self z
          omega
      rw [this] at q
      omega
  | false =>
    simp only []
    cases c1 : decide ((m : Int) = 1) with
    | true =>
      have c1' : m = 1 := by
        have := of_decide_eq_true c1
        omega
      exact k1 x ((h4 x).mpr (by rw [c1', Nat.pow_one]))
    | false =>
    simp only []
    refine ⟨x, m, rfl, h1, by omega, Nat.lt_of_le_of_lt h3 hv, floor_fuel h1 (Nat.lt_of_le_of_lt h3 hv), fun r r1 r2 => ?_⟩
    walk_at "hd"
    have rb : r < 2 ^ 6200 := Nat.lt_of_le_of_lt (Nat.le_trans (pow_ge h1) r1) (Nat.lt_of_le_of_lt h3 hv)
    refine powN ⟨r, m, rfl, by omega, .inr (lt_big rb (by decide)), ?_⟩
    simp only []
    cases c2 : decide (((r ^ m : Nat) : Int) = (x : Int)) with
    | true =>
      have c2' := of_decide_eq_true c2
      exact k1 r ((h4 r).mpr (by omega))
    | false =>
      have c2' := of_decide_eq_false c2
      refine k2 fun s hs => ?_
      have hs' := (h4 s).mp hs
      have a : s ≤ r := Nat.le_of_lt_succ (Nat.lt_of_not_le fun z => by
        have := Nat.pow_le_pow_left (show r + 1 ≤ s from z) m
        omega)
      have b : r ≤ s := Nat.le_of_not_lt fun z => by
        have := Nat.pow_lt_pow_left z (by omega : m ≠ 0)
        omega
      have e : r = s := by omega
      subst e
      omega

/-! the root and the exponent of an integer that no small prime divides -/
def rrowD (t : Nat × Nat × List Nat) : D := .tup [.int (t.1 : Int), .int (t.2.1 : Int), .tup ((t.2.2.map Int.ofNat).map D.int)]
theorem rtab_is : c_POWER_RESTS = .tup (RTAB.map rrowD) := by rfl
def sp_rough_root_by : SpD := fun ds μ P _ => ∃ v n : Nat, ds = [.int (v : Int), .int (n : Int)] ∧ 1 ≤ v ∧ v < 2 ^ 136 ∧ Nat.gcd v SML = 1 ∧ ∀ r e : Nat, GPow v n r e → (v = 1 → r = 1) → P (.tup [.int (r : Int), .int (e : Int)]) μ
theorem len_rough_root_by : ∀ ds μ Pd R, sp_rough_root_by ds μ Pd R → ds.length = 2 := fun ds μ Pd R ⟨i, l, e, _⟩ => by rw [e] <;> rfl
theorem rtab_cover {q : Nat} (h : q < 17) (hq : IsPr q) : ∃ t ∈ RTAB, t.1 = q := by
  have key : ((List.range 17).all fun q => (RTAB.any fun t => t.1 == q) || ((List.range q).any fun d => decide (1 < d) && q % d == 0) || decide (q < 2)) = true := by decide +kernel
  have z := List.all_eq_true.mp key q (List.mem_range.mpr h)
  rw [Bool.or_eq_true, Bool.or_eq_true] at z
  have h2 := hq.1
  rcases z with (z | z) | z
  · obtain ⟨t, ht, e⟩ := List.any_eq_true.mp z
    exact ⟨t, ht, by simpa using e⟩
  · obtain ⟨d, hd, e⟩ := List.any_eq_true.mp z
    rw [Bool.and_eq_true] at e
    have e1 := of_decide_eq_true e.1
    have e2 := List.mem_range.mp hd
    rcases hq.2 d (Nat.dvd_of_mod_eq_zero (by simpa using e.2)) with w | w <;> omega
  · have := of_decide_eq_true z
    omega
theorem rtab_asc : ∀ i j : Nat, ∀ t u, RTAB[i]? = some t → RTAB[j]? = some u → i ≤ j → t.1 ≤ u.1 := by
  have key : ∀ i, i < 6 → ∀ j, j < 6 → i ≤ j → (RTAB.getD i (0, 0, [])).1 ≤ (RTAB.getD j (0, 0, [])).1 := by decide +kernel
  intro i j t u hi hj hij
  have li : i < 6 := (List.getElem?_eq_some_iff.mp hi).1
  have lj : j < 6 := (List.getElem?_eq_some_iff.mp hj).1
  have q := key i li j lj hij
  rw [List.getD_eq_getElem?_getD, List.getD_eq_getElem?_getD, hi, hj] at q
  exact q
structure RStep (v n0 i x n e : Nat) : Prop where
  x1 : 1 ≤ x
  xne : x ≠ 1
  xv : x ≤ v
  e1 : 1 ≤ e
  ev : e < 200
  hv : x ^ e = v
  hn : n0 = n * e
  cop : Nat.gcd x SML = 1
  no : ∀ (j : Nat) t, j < i → RTAB[j]? = some t → t.1 ∣ n → ∀ u, u ^ t.1 ≠ x
theorem RStep.fin {v n0 i x n e : Nat} (s : RStep v n0 i x n e) (h : ∀ q, IsPr q → (∀ (j : Nat) t, j < i → RTAB[j]? = some t → t.1 ≠ q) → ∀ u, u ^ q ≠ x) : GPow v n0 x e :=
  rough_end s.hv s.e1 s.xne s.hn fun q hq hd u hu => by
    by_cases c : ∃ (j : Nat) (t : Nat × Nat × List Nat), j < i ∧ RTAB[j]? = some t ∧ t.1 = q
    · obtain ⟨j, t, h1, h2, h3⟩ := c
      subst h3
      exact s.no j t h1 h2 hd u hu
    · exact h q hq (fun j t h1 h2 h3 => c ⟨j, t, h1, h2, h3⟩) u hu
theorem great_pow {x u q : Nat} (hc : Nat.gcd x SML = 1) (x1 : 1 ≤ x) (xn : x ≠ 1) (hq : 1 ≤ q) (h : u ^ q = x) : 2 ^ (8 * q) < x := by
  have u0 : 1 ≤ u := Nat.pos_of_ne_zero fun z => by
    rw [z, Nat.zero_pow hq] at h
    omega
  have u1 : u ≠ 1 := fun z => xn (by rw [← h, z, Nat.one_pow])
  have ud : u ∣ x := by
    rw [← h]
    have := Nat.pow_dvd_pow u hq
    rwa [Nat.pow_one] at this
  have g := sml_great hc ud u1 u0
  rw [← h, Nat.pow_mul]
  exact Nat.pow_lt_pow_left g (by omega)
def W_rough_root_by : WS :=
  (wSeq (wIfS (wB (wOp wEq (wVar 0) (wC (.int 1)))) (wRet (wTup (wCons (wC (.int 1)) (wCons (wVar 1) wNil)))) wNext)
  (wSeq (wAsg (wC (.int 1)) (wgName 2))
  (wSeq (wForL (wC c_POWER_RESTS) (wgTup 3 (wgCons (wgName 3) (wgCons (wgName 4) (wgCons (wgName 5) wgEnd)))) (wSeq (wIfS (wB (wOp wLe (wBits (wVar 0)) (wOp wMul (wC (.int 8)) (wVar 3)))) wBrk wNext)
  (wWhile (wAnd (wB (wOp wEq (wOp wMod (wVar 1) (wVar 3)) (wC (.int 0)))) (wB (wOp wInI (wOp wMod (wVar 0) (wVar 4)) (wVar 5)))) (wSeq (wAsg (wCall sp_exact_root (wCons (wVar 0) (wCons (wVar 3) wNil))) (wgName 6))
  (wSeq (wIfS (wB (wOp wIsN (wVar 6) (wC .non))) wBrk wNext)
  (wPar3 0 1 2 (wCons (wVar 6) (wCons (wOp wDiv (wVar 1) (wVar 3)) (wCons (wOp wMul (wVar 2) (wVar 3)) wNil)))))))))
  (wRet (wTup (wCons (wVar 0) (wCons (wVar 2) wNil)))))))
theorem vc_rough_root_by : ∀ ds μ Pd R, sp_rough_root_by ds μ Pd R → W_rough_root_by (fun _ C fs μ' => R C fs μ') { nx := fun _ μ' => Pd .non μ', rt := Pd } (startD 7 ds) μ := by
  intro ds μ Pd R h
  obtain ⟨v, n0, rfl, hv1, hv, hc, k⟩ := h
  unfold W_rough_root_by
  walk_at "hd"
  cases c0 : decide ((v : Int) = 1) with
  | true =>
    have c0' : v = 1 := by
      have := of_decide_eq_true c0
      omega
    subst c0'
    simp only []
    exact ⟨by decide, k 1 n0 (GPow.one n0) fun _ => rfl⟩
  | false =>
    have vne : v ≠ 1 := by
      have := of_decide_eq_false c0
      omega
    simp only []
    unfold wForL
    refine ⟨RTAB.map rrowD, fun i δ' μ' => μ' = μ ∧ ∃ (x n e : Nat) (x3 x4 x5 x6 : Option D), δ' = [some (.int (x : Int)), some (.int (n : Int)), some (.int (e : Int)), x3, x4, x5, x6] ∧ RStep v n0 i x n e, ⟨rfl, v, n0, 1, none, none, none, none, rfl, ⟨hv1, vne, Nat.le_refl _, by decide, by decide, Nat.pow_one v, (Nat.mul_one n0).symm, hc, fun j t hj => by omega⟩⟩, fun i δ' μ' _ _ => by rw [rtab_is] <;> rfl, ?_, ?_⟩
    · rintro i d δ' μ' hi ⟨rfl, x, n, e, x3, x4, x5, x6, rfl, st⟩
      rw [List.getElem?_map] at hi
      obtain ⟨t, ht, rfl⟩ := Option.map_eq_some_iff.mp hi
      have mem : t ∈ RTAB := List.mem_of_getElem? ht
      obtain ⟨tp, t13, m0, m1, _⟩ := rrow_ok mem
      have t2 := tp.1
      unfold rrowD
      walk_at "hd"
      refine ⟨mulOk (a := 4) (b := 10) (by decide) (by rw [Int.natAbs_natCast]; omega) (by decide), ?_⟩
      have lb := bits_lt x
      generalize Builtin.Int.intBits (x : Int) = w at *
      cases cw : decide ((w : Int) ≤ 8 * (t.1 : Int)) with
      | true =>
        have cw' : w ≤ 8 * t.1 := by
          have := of_decide_eq_true cw
          omega
        simp only []
        refine ⟨by decide, k x e (st.fin fun q hq hno u hu => ?_) fun z => absurd z vne⟩
        have hq2 := hq.1
        have g := great_pow st.cop st.x1 st.xne (by omega) hu
        have qt : q < t.1 := by
          refine Nat.lt_of_not_le fun z => ?_
          have : (2 : Nat) ^ w ≤ 2 ^ (8 * q) := Nat.pow_le_pow_right (by decide) (by omega)
          omega
        obtain ⟨u', hu', e'⟩ := rtab_cover (show q < 17 by omega) hq
        obtain ⟨j, hj⟩ := List.mem_iff_getElem?.mp hu'
        refine hno j u' (Nat.lt_of_not_le fun z => ?_) hj e'
        have := rtab_asc i j t u' ht hj z
        omega
      | false =>
        simp only []
        obtain ⟨p, m, rs⟩ := t
        simp only [] at t2 t13 m0 m1 tp
        have rin := fun u (hu : Nat.gcd u SML = 1) => rrest_in mem (u := u) hu
        simp only [] at rin
        have dvd : ∀ x y : Nat, (x : Int) % (y : Int) = 0 ↔ y ∣ x := fun x y => by
          rw [← Int.natCast_emod]
          exact ⟨fun z => Nat.dvd_of_mod_eq_zero (by omega), fun z => by
            have := Nat.mod_eq_zero_of_dvd z
            omega⟩
        unfold wWhile
        refine ⟨fun z δ' μ'' => μ'' = μ' ∧ ∃ (x' n' e' : Nat) (x6 : Option D), δ' = [some (.int (x' : Int)), some (.int (n' : Int)), some (.int (e' : Int)), some (.int (p : Int)), some (.int (m : Int)), some (.tup (List.map D.int (List.map Int.ofNat rs))), x6] ∧ z = x' ∧ RStep v n0 i x' n' e', ⟨x, rfl, x, n, e, x6, rfl, rfl, st⟩, ?_⟩
        rintro z δ' μ'' ⟨rfl, x', n', e', x6, rfl, rfl, st'⟩
        walk_at "hd"
        refine ⟨by omega, ?_⟩
        have no' : (p ∣ n' → ∀ u, u ^ p ≠ z) → ∀ (j : Nat) t, j < i + 1 → RTAB[j]? = some t → t.1 ∣ n' → ∀ u, u ^ t.1 ≠ z := fun h j t hj ht' hd u hu => by
          by_cases ej : j = i
          · subst ej
            rw [ht] at ht'
            cases ht'
            exact h hd u hu
          · exact st'.no j t (by omega) ht' hd u hu
        have leave : (p ∣ n' → ∀ u, u ^ p ≠ z) → ∃ (x n e : Nat) (y3 y4 y5 y6 : Option D), [some (D.int (z : Int)), some (D.int (n' : Int)), some (D.int (e' : Int)), some (D.int (p : Int)), some (D.int (m : Int)), some (D.tup (List.map D.int (List.map Int.ofNat rs))), x6] = [some (.int (x : Int)), some (.int (n : Int)), some (.int (e : Int)), y3, y4, y5, y6] ∧ RStep v n0 (i + 1) x n e := fun h =>
          ⟨z, n', e', _, _, _, _, rfl, { st' with no := no' h }⟩
        cases cn : decide ((n' : Int) % (p : Int) = 0) with
        | false =>
          have cn' : ¬ p ∣ n' := fun z => of_decide_eq_false cn ((dvd _ _).mpr z)
          exact leave fun w => absurd w cn'
        | true =>
          have cn' := (dvd _ _).mp (of_decide_eq_true cn)
          simp only []
          refine ⟨by omega, _, rfl, ?_⟩
          cases cx : (rs.map Int.ofNat).contains ((z : Int) % (m : Int)) with
          | false =>
            refine leave fun _ u hu => ?_
            have hcu : Nat.gcd u SML = 1 := pow_cop (q := p) (by omega) (by rw [hu]; exact st'.cop)
            have := rin u hcu
            rw [hu, cx] at this
            cases this
          | true =>
            simp only []
            have z136 : z < 2 ^ 136 := Nat.lt_of_le_of_lt st'.xv hv
            refine ⟨z, p, rfl, by omega, by omega, lt_big z136 (by decide), fun r hr => ?_, fun hno => ?_⟩
            · simp only []
              obtain ⟨f, rfl⟩ := cn'
              have ee : (e' : Int) * (p : Int) = ((e' * p : Nat) : Int) := by rw [Int.natCast_mul]
              have ed : ((p * f : Nat) : Int) / (p : Int) = (f : Int) := by
                rw [← Int.natCast_ediv, Nat.mul_div_cancel_left f (by omega)]
              rw [ee, ed]
              have r1 : 1 ≤ r := Nat.pos_of_ne_zero fun y => by
                rw [y, Nat.zero_pow (by omega)] at hr
                have := st'.x1
                omega
              have rne : r ≠ 1 := fun y => st'.xne (by rw [← hr, y, Nat.one_pow])
              have rz : r < z := by
                rw [← hr]
                have q1 : r ^ 2 ≤ r ^ p := Nat.pow_le_pow_right r1 t2
                have q2 : r * 2 ≤ r * r := Nat.mul_le_mul_left r (by omega)
                rw [Nat.pow_two] at q1
                omega
              have hve : r ^ (e' * p) = v := by rw [Nat.mul_comm, Nat.pow_mul, hr, st'.hv]
              have elt : e' * p < 200 := by
                refine Nat.lt_of_not_le fun y => ?_
                have q1 : (2 : Nat) ^ 200 ≤ 2 ^ (e' * p) := Nat.pow_le_pow_right (by decide) y
                have q2 : 2 ^ (e' * p) ≤ r ^ (e' * p) := Nat.pow_le_pow_left (show 2 ≤ r by omega) _
                rw [hve] at q2
                have q3 : (2 : Nat) ^ 136 < 2 ^ 200 := by decide +kernel
                omega
              have e2 : 1 * 1 ≤ e' * p := Nat.mul_le_mul st'.e1 (by omega)
              have ev' := st'.ev
              refine ⟨divOkN (show 1 ≤ p by omega) (show p < 2 ^ 4 by omega) (by decide), mulOk (a := 8) (b := 4) (by rw [Int.natAbs_natCast]; omega) (by rw [Int.natAbs_natCast]; omega) (by decide), r, rz, trivial, r, f, e' * p, _, rfl, rfl, ⟨r1, rne, by have := st'.xv; omega, by omega, elt, hve, by rw [st'.hn, Nat.mul_comm p f, Nat.mul_assoc, Nat.mul_comm p e'], pow_cop (q := p) (by omega) (by rw [hr]; exact st'.cop), fun j t hj ht' hd u hu => ?_⟩⟩
              exact st'.no j t hj ht' (Nat.dvd_trans hd (Nat.dvd_mul_left f p)) (u ^ p) (by rw [← Nat.pow_mul, Nat.mul_comm, Nat.pow_mul, hu, hr])
            · simp only []
              have : ∃ (x n e : Nat) (y3 y4 y5 y6 : Option D), [some (D.int (z : Int)), some (D.int (n' : Int)), some (D.int (e' : Int)), some (D.int (p : Int)), some (D.int (m : Int)), some (D.tup (List.map D.int (List.map Int.ofNat rs))), some D.non] = [some (.int (x : Int)), some (.int (n : Int)), some (.int (e : Int)), y3, y4, y5, y6] ∧ RStep v n0 (i + 1) x n e := by
                obtain ⟨x, n, e, _, _, _, _, hl, hs⟩ := leave fun _ u hu => hno u hu
                cases hl
                exact ⟨z, n', e', _, _, _, _, rfl, hs⟩
              exact ⟨trivial, this⟩
    · rintro δ' μ' ⟨rfl, x, n, e, x3, x4, x5, x6, rfl, st⟩
      walk_at "hd"
      refine ⟨by decide, k x e (st.fin fun q hq hno u hu => ?_) fun z => absurd z vne⟩
      have hq2 := hq.1
      by_cases q17 : q < 17
      · obtain ⟨u', hu', e'⟩ := rtab_cover q17 hq
        obtain ⟨j, hj⟩ := List.mem_iff_getElem?.mp hu'
        exact hno j u' (by rw [List.length_map]; exact (List.getElem?_eq_some_iff.mp hj).1) hj e'
      · have g := great_pow st.cop st.x1 st.xne (by omega) hu
        have xv := st.xv
        have : (2 : Nat) ^ 136 ≤ 2 ^ (8 * q) := Nat.pow_le_pow_right (by decide) (by omega)
        omega

/-! how often an integer can be divided, and what is left -/
def spr_divided_out (d : Nat) : SpD := fun ds μ P _ => ∃ v c : Nat, ds = [.int (v : Int), .int (c : Int)] ∧ 2 ≤ c ∧ 1 ≤ v ∧ c ∣ v ∧ v < 2 ^ 200 ∧ v < c ^ (2 ^ d) ∧ ∀ t y : Nat, 1 ≤ t → t < 200 → v = c ^ t * y → ¬ c ∣ y → P (.tup [.int (t : Int), .int (y : Int)]) μ
def sp_divided_out : SpD := spr_divided_out 8
theorem out_fuel {v c : Nat} (hc : 2 ≤ c) (hv : v < 2 ^ 200) : v < c ^ (2 ^ 8) := Nat.lt_of_lt_of_le (lt_big hv (by decide : 200 ≤ 256)) (Nat.pow_le_pow_left hc 256)
theorem len_divided_out (d : Nat) : ∀ ds μ Pd R, spr_divided_out d ds μ Pd R → ds.length = 2 := fun ds μ Pd R ⟨i, l, e, _⟩ => by rw [e] <;> rfl
theorem pow_few {c t y v : Nat} (hc : 2 ≤ c) (hv : v < 2 ^ 200) (v1 : 1 ≤ v) (h : v = c ^ t * y) : t < 200 := by
  refine Nat.lt_of_not_le fun z => ?_
  have y1 : 1 ≤ y := Nat.pos_of_ne_zero fun w => by
    rw [w, Nat.mul_zero] at h
    omega
  have q1 : (2 : Nat) ^ 200 ≤ 2 ^ t := Nat.pow_le_pow_right (by decide) z
  have q2 := Nat.pow_le_pow_left hc t
  have q3 : c ^ t * 1 ≤ c ^ t * y := Nat.mul_le_mul_left _ y1
  omega
def W_divided_out (rec : SpD) : WS :=
  (wSeq (wAsg (wOp wMul (wVar 1) (wVar 1)) (wgName 2))
  (wSeq (wIfS (wB (wOp wNe (wOp wMod (wVar 0) (wVar 2)) (wC (.int 0)))) (wRet (wTup (wCons (wC (.int 1)) (wCons (wOp wDiv (wVar 0) (wVar 1)) wNil)))) wNext)
  (wSeq (wAsg (wCall rec (wCons (wVar 0) (wCons (wVar 2) wNil))) (wgTup 2 (wgCons (wgName 3) (wgCons (wgName 4) wgEnd))))
  (wSeq (wIfS (wB (wOp wNe (wOp wMod (wVar 4) (wVar 1)) (wC (.int 0)))) (wRet (wTup (wCons (wOp wMul (wC (.int 2)) (wVar 3)) (wCons (wVar 4) wNil)))) wNext)
  (wRet (wTup (wCons (wOp wAdd (wOp wMul (wC (.int 2)) (wVar 3)) (wC (.int 1))) (wCons (wOp wDiv (wVar 4) (wVar 1)) wNil))))))))
theorem vc_divided_out : ∀ (d : Nat) ds μ Pd R, spr_divided_out d ds μ Pd R → W_divided_out (recS spr_divided_out d) (fun _ C fs μ' => R C fs μ') { nx := fun _ μ' => Pd .non μ', rt := Pd } (startD 5 ds) μ := by
  intro d ds μ Pd R h
  obtain ⟨v, c, rfl, hc, hv1, hcv, hv, hf, k⟩ := h
  unfold W_divided_out
  walk_at "hd"
  have cv := Nat.le_of_dvd hv1 hcv
  have c200 : c < 2 ^ 200 := by omega
  have cc : (c : Int) * (c : Int) = ((c * c : Nat) : Int) := by rw [Int.natCast_mul]
  rw [cc]
  have c4 : 2 * c ≤ c * c := Nat.mul_le_mul_right c hc
  refine ⟨mulOk (a := 200) (b := 200) (by rw [Int.natAbs_natCast]; exact c200) (by rw [Int.natAbs_natCast]; exact c200) (by decide), by omega, ?_⟩
  have dvd : ∀ x y : Nat, (x : Int) % (y : Int) = 0 ↔ y ∣ x := fun x y => by
    rw [← Int.natCast_emod]
    exact ⟨fun z => Nat.dvd_of_mod_eq_zero (by omega), fun z => by
      have := Nat.mod_eq_zero_of_dvd z
      omega⟩
  have dc : DivOk (c : Int) := divOkN (by omega) c200 (by decide)
  cases c1 : decide ((v : Int) % ((c * c : Nat) : Int) = 0) with
  | false =>
    have c1' : ¬ c * c ∣ v := fun z => of_decide_eq_false c1 ((dvd _ _).mpr z)
    simp only [Bool.not_false]
    obtain ⟨y, rfl⟩ := hcv
    have e : ((c * y : Nat) : Int) / (c : Int) = (y : Int) := by
      rw [← Int.natCast_ediv, Nat.mul_div_cancel_left y (by omega)]
    rw [e]
    refine ⟨dc, by decide, k 1 y (by decide) (by decide) (by rw [Nat.pow_one]) fun z => c1' (Nat.mul_dvd_mul_left c z)⟩
  | true =>
    have c1' := (dvd _ _).mp (of_decide_eq_true c1)
    simp only [Bool.not_true]
    have ccv := Nat.le_of_dvd hv1 c1'
    cases d with
    | zero =>
      rw [Nat.pow_zero, Nat.pow_one] at hf
      omega
    | succ d =>
      refine ⟨v, c * c, rfl, by omega, hv1, c1', hv, ?_, fun t y t1 tl e ny => ?_⟩
      · rw [← Nat.pow_two, ← Nat.pow_mul, Nat.mul_comm, ← Nat.pow_succ]
        exact hf
      · have e2 : v = c ^ (2 * t) * y := by rw [e, ← Nat.pow_two, ← Nat.pow_mul]
        refine ⟨rfl, by omega, ?_⟩
        cases c2 : decide ((y : Int) % (c : Int) = 0) with
        | false =>
          have c2' : ¬ c ∣ y := fun z => of_decide_eq_false c2 ((dvd _ _).mpr z)
          simp only [Bool.not_false]
          have e3 : (2 : Int) * (t : Int) = ((2 * t : Nat) : Int) := by omega
          rw [e3]
          exact ⟨mulOk (a := 2) (b := 10) (by decide) (by rw [Int.natAbs_natCast]; omega) (by decide), by decide, k (2 * t) y (by omega) (pow_few hc hv hv1 e2) e2 c2'⟩
        | true =>
          have c2' := (dvd _ _).mp (of_decide_eq_true c2)
          simp only [Bool.not_true]
          obtain ⟨z, rfl⟩ := c2'
          have e3 : (2 : Int) * (t : Int) + 1 = ((2 * t + 1 : Nat) : Int) := by omega
          have e4 : ((c * z : Nat) : Int) / (c : Int) = (z : Int) := by
            rw [← Int.natCast_ediv, Nat.mul_div_cancel_left z (by omega)]
          have e5 : v = c ^ (2 * t + 1) * z := by rw [e2, Nat.pow_succ, Nat.mul_assoc]
          rw [e3, e4]
          exact ⟨mulOk (a := 2) (b := 10) (by decide) (by rw [Int.natAbs_natCast]; omega) (by decide), dc, by decide, k (2 * t + 1) z (by omega) (pow_few hc hv hv1 e5) e5 fun w => ny (Nat.mul_dvd_mul_left c w)⟩

/-! the root and the exponent of an integer -/
theorem small_is : c_SMALL_PRIMES.natAbs = SML := by decide +kernel
def prodL (L : List (Nat × Nat)) : Nat := L.foldr (fun ct a => ct.1 ^ ct.2 * a) 1
theorem prodL_app : ∀ (L : List (Nat × Nat)) (c t : Nat), prodL (L ++ [(c, t)]) = prodL L * c ^ t
  | [], c, t => by
    show c ^ t * 1 = 1 * c ^ t
    rw [Nat.mul_one, Nat.one_mul]
  | (a, b) :: L, c, t => by
    show a ^ b * prodL (L ++ [(c, t)]) = a ^ b * prodL L * c ^ t
    rw [prodL_app L c t, Nat.mul_assoc]
def ctD (ct : Nat × Nat) : D := .tup [.int (ct.1 : Int), .int (ct.2 : Int)]
structure IStep (v n0 : Nat) (L : List (Nat × Nat)) (rest n c : Nat) : Prop where
  prod : v = prodL L * rest
  r1 : 1 ≤ rest
  small : 2 ^ L.length * rest ≤ v
  nd : n ∣ n0
  tds : ∀ ct ∈ L, n ∣ ct.2 ∧ 1 ≤ ct.2 ∧ 2 ≤ ct.1 ∧ ct.2 < 200 ∧ ct.1 ≤ v
  pow : ∀ m s : Nat, m ∣ n0 → s ^ m = v → m ∣ n ∧ ∃ u, u ^ m = rest
  cop : Nat.gcd rest SML = c
theorem GPow.whole {v n : Nat} (h : ∀ m s : Nat, m ∣ n → s ^ m = v → m = 1) : GPow v n v 1 := ⟨Nat.pow_one v, Nat.one_dvd n, fun m s hm hs => by rw [h m s hm hs]; exact Nat.dvd_refl 1⟩
def sp_integer_root_by : SpD := fun ds μ P _ => ∃ v n : Nat, ds = [.int (v : Int), .int (n : Int)] ∧ 1 ≤ v ∧ v < 2 ^ 136 ∧ ∀ r e : Nat, GPow v n r e → (v = 1 → r = 1) → P (.tup [.int (r : Int), .int (e : Int)]) μ
theorem len_integer_root_by : ∀ ds μ Pd R, sp_integer_root_by ds μ Pd R → ds.length = 2 := fun ds μ Pd R ⟨i, l, e, _⟩ => by rw [e] <;> rfl
def W_integer_root_by : WS :=
  (wSeq (wIfS (wB (wOp wEq (wVar 0) (wC (.int 1)))) (wRet (wTup (wCons (wC (.int 1)) (wCons (wVar 1) wNil)))) wNext)
  (wSeq (wAsg (wCB wGcd (wCons (wVar 0) (wCons (wC (.int c_SMALL_PRIMES)) wNil))) (wgName 2))
  (wSeq (wIfS (wAnd (wB (wOp wGt (wVar 2) (wC (.int 1)))) (wB (wOp wNe (wOp wMod (wVar 0) (wOp wMul (wVar 2) (wVar 2))) (wC (.int 0))))) (wRet (wTup (wCons (wVar 0) (wCons (wC (.int 1)) wNil)))) wNext)
  (wSeq (wAsg (wLst wNil) (wgName 3))
  (wSeq (wAsg (wVar 0) (wgName 4))
  (wSeq (wWhile (wB (wOp wGt (wVar 2) (wC (.int 1)))) (wSeq (wAsg (wCall sp_divided_out (wCons (wVar 4) (wCons (wVar 2) wNil))) (wgTup 2 (wgCons (wgName 7) (wgCons (wgName 4) wgEnd))))
  (wSeq (wAsg (wCB wGcd (wCons (wVar 1) (wCons (wVar 7) wNil))) (wgName 1))
  (wSeq (wIfS (wB (wOp wEq (wVar 1) (wC (.int 1)))) (wRet (wTup (wCons (wVar 0) (wCons (wC (.int 1)) wNil)))) wNext)
  (wSeq (wDrop (wApp (wVar 3) (wTup (wCons (wVar 2) (wCons (wVar 7) wNil)))))
  (wAsg (wCB wGcd (wCons (wVar 4) (wCons (wVar 2) wNil))) (wgName 2)))))))
  (wSeq (wAsg (wCall sp_rough_root_by (wCons (wVar 4) (wCons (wVar 1) wNil))) (wgTup 2 (wgCons (wgName 5) (wgCons (wgName 6) wgEnd))))
  (wSeq (wIfS (wB (wOp wEq (wVar 6) (wC (.int 1)))) (wRet (wTup (wCons (wVar 0) (wCons (wC (.int 1)) wNil)))) wNext)
  (wSeq (wForL (wVar 3) (wgTup 2 (wgCons (wgName 2) (wgCons (wgName 7) wgEnd))) (wAsg (wOp wMul (wVar 5) (wCall sp_power_of (wCons (wVar 2) (wCons (wOp wDiv (wVar 7) (wVar 6)) wNil)))) (wgName 5)))
  (wRet (wTup (wCons (wVar 5) (wCons (wVar 6) wNil)))))))))))))
theorem vc_integer_root_by : ∀ ds μ Pd R, sp_integer_root_by ds μ Pd R → W_integer_root_by (fun _ C fs μ' => R C fs μ') { nx := fun _ μ' => ExtS μ μ' ∧ Pd .non μ, rt := fun d μ' => ExtS μ μ' ∧ low μ.length d = true ∧ Pd d μ } (startD 8 ds) μ := by
  intro ds μ Pd R h
  obtain ⟨v, n0, rfl, hv1, hv, k⟩ := h
  unfold W_integer_root_by
  walk_at "hd"
  cases c0 : decide ((v : Int) = 1) with
  | true =>
    have c0' : v = 1 := by
      have := of_decide_eq_true c0
      omega
    subst c0'
    simp only []
    exact ⟨by decide, fun _ _ h => h, rfl, k 1 n0 (GPow.one n0) fun _ => rfl⟩
  | false =>
    have vne : v ≠ 1 := by
      have := of_decide_eq_false c0
      omega
    simp only []
    rw [small_is, Int.natAbs_natCast]
    obtain ⟨c, hc⟩ : ∃ c, Nat.gcd v SML = c := ⟨_, rfl⟩
    rw [hc]
    have c1 : 1 ≤ c := by rw [← hc]; exact Nat.gcd_pos_of_pos_left _ hv1
    have cv : c ∣ v := by rw [← hc]; exact Nat.gcd_dvd_left _ _
    have csq : SqF c := sml_sqf.of_dvd (by rw [← hc]; exact Nat.gcd_dvd_right _ _)
    have clv := Nat.le_of_dvd hv1 cv
    have dvd : ∀ x y : Nat, (x : Int) % (y : Int) = 0 ↔ y ∣ x := fun x y => by
      rw [← Int.natCast_emod]
      exact ⟨fun z => Nat.dvd_of_mod_eq_zero (by omega), fun z => by
        have := Nat.mod_eq_zero_of_dvd z
        omega⟩
    have body : (wSeq (wAsg (wLst wNil) (wgName 3))
  (wSeq (wAsg (wVar 0) (wgName 4))
  (wSeq (wWhile (wB (wOp wGt (wVar 2) (wC (.int 1)))) (wSeq (wAsg (wCall sp_divided_out (wCons (wVar 4) (wCons (wVar 2) wNil))) (wgTup 2 (wgCons (wgName 7) (wgCons (wgName 4) wgEnd))))
  (wSeq (wAsg (wCB wGcd (wCons (wVar 1) (wCons (wVar 7) wNil))) (wgName 1))
  (wSeq (wIfS (wB (wOp wEq (wVar 1) (wC (.int 1)))) (wRet (wTup (wCons (wVar 0) (wCons (wC (.int 1)) wNil)))) wNext)
  (wSeq (wDrop (wApp (wVar 3) (wTup (wCons (wVar 2) (wCons (wVar 7) wNil)))))
  (wAsg (wCB wGcd (wCons (wVar 4) (wCons (wVar 2) wNil))) (wgName 2)))))))
  (wSeq (wAsg (wCall sp_rough_root_by (wCons (wVar 4) (wCons (wVar 1) wNil))) (wgTup 2 (wgCons (wgName 5) (wgCons (wgName 6) wgEnd))))
  (wSeq (wIfS (wB (wOp wEq (wVar 6) (wC (.int 1)))) (wRet (wTup (wCons (wVar 0) (wCons (wC (.int 1)) wNil)))) wNext)
  (wSeq (wForL (wVar 3) (wgTup 2 (wgCons (wgName 2) (wgCons (wgName 7) wgEnd))) (wAsg (wOp wMul (wVar 5) (wCall sp_power_of (wCons (wVar 2) (wCons (wOp wDiv (wVar 7) (wVar 6)) wNil)))) (wgName 5)))
  (wRet (wTup (wCons (wVar 5) (wCons (wVar 6) wNil)))))))))) (fun _ C fs μ' => R C fs μ') { nx := fun _ μ' => ExtS μ μ' ∧ Pd .non μ, rt := fun d μ' => ExtS μ μ' ∧ low μ.length d = true ∧ Pd d μ } [some (.int (v : Int)), some (.int (n0 : Int)), some (.int (c : Int)), none, none, none, none, none] μ := by
      walk_at "hd"
      refine ⟨by decide, ?_⟩
      unfold wWhile
      refine ⟨fun z δ' μ' => ∃ (L : List (Nat × Nat)) (rest n c : Nat) (x5 x6 x7 : Option D), δ' = [some (.int (v : Int)), some (.int (n : Int)), some (.int (c : Int)), some (.ref μ.length), some (.int (rest : Int)), x5, x6, x7] ∧ μ' = μ ++ [.lst (L.map ctD)] ∧ z = rest ∧ IStep v n0 L rest n c, ⟨v, [], v, n0, c, none, none, none, rfl, rfl, rfl, by show v = 1 * v; rw [Nat.one_mul], hv1, by show 2 ^ 0 * v ≤ v; omega, Nat.dvd_refl _, fun _ h => (by cases h), fun m s hm hs => ⟨hm, s, hs⟩, hc⟩, ?_⟩
      rintro z δ' μ' ⟨L, rest, n, c, x5, x6, x7, rfl, rfl, rfl, st⟩
      have c1 : 1 ≤ c := by rw [← st.cop]; exact Nat.gcd_pos_of_pos_left _ st.r1
      have cv : c ∣ z := by rw [← st.cop]; exact Nat.gcd_dvd_left _ _
      have csq : SqF c := sml_sqf.of_dvd (by rw [← st.cop]; exact Nat.gcd_dvd_right _ _)
      have zv : z ≤ v := by
        have := st.small
        have : 1 * z ≤ 2 ^ L.length * z := Nat.mul_le_mul_right z (Nat.pow_pos (by decide))
        omega
      have l136 : (2 : Nat) ^ 136 < 2 ^ 200 := by decide +kernel
      have Ll : L.length < 136 := by
        refine Nat.lt_of_not_le fun y => ?_
        have q1 : (2 : Nat) ^ 136 ≤ 2 ^ L.length := Nat.pow_le_pow_right (by decide) y
        have q2 : 2 ^ L.length * 1 ≤ 2 ^ L.length * z := Nat.mul_le_mul_left _ st.r1
        have := st.small
        omega
      have lowext : ExtS μ (μ ++ [.lst (L.map ctD)]) := fun _ _ h => cell_app _ h
      walk_at "hd"
      cases cc : decide ((1 : Int) < (c : Int)) with
      | true =>
        have cc' : 1 < c := by
          have := of_decide_eq_true cc
          omega
        simp only []
        have z200 : z < 2 ^ 200 := by omega
        refine ⟨z, c, rfl, cc', st.r1, cv, z200, out_fuel cc' z200, fun t y t1 tl e ny => ?_⟩
        simp only []
        refine ⟨rfl, ?_⟩
        generalize hg0 : Nat.gcd ((n : Int)).natAbs ((t : Int)).natAbs = g
        have hg : Nat.gcd n t = g := hg0
        have gn : g ∣ n := by rw [← hg]; exact Nat.gcd_dvd_left _ _
        have gt : g ∣ t := by rw [← hg]; exact Nat.gcd_dvd_right _ _
        have y1 : 1 ≤ y := Nat.pos_of_ne_zero fun w => by
          rw [w, Nat.mul_zero] at e
          have := st.r1
          omega
        have pw : ∀ m s : Nat, m ∣ n0 → s ^ m = v → m ∣ g ∧ ∃ u, u ^ m = y := fun m s hm hs => by
          obtain ⟨h1, u, hu⟩ := st.pow m s hm hs
          obtain ⟨h2, u', hu'⟩ := out_pow cc' csq t1 ny e hu
          exact ⟨by rw [← hg]; exact Nat.dvd_gcd h1 h2, u', hu'⟩
        cases cg : decide ((g : Int) = 1) with
        | true =>
          have cg' : g = 1 := by
            have := of_decide_eq_true cg
            omega
          simp only []
          exact ⟨by decide, lowext, rfl, k v 1 (GPow.whole fun m s hm hs => by
            have := (pw m s hm hs).1
            rw [cg'] at this
            exact Nat.dvd_one.mp this) fun w => absurd w vne⟩
        | false =>
          simp only []
          have hl : lstAt (μ ++ [.lst (L.map ctD)]) μ.length = some (L.map ctD) := lst_new _ _
          unfold wApp
          walk_at "hd"
          refine ⟨⟨_, hl⟩, by decide, ?_⟩
          simp only [hl]
          refine ⟨by rw [List.length_map]; omega, ?_⟩
          have yz : y < z := by
            have p2 : c ^ 1 ≤ c ^ t := Nat.pow_le_pow_right (by omega) t1
            rw [Nat.pow_one] at p2
            have := Nat.mul_le_mul_right y (show 2 ≤ c ^ t by omega)
            omega
          refine ⟨y, yz, L ++ [(c, t)], y, g, Nat.gcd y c, _, _, _, rfl, ?_, rfl, ?_⟩
          · rw [set_last, List.map_append] <;> rfl
          · refine ⟨?_, y1, ?_, Nat.dvd_trans gn st.nd, fun ct hct => ?_, pw, ?_⟩
            · rw [prodL_app, Nat.mul_assoc, ← e]
              exact st.prod
            · rw [List.length_append]
              show 2 ^ (L.length + 1) * y ≤ v
              have p2 : c ^ 1 ≤ c ^ t := Nat.pow_le_pow_right (by omega) t1
              rw [Nat.pow_one] at p2
              have q1 := Nat.mul_le_mul_right y (show 2 ≤ c ^ t by omega)
              rw [← e] at q1
              have q2 := Nat.mul_le_mul_left (2 ^ L.length) q1
              rw [Nat.pow_succ, Nat.mul_assoc]
              exact Nat.le_trans q2 st.small
            · rcases List.mem_append.mp hct with w | w
              · obtain ⟨h1, h2⟩ := st.tds ct w
                exact ⟨Nat.dvd_trans gn h1, h2⟩
              · have : ct = (c, t) := List.mem_singleton.mp w
                subst this
                exact ⟨gt, t1, cc', tl, Nat.le_trans (Nat.le_of_dvd st.r1 cv) zv⟩
            · rw [← st.cop]
              refine Nat.dvd_antisymm ?_ ?_
              · exact Nat.dvd_gcd (Nat.gcd_dvd_left _ _) (Nat.dvd_gcd (Nat.dvd_trans (Nat.gcd_dvd_left _ _) (by rw [e]; exact Nat.dvd_mul_left _ _)) (Nat.gcd_dvd_right _ _))
              · exact Nat.dvd_gcd (Nat.gcd_dvd_left _ _) (Nat.dvd_trans (Nat.gcd_dvd_right _ _) (Nat.gcd_dvd_right _ _))
      | false =>
        have cc' : c = 1 := by
          have := of_decide_eq_false cc
          omega
        simp only []
        refine ⟨z, n, rfl, st.r1, by omega, by rw [st.cop, cc'], fun r e hg hr1 => ?_⟩
        simp only []
        refine ⟨rfl, ?_⟩
        obtain ⟨g1, g2, g3⟩ := hg
        have eall : ∀ ct ∈ L, e ∣ ct.2 := fun ct hct => Nat.dvd_trans g2 (st.tds ct hct).1
        have top : ∀ m s : Nat, m ∣ n0 → s ^ m = v → m ∣ e := fun m s hm hs => by
          obtain ⟨h1, u, hu⟩ := st.pow m s hm hs
          exact g3 m u h1 hu
        cases ce : decide ((e : Int) = 1) with
        | true =>
          have ce' : e = 1 := by
            have := of_decide_eq_true ce
            omega
          simp only []
          exact ⟨by decide, lowext, rfl, k v 1 (GPow.whole fun m s hm hs => by
            have := top m s hm hs
            rw [ce'] at this
            exact Nat.dvd_one.mp this) fun w => absurd w vne⟩
        | false =>
          simp only []
          have e1 : 1 ≤ e := Nat.pos_of_ne_zero fun w => by
            by_cases z1 : z = 1
            · cases L with
              | nil => exact vne (by rw [st.prod, z1] <;> rfl)
              | cons ct L =>
                have := eall ct List.mem_cons_self
                rw [w] at this
                have := Nat.zero_dvd.mp this
                have := (st.tds ct List.mem_cons_self).2.1
                omega
            · exact z1 (by rw [← g1, w, Nat.pow_zero])
          have r1 : 1 ≤ r := Nat.pos_of_ne_zero fun w => by
            rw [w, Nat.zero_pow (by omega)] at g1
            have := st.r1
            omega
          have e200 : e < 200 := by
            by_cases z1 : z = 1
            · cases L with
              | nil => exact absurd (by rw [st.prod, z1] <;> rfl) vne
              | cons ct L =>
                have h2 := (st.tds ct List.mem_cons_self).2
                have := Nat.le_of_dvd h2.1 (eall ct List.mem_cons_self)
                omega
            · have rne : r ≠ 1 := fun w => z1 (by rw [← g1, w, Nat.one_pow])
              refine Nat.lt_of_not_le fun y => ?_
              have q1 : (2 : Nat) ^ 200 ≤ 2 ^ e := Nat.pow_le_pow_right (by decide) y
              have q2 : 2 ^ e ≤ r ^ e := Nat.pow_le_pow_left (show 2 ≤ r by omega) _
              omega
          have hl : lstAt (μ ++ [.lst (L.map ctD)]) μ.length = some (L.map ctD) := lst_new _ _
          unfold wForL
          refine ⟨L.map ctD, fun i δ' μ' => ∃ (x : Nat) (x2 x7 : Option D), δ' = [some (.int (v : Int)), some (.int (n : Int)), x2, some (.ref μ.length), some (.int (z : Int)), some (.int (x : Int)), some (.int (e : Int)), x7] ∧ μ' = μ ++ [.lst (L.map ctD)] ∧ 1 ≤ x ∧ x ^ e * prodL (L.drop i) = v, ⟨r, _, _, rfl, rfl, r1, by rw [g1, List.drop_zero, Nat.mul_comm]; exact st.prod.symm⟩, fun i δ' μ' _ ⟨_, _, _, _, e, _, _⟩ => by rw [e]; exact hl, ?_, ?_⟩
          · rintro i d δ' μ' hi ⟨x, x2, x7, rfl, rfl, hx1, hx⟩
            rw [List.getElem?_map] at hi
            obtain ⟨ct, ht, rfl⟩ := Option.map_eq_some_iff.mp hi
            have mem : ct ∈ L := List.mem_of_getElem? ht
            obtain ⟨h1, h2, h3, h4, h5⟩ := st.tds ct mem
            have ed := eall ct mem
            have dr : L.drop i = ct :: L.drop (i + 1) := by
              obtain ⟨hlt, hge⟩ := List.getElem?_eq_some_iff.mp ht
              rw [List.drop_eq_getElem_cons hlt, hge]
            unfold ctD
            walk_at "hd"
            have eq : (ct.2 : Int) / (e : Int) = ((ct.2 / e : Nat) : Int) := by rw [Int.natCast_ediv]
            rw [eq]
            have le1 : ct.2 / e ≤ ct.2 := Nat.div_le_self _ _
            have pe : (ct.1 ^ (ct.2 / e)) ^ e = ct.1 ^ ct.2 := by rw [← Nat.pow_mul, Nat.div_mul_cancel ed]
            have step : (x * ct.1 ^ (ct.2 / e)) ^ e * prodL (L.drop (i + 1)) = v := by
              rw [Nat.mul_pow, pe, Nat.mul_assoc, ← hx, dr]
              rfl
            have p1 : 1 ≤ ct.1 ^ (ct.2 / e) := Nat.pow_pos (by omega)
            have pos : 1 ≤ prodL (L.drop (i + 1)) := Nat.pos_of_ne_zero fun w => by
              rw [w, Nat.mul_zero] at step
              omega
            have xp : x * ct.1 ^ (ct.2 / e) ≤ v := by
              have q1 := pow_ge (x := x * ct.1 ^ (ct.2 / e)) e1
              have q2 : (x * ct.1 ^ (ct.2 / e)) ^ e * 1 ≤ (x * ct.1 ^ (ct.2 / e)) ^ e * prodL (L.drop (i + 1)) := Nat.mul_le_mul_left _ pos
              omega
            have xb : x < 2 ^ 200 := by
              have : x * 1 ≤ x * ct.1 ^ (ct.2 / e) := Nat.mul_le_mul_left x p1
              omega
            have pb : ct.1 ^ (ct.2 / e) < 2 ^ 200 := by
              have : 1 * ct.1 ^ (ct.2 / e) ≤ x * ct.1 ^ (ct.2 / e) := Nat.mul_le_mul_right _ hx1
              omega
            refine ⟨divOkN e1 (show e < 2 ^ 8 by omega) (by decide), powN ⟨ct.1, ct.2 / e, rfl, by omega, .inl (by omega), mulOk (a := 200) (b := 200) (by rw [Int.natAbs_natCast]; exact xb) (by rw [Int.natAbs_natCast]; exact pb) (by decide), ?_⟩⟩
            have xe : (x : Int) * ((ct.1 ^ (ct.2 / e) : Nat) : Int) = ((x * ct.1 ^ (ct.2 / e) : Nat) : Int) := by rw [Int.natCast_mul]
            rw [xe]
            exact ⟨_, _, _, rfl, rfl, Nat.mul_pos (by omega) p1, step⟩
          · rintro δ' μ' ⟨x, x2, x7, rfl, rfl, hx1, hx⟩
            rw [List.length_map, List.drop_length] at hx
            walk_at "hd"
            refine ⟨by decide, lowext, rfl, k x e ⟨?_, Nat.dvd_trans g2 st.nd, top⟩ fun w => absurd w vne⟩
            rw [← hx]
            show x ^ e = x ^ e * 1
            rw [Nat.mul_one]
    cases ca : decide ((1 : Int) < (c : Int)) with
    | false => exact body
    | true =>
      have ca' : 1 < c := by
        have := of_decide_eq_true ca
        omega
      simp only []
      have cc : (c : Int) * (c : Int) = ((c * c : Nat) : Int) := by rw [Int.natCast_mul]
      rw [cc]
      have c2 : c * 1 ≤ c * c := Nat.mul_le_mul_left c c1
      refine ⟨mulOk (a := 136) (b := 136) (by rw [Int.natAbs_natCast]; omega) (by rw [Int.natAbs_natCast]; omega) (by decide), by omega, ?_⟩
      cases cb : decide ((v : Int) % ((c * c : Nat) : Int) = 0) with
      | true => exact body
      | false =>
        have cb' : ¬ c * c ∣ v := fun z => of_decide_eq_false cb ((dvd _ _).mpr z)
        simp only [Bool.not_false]
        obtain ⟨y, hy⟩ := cv
        have ny : ¬ c ∣ y := fun z => cb' (by rw [hy]; exact Nat.mul_dvd_mul_left c z)
        exact ⟨by decide, fun _ _ h => h, rfl, k v 1 (GPow.whole fun m s hm hs => by
          obtain ⟨h1, _⟩ := out_pow (t := 1) ca' csq (by decide) ny (by rw [Nat.pow_one]; exact hy) hs
          exact Nat.dvd_one.mp h1) fun w => absurd w vne⟩

/-! the root and the exponent of a fraction -/
def FPow (a b n r s e : Nat) : Prop := r ^ e = a ∧ s ^ e = b ∧ e ∣ n ∧ ∀ m x y : Nat, m ∣ n → x ^ m = a → y ^ m = b → m ∣ e
theorem FPow.pos {a b n r s e : Nat} (h : FPow a b n r s e) (ne : a ≠ b) : 1 ≤ e := Nat.pos_of_ne_zero fun z => ne (by rw [← h.1, ← h.2.1, z, Nat.pow_zero, Nat.pow_zero])
/-- with 0: the base and the exponent -/
theorem FPow.base {A B r s e : Nat} (h : FPow A B 0 r s e) (ne : A ≠ B) : BaseIs A B r s e := by
  refine .inr ⟨ne, h.pos ne, h.1, h.2.1, fun n x y hn hx hy => ?_⟩
  have := Nat.le_of_dvd (h.pos ne) (h.2.2.2 n x y (Nat.dvd_zero n) hx hy)
  omega
theorem FPow.zero {A B r s e : Nat} (h : FPow A B 0 r s e) (eq : A = B) (hg : Nat.gcd A B = 1) : e = 0 := by
  subst eq
  rw [Nat.gcd_self] at hg
  subst hg
  exact Nat.zero_dvd.mp (h.2.2.2 0 1 1 (Nat.dvd_refl 0) (Nat.pow_zero 1) (Nat.pow_zero 1))
theorem exp_few {v r e : Nat} (hv1 : v ≠ 1) (hv : v < 2 ^ 136) (hv0 : 1 ≤ v) (h : r ^ e = v) : e < 136 := by
  refine Nat.lt_of_not_le fun y => ?_
  have r2 : 2 ≤ r := by
    refine Nat.lt_of_not_le fun z => ?_
    have : r = 0 ∨ r = 1 := by omega
    rcases this with w | w
    · rw [w, Nat.zero_pow (by omega)] at h
      omega
    · rw [w, Nat.one_pow] at h
      omega
  have q1 : (2 : Nat) ^ 136 ≤ 2 ^ e := Nat.pow_le_pow_right (by decide) y
  have q2 : 2 ^ e ≤ r ^ e := Nat.pow_le_pow_left r2 _
  omega
def sp_fraction_root_by : SpD := fun ds μ P _ => ∃ a b n : Nat, ds = [.int (a : Int), .int (b : Int), .int (n : Int)] ∧ 1 ≤ a ∧ 1 ≤ b ∧ a < 2 ^ 136 ∧ b < 2 ^ 136 ∧ Nat.gcd a b = 1 ∧ ∀ r s e : Nat, FPow a b n r s e → (a = b → r = 1 ∧ s = 1) → P (.tup [.tup [.int (r : Int), .int (s : Int)], .int (e : Int)]) μ
theorem len_fraction_root_by : ∀ ds μ Pd R, sp_fraction_root_by ds μ Pd R → ds.length = 3 := fun ds μ Pd R ⟨i, l, m, e, _⟩ => by rw [e] <;> rfl
def W_fraction_root_by : WS :=
  (wSeq (wIfS (wB (wOp wEq (wVar 0) (wVar 1))) (wRet (wTup (wCons (wTup (wCons (wC (.int 1)) (wCons (wC (.int 1)) wNil))) (wCons (wVar 2) wNil)))) wNext)
  (wSeq (wAsg (wCall sp_integer_root_by (wCons (wVar 0) (wCons (wVar 2) wNil))) (wgTup 2 (wgCons (wgName 3) (wgCons (wgName 4) wgEnd))))
  (wSeq (wIfS (wB (wOp wEq (wVar 4) (wC (.int 1)))) (wRet (wTup (wCons (wTup (wCons (wVar 0) (wCons (wVar 1) wNil))) (wCons (wC (.int 1)) wNil)))) wNext)
  (wSeq (wAsg (wCall sp_integer_root_by (wCons (wVar 1) (wCons (wVar 4) wNil))) (wgTup 2 (wgCons (wgName 5) (wgCons (wgName 6) wgEnd))))
  (wSeq (wIfS (wB (wOp wEq (wVar 6) (wC (.int 1)))) (wRet (wTup (wCons (wTup (wCons (wVar 0) (wCons (wVar 1) wNil))) (wCons (wC (.int 1)) wNil)))) wNext)
  (wRet (wTup (wCons (wTup (wCons (wCall sp_power_of (wCons (wVar 3) (wCons (wOp wDiv (wVar 4) (wVar 6)) wNil))) (wCons (wVar 5) wNil))) (wCons (wVar 6) wNil)))))))))
theorem vc_fraction_root_by : ∀ ds μ Pd R, sp_fraction_root_by ds μ Pd R → W_fraction_root_by (fun _ C fs μ' => R C fs μ') { nx := fun _ μ' => Pd .non μ', rt := Pd } (startD 7 ds) μ := by
  intro ds μ Pd R h
  obtain ⟨a, b, n, rfl, ha1, hb1, ha, hb, hg, k⟩ := h
  unfold W_fraction_root_by
  walk_at "hd"
  cases c0 : decide ((a : Int) = (b : Int)) with
  | true =>
    have c0' : a = b := by
      have := of_decide_eq_true c0
      omega
    subst c0'
    rw [Nat.gcd_self] at hg
    subst hg
    simp only []
    exact ⟨by decide, by decide, k 1 1 n ⟨Nat.one_pow n, Nat.one_pow n, Nat.dvd_refl n, fun m _ _ h _ _ => h⟩ fun _ => ⟨rfl, rfl⟩⟩
  | false =>
    have ne : a ≠ b := fun z => of_decide_eq_false c0 (by omega)
    have whole : (∀ m x y : Nat, m ∣ n → x ^ m = a → y ^ m = b → m = 1) → FPow a b n a b 1 := fun h => ⟨Nat.pow_one a, Nat.pow_one b, Nat.one_dvd n, fun m x y hm hx hy => by rw [h m x y hm hx hy]; exact Nat.dvd_refl 1⟩
    simp only []
    refine ⟨a, n, rfl, ha1, ha, fun r te g1 g1r => ?_⟩
    simp only []
    refine ⟨rfl, ?_⟩
    cases c1 : decide ((te : Int) = 1) with
    | true =>
      have c1' : te = 1 := by
        have := of_decide_eq_true c1
        omega
      simp only []
      exact ⟨by decide, by decide, k a b 1 (whole fun m x y hm hx hy => by
        have := g1.2.2 m x hm hx
        rw [c1'] at this
        exact Nat.dvd_one.mp this) fun z => absurd z ne⟩
    | false =>
      simp only []
      refine ⟨b, te, rfl, hb1, hb, fun s e g2 g2r => ?_⟩
      simp only []
      refine ⟨rfl, ?_⟩
      have top : ∀ m x y : Nat, m ∣ n → x ^ m = a → y ^ m = b → m ∣ e := fun m x y hm hx hy => g2.2.2 m y (g1.2.2 m x hm hx) hy
      cases c2 : decide ((e : Int) = 1) with
      | true =>
        have c2' : e = 1 := by
          have := of_decide_eq_true c2
          omega
        simp only []
        exact ⟨by decide, by decide, k a b 1 (whole fun m x y hm hx hy => by
          have := top m x y hm hx hy
          rw [c2'] at this
          exact Nat.dvd_one.mp this) fun z => absurd z ne⟩
      | false =>
        simp only []
        obtain ⟨h1, h2, _⟩ := g1
        obtain ⟨h3, h4, _⟩ := g2
        have e1 : 1 ≤ e := Nat.pos_of_ne_zero fun z => by
          rw [z] at h4
          have tz := Nat.zero_dvd.mp h4
          rw [tz, Nat.pow_zero] at h1
          rw [z, Nat.pow_zero] at h3
          exact ne (by rw [← h1, ← h3])
        have pw : (r ^ (te / e)) ^ e = a := by rw [← Nat.pow_mul, Nat.div_mul_cancel h4, h1]
        have eq : (te : Int) / (e : Int) = ((te / e : Nat) : Int) := by rw [Int.natCast_ediv]
        rw [eq]
        have fin : FPow a b n (r ^ (te / e)) s e := ⟨pw, h3, Nat.dvd_trans h4 h2, top⟩
        have e200 : e < 136 := by
          by_cases z : a = 1
          · exact exp_few (fun w => ne (by rw [z, w])) hb hb1 h3
          · exact exp_few z ha ha1 pw
        have dv : DivOk (e : Int) := divOkN e1 (show e < 2 ^ 8 by omega) (by decide)
        by_cases z : a = 1
        · have hr := g1r z
          subst hr
          refine ⟨dv, powN ⟨1, te / e, rfl, .inr (Nat.le_refl _), .inl (by decide), by decide, by decide, ?_⟩⟩
          exact k _ s e fin fun w => absurd w ne
        · have te136 := exp_few z ha ha1 h1
          have rb : r < 2 ^ 136 := by
            have := pow_ge (x := r) (e := te) (Nat.pos_of_ne_zero fun w => z (by rw [← h1, w, Nat.pow_zero]))
            omega
          refine ⟨dv, powN ⟨r, te / e, rfl, .inl ?_, .inl (by omega), by decide, by decide, ?_⟩⟩
          · have := Nat.div_le_self te e
            omega
          · exact k _ s e fin fun w => absurd w ne

/-! a root is made, or its number or its n is refused -/
theorem numB_is {d : D} (h : numB d = true) : ∃ a b : Int, d = .tup [.int a, .int b] ∧ IsNum a b := by
  unfold numB at h
  split at h
  · rename_i a b
    simp only [Bool.and_eq_true, decide_eq_true_eq, Bool.not_eq_true', decide_eq_false_iff_not] at h
    obtain ⟨⟨h1, h2⟩, ⟨h3, h4⟩, h5, h6⟩ := h
    exact ⟨a, b, rfl, h5, h3, by omega, by omega, h4⟩
  · cases h
theorem whole_at {d : D} {lo hi : Int} (h : wholeB d lo hi = true) : ∃ i : Int, d = .int i ∧ lo ≤ i ∧ i ≤ hi := by
  unfold wholeB at h
  split at h
  · rename_i i
    rw [Bool.and_eq_true, decide_eq_true_eq, decide_eq_true_eq] at h
    exact ⟨i, rfl, h.1, h.2⟩
  · cases h
/-- a number over 0 -/
def posB : D → Bool
  | .tup [.int a, .int b] => numB (.tup [.int a, .int b]) && decide (0 < a)
  | _ => false
def sp_Root_init (Z : Cs) : SpD := fun ds μ P R => ∃ (k : Nat) (d n : D) (j : Nat) (b : Bool) (p : PyData) (b2 : Bool) (p2 : PyData), ds = [.ref k, d, n] ∧ VA j μ b d p ∧ VA j μ b2 n p2 ∧ cell μ k = some (.ins Z.c_Root []) ∧
  (posB d = false → R Z.c_InvalidNumber [("given", d)] μ) ∧ (posB d = true → wholeB n 1 60 = false → R Z.c_InvalidDegree [("given", n)] μ) ∧
  ∀ x y m : Nat, d = .tup [.int (x : Int), .int (y : Int)] → n = .int (m : Int) → 1 ≤ x → IsNum (x : Int) (y : Int) → 1 ≤ m → m ≤ 60 → ∀ r s e : Nat, FPow x y m r s e → LeastForm (m / e) r s → P .non (μ.set k (rootO Z.c_Root (m / e) r s))
theorem len_Root_init (Z : Cs) : ∀ ds μ Pd R, sp_Root_init Z ds μ Pd R → ds.length = 3 := fun ds μ Pd R ⟨i, _, _, _, _, _, _, _, e, _⟩ => by rw [e] <;> rfl
theorem FPow.epos {a b n r s e : Nat} (h : FPow a b n r s e) (hn : 1 ≤ n) : 1 ≤ e := Nat.pos_of_ne_zero fun z => by
  have := h.2.2.1
  rw [z] at this
  have := Nat.zero_dvd.mp this
  omega
theorem FPow.least {a b n r s e : Nat} (h : FPow a b n r s e) (hn : 1 ≤ n) (hn2 : n ≤ 60) (ha : 1 ≤ a) (hb : 1 ≤ b) (ha2 : a ≤ 1000000000000000000000000000000) (hb2 : b ≤ 1000000000000000000000000000000) (hg : Nat.gcd a b = 1) : LeastForm (n / e) r s := by
  have e1 := h.epos hn
  obtain ⟨h1, h2, ⟨f, hf⟩, h4⟩ := h
  have q : n / e = f := by rw [hf]; exact Nat.mul_div_cancel_left f e1
  have f1 : 1 ≤ f := Nat.pos_of_ne_zero fun z => by
    rw [z, Nat.mul_zero] at hf
    omega
  have fn : f ≤ n := by
    rw [hf]
    exact Nat.le_mul_of_pos_left f e1
  have pos : ∀ {t c : Nat}, 1 ≤ c → t ^ e = c → 1 ≤ t := fun {t c} hc ht => Nat.pos_of_ne_zero fun z => by
    rw [z, Nat.zero_pow e1] at ht
    omega
  rw [q]
  refine ⟨f1, by omega, pos ha h1, pos hb h2, Nat.le_trans (Nat.le_trans (pow_ge e1) (Nat.le_of_eq h1)) ha2, Nat.le_trans (Nat.le_trans (pow_ge e1) (Nat.le_of_eq h2)) hb2, ?_, fun m x y hm hx hy => ?_⟩
  · have d : Nat.gcd r s ∣ Nat.gcd a b := by
      rw [← h1, ← h2]
      have p1 := Nat.pow_dvd_pow r e1
      have p2 := Nat.pow_dvd_pow s e1
      rw [Nat.pow_one] at p1 p2
      exact Nat.dvd_gcd (Nat.dvd_trans (Nat.gcd_dvd_left _ _) p1) (Nat.dvd_trans (Nat.gcd_dvd_right _ _) p2)
    rw [hg] at d
    exact Nat.dvd_one.mp d
  · have d := h4 (m * e) x y (by rw [hf, Nat.mul_comm m]; exact Nat.mul_dvd_mul_left e hm) (by rw [Nat.pow_mul, hx, h1]) (by rw [Nat.pow_mul, hy, h2])
    have := Nat.le_of_dvd e1 d
    refine Nat.le_antisymm (Nat.le_of_not_lt fun z => ?_) (Nat.pos_of_ne_zero fun z => ?_)
    · have := Nat.mul_le_mul_right e z
      omega
    · rw [z, Nat.zero_mul] at d
      have := Nat.zero_dvd.mp d
      omega
def W_Root_init (Z : Cs) : WS :=
  (wSeq (wIfS (wOr (wNot (wTruth (wCall sp_is_number (wCons (wVar 1) wNil)))) (wB (wOp wLt (wOp wIx (wVar 1) (wC (.int 0))) (wC (.int 0))))) (wRaise Z.c_InvalidNumber "given" (wCons (wVar 1) wNil)) wNext)
  (wSeq (wDrop (wCallD (sp_check_degree Z) (dd_check_degree.drop 2) (wCons (wVar 2) (wCons (wC (.int 1)) (wCons (wC (.int c_MOST_DEGREE)) wNil)))))
  (wSeq (wAsg (wCall sp_fraction_root_by (wCons (wOp wIx (wVar 1) (wC (.int 0))) (wCons (wOp wIx (wVar 1) (wC (.int 1))) (wCons (wVar 2) wNil)))) (wgTup 2 (wgCons (wgName 3) (wgCons (wgName 4) wgEnd))))
  (wSeq (wSetF Z.c_Root "_degree" (wVar 0) (wOp wDiv (wVar 2) (wVar 4)))
  (wSetF Z.c_Root "_number" (wVar 0) (wVar 3))))))
theorem vc_Root_init (Z : Cs) : ∀ ds μ Pd R, sp_Root_init Z ds μ Pd R → W_Root_init Z (fun _ C fs μ' => R C fs μ') { nx := fun _ μ' => Pd .non μ', rt := Pd } (startD 5 ds) μ := by
  intro ds μ Pd R h
  obtain ⟨k, d, nd, j, bb, p, b2, p2, rfl, hv, hv2, hc, k1, k2, kk⟩ := h
  unfold W_Root_init
  walk_at "hd"
  refine ⟨d, j, bb, p, rfl, hv, ?_⟩
  simp only [wRaise]
  walk_at "hd"
  cases c : numB d with
  | false =>
    simp only [Bool.not_false]
    refine k1 ?_
    unfold posB
    split
    · rw [c, Bool.false_and]
    · rfl
  | true =>
    obtain ⟨ai, bi, rfl, hn⟩ := numB_is c
    simp only [Bool.not_true]
    walk_at "hd"
    cases c0 : decide (ai < 0) with
    | true =>
      try simp only []
      have h0 := of_decide_eq_true c0
      refine k1 ?_
      show (numB _ && decide (0 < ai)) = false
      rw [decide_eq_false (by omega : ¬ 0 < ai), Bool.and_false]
    | false =>
      try simp only []
      have h0 := of_decide_eq_false c0
      have pos : posB (.tup [.int ai, .int bi]) = true := by
        show (numB _ && decide (0 < ai)) = true
        have := hn.1
        rw [c, decide_eq_true (by omega : 0 < ai)]
        rfl
      refine ⟨nd, 1, c_MOST_DEGREE, j, b2, p2, rfl, hv2, fun w => k2 pos w, fun w => ?_⟩
      obtain ⟨ni, rfl, n1, n2⟩ := whole_at w
      have n2 : ni ≤ 60 := n2
      obtain ⟨a, rfl⟩ := Int.eq_ofNat_of_zero_le (by omega : 0 ≤ ai)
      obtain ⟨b, rfl⟩ := Int.eq_ofNat_of_zero_le (by have := hn.2.1; omega : 0 ≤ bi)
      obtain ⟨n, rfl⟩ := Int.eq_ofNat_of_zero_le (by omega : 0 ≤ ni)
      have ha : 1 ≤ a := by
        have := hn.1
        omega
      have hn1 : 1 ≤ n := by omega
      have hn2 : n ≤ 60 := by omega
      have s136 := s136
      obtain ⟨_, h2, h3, h4, h5⟩ := id hn
      rw [Int.natAbs_natCast] at h4
      refine ⟨a, b, n, rfl, ha, by omega, by omega, by omega, h3, fun r s e g ge => ?_⟩
      try simp only []
      have e1 := g.epos hn1
      have lf := g.least hn1 hn2 ha (by omega) h4 (by omega) h3
      have en := Nat.le_of_dvd hn1 g.2.2.1
      have eq : (n : Int) / (e : Int) = ((n / e : Nat) : Int) := by rw [Int.natCast_ediv]
      refine ⟨rfl, divOkN e1 (show e < 2 ^ 6 by omega) (by decide), ?_⟩
      simp only [wSetF]
      walk_at "hd"
      rw [eq]
      have lt := cell_lt hc
      rw [hc]
      refine ⟨rfl, (show 0 < 1000 by decide), ?_⟩
      rw [cell_set_same lt]
      refine ⟨rfl, (show 1 < 1000 by decide), ?_⟩
      rw [List.set_set]
      exact kk a b n rfl rfl ha hn hn1 hn2 r s e g lf

/-! the root that a text tells, loosely -/
def RootNow (Z : Cs) (μ : Sto) (d : D) (n a b : Nat) : Prop := ∃ k, d = .ref k ∧ cell μ k = some (rootO Z.c_Root n a b)
def sp_loosely_read_roots (Z : Cs) : SpD := fun ds μ P _ => ∃ d, ds = [d] ∧ ((∃ p : Str, d = .str p ∧ p.length ≤ 100000 ∧ ∀ r μ', Ext μ μ' → (r = .non ∨ ∃ n a b, RootNow Z μ' r n a b ∧ LeastForm n a b) → (∀ n a b, LeastForm n a b → p = textR n a b → RootNow Z μ' r n a b) → P r μ') ∨ (NoText μ d ∧ P .non μ))
theorem len_loosely_read_roots (Z : Cs) : ∀ ds μ Pd R, sp_loosely_read_roots Z ds μ Pd R → ds.length = 1 := fun ds μ Pd R ⟨i, e, _⟩ => by rw [e] <;> rfl
theorem FPow.own {n a b r s e : Nat} (lf : LeastForm n a b) (h : FPow a b n r s e) : e = 1 ∧ r = a ∧ s = b := by
  have e1 : e = 1 := lf.least e r s h.2.2.1 h.1 h.2.1
  subst e1
  exact ⟨rfl, by rw [← h.1, Nat.pow_one], by rw [← h.2.1, Nat.pow_one]⟩
theorem LeastForm.isn {n a b : Nat} (h : LeastForm n a b) : IsNum (a : Int) (b : Int) := ⟨by have := h.a1; omega, by have := h.b1; omega, h.cop, by have := h.a30; omega, by have := h.b30; omega⟩
theorem posB_num {a b : Int} (h : IsNum a b) : posB (.tup [.int a, .int b]) = decide (0 < a) := by
  show (numB (.tup [.int a, .int b]) && decide (0 < a)) = _
  rw [numB_yes h, Bool.true_and]
def T_loosely_read_roots (Z : Cs) : WS :=
  (wTryOnly3 Z.K [.ref Z.n_InvalidText, .ref Z.n_InvalidNumber, .ref Z.n_InvalidDegree] (wRet (wMake Z.c_Root (sp_Root_init Z) (wCons (wCall (sp_read_number Z) (wCons (wVar 3) wNil)) (wCons (wCB wIntT (wCons (wVar 1) wNil)) wNil)))) (fun a cls d => (wRet (wC .non))))
theorem try_loosely_read_roots (Z : Cs) {p t s y : Str} {μ : Sto} {R : Addr → List (Str × D) → Sto → Prop} {E : EndsD} (hy : y.length ≤ 100000) (ht : t.length ≤ 2) (dg : digB t = true)
    (can : ∀ n a b, LeastForm n a b → p = textR n a b → tL t = numC n ∧ tL y = textN (a : Int) (b : Int))
    (k : ∀ r μ', Ext μ μ' → (r = .non ∨ ∃ n a b, RootNow Z μ' r n a b ∧ LeastForm n a b) → (∀ n a b, LeastForm n a b → p = textR n a b → RootNow Z μ' r n a b) → E.rt r μ') :
    T_loosely_read_roots Z (fun _ C fs μ' => R C fs μ') E [some (.str p), some (.str t), some (.str s), some (.str y)] μ := by
  have none : ∀ μ', Ext μ μ' → (∀ n a b, LeastForm n a b → p ≠ textR n a b) → E.rt .non μ' := fun μ' e h => k _ _ e (.inl rfl) fun n a b lf z => absurd z (h n a b lf)
  obtain ⟨d1, d2⟩ := digB_iff.mp dg
  have un : unsign (tL t) = tL t := (unsign_ne fun r z => by
    have := d2 45 (by rw [z]; exact List.mem_cons_self ..)
    omega).1
  unfold T_loosely_read_roots wTryOnly3
  walk_at "hd"
  simp only [wMake]
  walk_at "hd"
  refine ⟨y, rfl, hy, fun a b hn hyt => ?_, fun no => ?_⟩
  · walk_at "hd"
    simp only [wIntT]
    refine ⟨intC (tL t), int_read (by rw [un]; exact d2) (by rw [un]; exact d1) (by omega), by omega, ?_⟩
    have iv : intC (tL t) = ((PySem.NumText.digitsVal (tL t) : Nat) : Int) := (unsign_ne fun r z => by
      have := d2 45 (by rw [z]; exact List.mem_cons_self ..)
      omega).2
    rw [iv]
    generalize hv : PySem.NumText.digitsVal (tL t) = v
    have canV : ∀ n a' b', LeastForm n a' b' → p = textR n a' b' → v = n ∧ a = (a' : Int) ∧ b = (b' : Int) := fun n a' b' lf z => by
      obtain ⟨c1, c2⟩ := can n a' b' lf z
      rw [c1, numC_val] at hv
      rw [c2] at hyt
      obtain ⟨q1, q2⟩ := text_one lf.isn hn hyt
      exact ⟨hv.symm, q1.symm, q2.symm⟩
    refine ⟨μ.length, _, _, μ.length, true, _, true, _, rfl, .tup (.cons (.int a) (.cons (.int b) .nil)), .int (v : Int), cell_new μ _ [], fun c => ?_, fun c w => ?_, fun x y m ex em x1 hx m1 m60 r s e g lf => ⟨rfl, ?_⟩⟩
    · refine ⟨true, Z.xm1_InvalidNumber, fun _ _ _ _ => ?_, fun z => Bool.noConfusion z⟩
      refine none _ (Ext.app _ _) fun n a' b' lf z => ?_
      obtain ⟨q0, q1, q2⟩ := canV n a' b' lf z
      rw [posB_num hn] at c
      have := of_decide_eq_false c
      have := lf.a1
      omega
    · refine ⟨true, Z.xm1_InvalidDegree, fun _ _ _ _ => ?_, fun z => Bool.noConfusion z⟩
      refine none _ (Ext.app _ _) fun n a' b' lf z => ?_
      obtain ⟨q0, q1, q2⟩ := canV n a' b' lf z
      have z : (decide ((1 : Int) ≤ (v : Int)) && decide ((v : Int) ≤ 60)) = false := w
      have n1 := lf.n1
      have n60 := lf.n60
      rw [decide_eq_true (by omega), decide_eq_true (by omega)] at z
      cases z
    · have em' : v = m := Int.ofNat.inj (D.int.inj em)
      have ex1 := D.tup.inj ex
      have ea : a = (x : Int) := D.int.inj (List.cons.inj ex1).1
      have eb : b = (y : Int) := D.int.inj (List.cons.inj (List.cons.inj ex1).2).1
      rw [show (μ ++ [O.ins Z.c_Root []]).set μ.length (rootO Z.c_Root (m / e) r s) = μ ++ [rootO Z.c_Root (m / e) r s] by simp]
      refine k _ _ (Ext.app _ _) (.inr ⟨_, _, _, ⟨_, rfl, cell_new μ _ []⟩, lf⟩) fun n a' b' lf' z => ?_
      obtain ⟨q0, q1, q2⟩ := canV n a' b' lf' z
      have q3 : m = n := by omega
      have q4 : x = a' := by omega
      have q5 : y = b' := by omega
      subst q3
      subst q4
      subst q5
      obtain ⟨rfl, rfl, rfl⟩ := FPow.own lf' g
      rw [Nat.div_one]
      exact ⟨_, rfl, cell_new μ _ []⟩
  · refine ⟨true, Z.xm1_InvalidText, fun _ _ _ _ => ?_, fun z => Bool.noConfusion z⟩
    exact none _ (Ext.refl _) fun n a b lf z => no a b lf.isn (can n a b lf z).2
def W_loosely_read_roots (Z : Cs) : WS :=
  (wSeq (wIfS (wNot (wTruth (wCB (wIsi2 "str") (wCons (wVar 0) (wCons (wC (.ty "str")) wNil))))) (wRet (wC .non)) wNext)
  (wSeq (wAsg (wPartT (wVar 0) (wC (.str " of "))) (wgTup 3 (wgCons (wgName 1) (wgCons (wgName 2) (wgCons (wgName 3) wgEnd)))))
  (wSeq (wIfS (wOr (wB (wOp wGt (wCB wLen (wCons (wVar 1) wNil)) (wC (.int 2)))) (wNot (wTruth (wCall sp_are_digits (wCons (wVar 1) wNil))))) (wRet (wC .non)) wNext)
  (wTryOnly3 Z.K [.ref Z.n_InvalidText, .ref Z.n_InvalidNumber, .ref Z.n_InvalidDegree] (wRet (wMake Z.c_Root (sp_Root_init Z) (wCons (wCall (sp_read_number Z) (wCons (wVar 3) wNil)) (wCons (wCB wIntT (wCons (wVar 1) wNil)) wNil)))) (fun a cls d => (wRet (wC .non)))))))
theorem vc_loosely_read_roots (Z : Cs) : ∀ ds μ Pd R, sp_loosely_read_roots Z ds μ Pd R → W_loosely_read_roots Z (fun _ C fs μ' => R C fs μ') { nx := fun _ μ' => Pd .non μ', rt := Pd } (startD 4 ds) μ := by
  intro ds μ Pd R h
  obtain ⟨d, rfl, ⟨p, rfl, hl, k⟩ | ⟨⟨t, h1, h2⟩, k⟩⟩ := h
  case inr =>
    unfold W_loosely_read_roots
    walk_at "hd"
    try simp only [wIsi2]
    try walk_at "hd"
    refine ⟨_, _, h1, h2, ?_⟩
    simp only [Bool.not_false]
    exact k
  have kit_ss : kitB "str" "str" = some true := by decide +kernel
  have line : 1000000 ≤ sizeLine := by decide
  obtain ⟨f1, f2, f3⟩ := fact_partition p (Str.ofString " of ")
  have can : ∀ n a b, LeastForm n a b → p = textR n a b → tL (Txt.partition p (Str.ofString " of ")).1 = numC n ∧ tL (Txt.partition p (Str.ofString " of ")).2.2 = textN (a : Int) (b : Int) := fun n a b lf z => by
    rw [z, textR_part]
    exact ⟨tL_ofC _, tL_ofC _⟩
  have none : ∀ μ', Ext μ μ' → (∀ n a b, LeastForm n a b → p ≠ textR n a b) → Pd .non μ' := fun μ' e h => k _ _ e (.inl rfl) fun n a b lf z => absurd z (h n a b lf)
  have e : W_loosely_read_roots Z = wSeq _ (wSeq _ (wSeq _ (T_loosely_read_roots Z))) := rfl
  rw [e]
  walk_at "hd"
  try simp only [wIsi2]
  try walk_at "hd"
  refine ⟨_, _, rfl, kit_ss, ?_⟩
  simp only [Bool.not_true]
  simp only [wPartT]
  walk_at "hd"
  generalize Txt.partition p (Str.ofString " of ") = V at f1 f2 f3 can ⊢
  obtain ⟨t, s, y⟩ := V
  simp only [] at f1 f2 f3 can ⊢
  refine ⟨by decide +kernel, by omega, by omega, ?_⟩
  cases c : decide ((2 : Int) < (t.length : Int)) with
  | true =>
    simp only []
    refine none _ (Ext.refl _) fun n a b lf z => ?_
    have q := (can n a b lf z).1
    have l2 := numC_two (n := n) (by have := lf.n60; omega)
    rw [← q, ← tL_len] at l2
    have := of_decide_eq_true c
    omega
  | false =>
    have ht : t.length ≤ 2 := by
      have := of_decide_eq_false c
      omega
    simp only []
    refine ⟨t, rfl, ?_⟩
    cases c2 : digB t with
    | false =>
      simp only [Bool.not_false]
      refine none _ (Ext.refl _) fun n a b lf z => ?_
      have q := (can n a b lf z).1
      rw [digB_iff.mpr ⟨by rw [q]; exact numC_ne _, by rw [q]; exact numC_digits _⟩] at c2
      cases c2
    | true =>
      simp only [Bool.not_true]
      exact try_loosely_read_roots Z (by omega) ht c2 can k

/-! the root with a text, or None -/
def sp_root_or_none (Z : Cs) : SpD := fun ds μ P _ => ∃ d, ds = [d] ∧ ((∃ p : Str, d = .str p ∧ p.length ≤ 100000 ∧ (∀ n a b k μ', LeastForm n a b → p = textR n a b → Ext μ μ' → cell μ' k = some (rootO Z.c_Root n a b) → P (.ref k) μ') ∧ ((∀ n a b, LeastForm n a b → p ≠ textR n a b) → ∀ μ', Ext μ μ' → P .non μ')) ∨ (NoText μ d ∧ P .non μ))
theorem len_root_or_none (Z : Cs) : ∀ ds μ Pd R, sp_root_or_none Z ds μ Pd R → ds.length = 1 := fun ds μ Pd R ⟨i, e, _⟩ => by rw [e] <;> rfl
def W_root_or_none (Z : Cs) : WS :=
  (wSeq (wAsg (wCall (sp_loosely_read_roots Z) (wCons (wVar 0) wNil)) (wgName 1))
  (wSeq (wIfS (wOr (wB (wOp wIsN (wVar 1) (wC .non))) (wB (wOp wNe (wCB (wStrO Z.c_Root (sp_Root_str Z)) (wCons (wVar 1) wNil)) (wVar 0)))) (wRet (wC .non)) wNext)
  (wRet (wVar 1))))
theorem vc_root_or_none (Z : Cs) : ∀ ds μ Pd R, sp_root_or_none Z ds μ Pd R → W_root_or_none Z (fun _ C fs μ' => R C fs μ') { nx := fun _ μ' => Pd .non μ', rt := Pd } (startD 2 ds) μ := by
  intro ds μ Pd R h
  obtain ⟨d, rfl, ⟨p, rfl, hl, k1, k2⟩ | ⟨nt, k⟩⟩ := h
  · unfold W_root_or_none
    walk_at "hd"
    refine ⟨_, rfl, .inl ⟨p, rfl, hl, fun r μ' e hr hc => ?_⟩⟩
    have bad : r = .non → Pd .non μ' := fun z => k2 (fun n a b lf q => by
      obtain ⟨k, ek, _⟩ := hc n a b lf q
      rw [z] at ek
      cases ek) μ' e
    rcases hr with rfl | ⟨n, a, b, ⟨k, rfl, c⟩, lf⟩
    · simp only [wIsN]
      exact bad rfl
    · simp only [wIsN]
      try walk_at "hd"
      refine ⟨insAt_root c, k, n, a, b, rfl, c, lf, ?_⟩
      simp only []
      cases c2 : decide (textR n a b = p) with
      | true =>
        simp only [Bool.not_true]
        exact k1 n a b k μ' lf (of_decide_eq_true c2).symm e c
      | false =>
        simp only [Bool.not_false]
        refine k2 (fun n' a' b' lf' q => ?_) μ' e
        obtain ⟨k', ek, c'⟩ := hc n' a' b' lf' q
        cases ek
        rw [c] at c'
        have ee := Option.some.inj c'
        unfold rootO at ee
        injection ee with _ e2
        have l := List.cons.inj e2
        have e3 : D.int (n : Int) = D.int (n' : Int) := congrArg Prod.snd l.1
        have e4 : D.tup [.int (a : Int), .int (b : Int)] = D.tup [.int (a' : Int), .int (b' : Int)] := congrArg Prod.snd (List.cons.inj l.2).1
        have n1 : n = n' := Int.ofNat.inj (D.int.inj e3)
        have l4 := D.tup.inj e4
        have a1 : a = a' := Int.ofNat.inj (D.int.inj (List.cons.inj l4).1)
        have b1 : b = b' := Int.ofNat.inj (D.int.inj (List.cons.inj (List.cons.inj l4).2).1)
        rw [n1, a1, b1] at c2
        exact of_decide_eq_false c2 q.symm
  · unfold W_root_or_none
    walk_at "hd"
    refine ⟨_, rfl, .inr ⟨nt, ?_⟩⟩
    simp only [wIsN]
    exact k

/-! the root with a text, or InvalidText -/
def sp_Root_read (Z : Cs) : SpD := fun ds μ P R => ∃ d, ds = [d] ∧ ((∃ p : Str, d = .str p ∧ p.length ≤ 100000 ∧ (∀ n a b k μ', LeastForm n a b → p = textR n a b → Ext μ μ' → cell μ' k = some (rootO Z.c_Root n a b) → P (.ref k) μ') ∧ ((∀ n a b, LeastForm n a b → p ≠ textR n a b) → ∀ μ', Ext μ μ' → R Z.c_InvalidText [("given", d)] μ')) ∨ (NoText μ d ∧ R Z.c_InvalidText [("given", d)] μ))
theorem len_Root_read (Z : Cs) : ∀ ds μ Pd R, sp_Root_read Z ds μ Pd R → ds.length = 1 := fun ds μ Pd R ⟨i, e, _⟩ => by rw [e] <;> rfl
def W_Root_read (Z : Cs) : WS :=
  (wSeq (wAsg (wCall (sp_root_or_none Z) (wCons (wVar 0) wNil)) (wgName 1))
  (wSeq (wIfS (wB (wOp wIsN (wVar 1) (wC .non))) (wRaise Z.c_InvalidText "given" (wCons (wVar 0) wNil)) wNext)
  (wRet (wVar 1))))
theorem vc_Root_read (Z : Cs) : ∀ ds μ Pd R, sp_Root_read Z ds μ Pd R → W_Root_read Z (fun _ C fs μ' => R C fs μ') { nx := fun _ μ' => Pd .non μ', rt := Pd } (startD 2 ds) μ := by
  intro ds μ Pd R h
  obtain ⟨d, rfl, ⟨p, rfl, hl, k1, k2⟩ | ⟨nt, k⟩⟩ := h
  · unfold W_Root_read
    walk_at "hd"
    refine ⟨_, rfl, .inl ⟨p, rfl, hl, fun n a b k μ' lf q e c => ?_, fun no μ' e => ?_⟩⟩
    · simp only [wIsN]
      exact k1 n a b k μ' lf q e c
    · simp only [wIsN, wRaise]
      try walk_at "hd"
      exact k2 no μ' e
  · unfold W_Root_read
    walk_at "hd"
    refine ⟨_, rfl, .inr ⟨nt, ?_⟩⟩
    simp only [wIsN, wRaise]
    try walk_at "hd"
    exact k

/-! texts by hand -/
theorem hh_in {a b : WS} {R : XD} {E : EndsD} {δ : En} {μ : Sto} (h : a R { E with nx := fun δ' μ' => b R E δ' μ' } δ μ) : wSeq a b R E δ μ := h
def hx_IsRT (p : Str) : Prop := ∃ n a b, LeastForm n a b ∧ p = textR n a b
theorem hx_num_free (n : Nat) {c : Nat} (h : ¬ (48 ≤ c ∧ c ≤ 57)) : c ∉ numC n := fun z => h (numC_digits n c z)
abbrev hx_XR := Addr → List (Str × D) → Sto → Prop
def hx_errL (w s : Str) : List D := [.str "error", .str w, .str s]
theorem hx_tell_txt (Z : Cs) {p : Addr} {q : Str} {μ : Sto} {δ : En} {R : XD} {P : D → Sto → Prop} {j : Nat} {we : WE} (hj : cell μ j = some (.tab p q)) {x : D} {xp : PyData} (hx : ShowsX μ x xp)
    (hact : ∀ (R' : hx_XR) (P' : D → Sto → Prop), (∀ μ', Ext μ μ' → R' Z.c_InvalidText [("given", x)] μ') → we (fun _ C fs μ' => R' C fs μ') δ μ P')
    (k : ∀ i μ', Ext μ μ' → lstAt μ' i = some (hx_errL "InvalidText" xp.shown) → P (.ref i) μ') : wLam p q 3 (W_l_tell Z) we R δ μ P := by
  unfold wLam
  refine ⟨⟨j, hj⟩, fun fa ca σ => ?_⟩
  unfold W_l_tell
  walk_at "hd"
  simp only [wTryAs3]
  walk_at "hd"
  simp only [wAct, slot, slotsOf_of]
  refine ⟨trivial, trivial, trivial, trivial, ?_⟩
  refine hact (fun C fs μ' => _) _ fun μ1 e1 => ?_
  refine ⟨true, Z.xm0_InvalidText, fun _ a' dx hd => ?_, fun z => Bool.noConfusion z⟩
  cases dx with
  | none => exact absurd (hd rfl) (by simp)
  | some dx => exact ⟨dx, x, xp, rfl, rfl, rfl, ⟨fun μ' e => hx.1 μ' (e1.trans e), hx.2⟩, fun i μ2 e2 h2 => k i μ2 (e1.trans e2) h2⟩
def hx_errP (w s : Str) : PyData := .list [.str "error", .str w, .str s]
theorem hx_err_py {μ : Sto} {i : Nat} {w s : Str} (h : lstAt μ i = some (hx_errL w s)) : Py μ (.ref i) (hx_errP w s) := .ref h (.cons (.str _) (.cons (.str _) (.cons (.str _) .nil)))
theorem hx_err_sh {w s : Str} (hw : PyData.strOk w = true) (hs : PyData.strOk s = true) : SeqAt.shaped (hx_errP w s) = true := sh_strs3 _ _ _ (ok_ofString _) hw hs
theorem hx_shows_txt {μ : Sto} {p : Str} (h : ∀ c ∈ tL p, c < 128) (hl : p.length ≤ 100000) : ShowsX μ (.str p) (.str p) := by
  refine ⟨fun μ' _ => .inl (.str p), rfl, by simp [PyData.depth], ?_⟩
  have := StrLaws.reprText_len p fun c hc => by
    have := h c hc
    omega
  have big : 2000000 ≤ sizeLine := by decide
  show (reprText p).length ≤ _
  omega
theorem hx_ok_txt {p : Str} (h : ∀ c ∈ tL p, c < 128) : PyData.strOk (PyData.str p).shown = true := ok_repr h
/-- what a text tells, if it is that of a root -/
def upTo (c : Nat) : List Nat → List Nat
  | [] => []
  | x :: r => if x = c then [] else x :: upTo c r
def behind (c : Nat) : List Nat → List Nat
  | [] => []
  | x :: r => if x = c then x :: r else behind c r
theorem upTo_app {c : Nat} : ∀ {u : List Nat} (v : List Nat), c ∉ u → upTo c (u ++ c :: v) = u ∧ behind c (u ++ c :: v) = c :: v
  | [], v, _ => by
    show (if c = c then [] else _) = [] ∧ (if c = c then c :: v else _) = c :: v
    rw [if_pos rfl, if_pos rfl]
    exact ⟨rfl, rfl⟩
  | x :: u, v, h => by
    have hx : x ≠ c := fun z => h (by rw [z]; exact List.mem_cons_self ..)
    obtain ⟨a, b⟩ := upTo_app v fun z => h (List.mem_cons_of_mem _ z)
    show (if x = c then [] else x :: upTo c (u ++ c :: v)) = x :: u ∧ (if x = c then _ else behind c (u ++ c :: v)) = c :: v
    rw [if_neg hx, if_neg hx, a, b]
    exact ⟨rfl, rfl⟩
theorem upTo_all {c : Nat} : ∀ {u : List Nat}, c ∉ u → upTo c u = u ∧ behind c u = []
  | [], _ => ⟨rfl, rfl⟩
  | x :: u, h => by
    have hx : x ≠ c := fun z => h (by rw [z]; exact List.mem_cons_self ..)
    obtain ⟨a, b⟩ := upTo_all (u := u) fun z => h (List.mem_cons_of_mem _ z)
    show (if x = c then [] else x :: upTo c u) = x :: u ∧ (if x = c then _ else behind c u) = []
    rw [if_neg hx, if_neg hx, a, b]
    exact ⟨rfl, rfl⟩
def tellsB (l : List Nat) : Nat × Nat × Nat :=
  let r := (behind 32 l).drop 4
  (PySem.NumText.digitsVal (upTo 32 l), PySem.NumText.digitsVal (upTo 47 r), match behind 47 r with
    | [] => 1
    | _ :: q => PySem.NumText.digitsVal q)
theorem tells_is (n a b : Nat) : tellsB (tL (textR n a b)) = (n, a, b) := by
  have e : tL (textR n a b) = numC n ++ 32 :: ([111, 102, 32] ++ textN (a : Int) (b : Int)) := by
    rw [textR_list, of_is]
    simp
  obtain ⟨u1, u2⟩ := upTo_app ([111, 102, 32] ++ textN (a : Int) (b : Int)) (hx_num_free n (c := 32) (by omega))
  have s0 : signC (a : Int) = [] := if_neg (by omega)
  have t : textN (a : Int) (b : Int) = numC a ++ (if b = 1 then [] else 47 :: numC b) := by
    unfold textN
    rw [s0, List.nil_append, Int.natAbs_natCast, Int.natAbs_natCast]
    congr 1
    by_cases c : b = 1
    · rw [if_pos c, if_pos (by omega)]
    · rw [if_neg c, if_neg (by omega)]
  unfold tellsB
  rw [e, u1, u2]
  show (PySem.NumText.digitsVal (numC n), PySem.NumText.digitsVal (upTo 47 (textN (a : Int) (b : Int))), _) = _
  have d4 : (32 :: ([111, 102, 32] ++ textN (a : Int) (b : Int))).drop 4 = textN (a : Int) (b : Int) := rfl
  simp only [d4]
  rw [t]
  by_cases c : b = 1
  · rw [if_pos c, List.append_nil]
    obtain ⟨v1, v2⟩ := upTo_all (hx_num_free a (c := 47) (by omega))
    rw [v1, v2, numC_val, numC_val, c]
  · rw [if_neg c]
    obtain ⟨v1, v2⟩ := upTo_app (numC b) (hx_num_free a (c := 47) (by omega))
    rw [v1, v2, numC_val, numC_val]
    simp only [numC_val]
/-- no root has this text -/
def badB (p : Str) : Bool :=
  let t := tellsB (tL p)
  !(decide (textR t.1 t.2.1 t.2.2 = p)) || (decide (t.1 = 0) || (decide (60 < t.1) || (decide (t.2.1 = 0) || (decide (t.2.2 = 0) || (decide (1000000000000000000000000000000 < t.2.1) || (decide (Nat.gcd t.2.1 t.2.2 ≠ 1) ||
    (List.range 5).any fun m => (List.range 10).any fun x => (List.range 10).any fun y => decide ((m + 2) ∣ t.1) && (decide (x ^ (m + 2) = t.2.1) && decide (y ^ (m + 2) = t.2.2))))))))
theorem bad_no {p : Str} (h : badB p = true) : ¬ hx_IsRT p := fun ⟨n, a, b, lf, e⟩ => by
  have t := tells_is n a b
  unfold badB at h
  rw [e, t] at h
  have l1 := lf.n1
  have l2 := lf.n60
  have l3 := lf.a1
  have l4 := lf.b1
  have l5 := lf.a30
  have l6 := lf.cop
  simp only [decide_true, Bool.not_true, Bool.false_or] at h
  rw [decide_eq_false (show ¬ n = 0 by omega), decide_eq_false (show ¬ 60 < n by omega), decide_eq_false (show ¬ a = 0 by omega), decide_eq_false (show ¬ b = 0 by omega), decide_eq_false (show ¬ 1000000000000000000000000000000 < a by omega), decide_eq_false (show ¬ Nat.gcd a b ≠ 1 from fun z => z l6)] at h
  simp only [Bool.false_or] at h
  obtain ⟨m, _, h⟩ := List.any_eq_true.mp h
  obtain ⟨x, _, h⟩ := List.any_eq_true.mp h
  obtain ⟨y, _, h⟩ := List.any_eq_true.mp h
  rw [Bool.and_eq_true, Bool.and_eq_true, decide_eq_true_eq, decide_eq_true_eq, decide_eq_true_eq] at h
  have := lf.least (m + 2) x y h.1 h.2.1 h.2.2
  omega
def BADS : List Str := [(Str.ofString "2 of 4"), (Str.ofString "4 of 4/9"), (Str.ofString "2 of 1"), (Str.ofString "0 of 2"), (Str.ofString "61 of 2"), (Str.ofString "2 of -2"), (Str.ofString "2 of 0"), (Str.ofString "2 of 2/4"), (Str.ofString "02 of 2"), (Str.ofString "2 of 02"), (Str.ofString "2of 2"), (Str.ofString "2 of"), (Str.ofString "of 2"), (Str.ofString "2 of 2 "), (Str.ofString " 2 of 2"), (Str.ofString "2 Of 2"), (Str.ofString "2 of 2/1"), (Str.ofString "2 of 1/0"), (Str.ofString "+2 of 2"), (Str.ofString "2 of 2/3/5"), (Str.ofString "2 of 11111111111111111111111111111111"), (Str.ofString "2 of 10000000000000000000000000000001"), (Str.ofString "2.0 of 2"), (Str.ofString ""), (Str.ofString "2 of /3"), (Str.ofString "2 of 3/"), (Str.ofString "6 of 64")]
def badsOk : Bool := BADS.all fun p => badB p && ((tL p).all (fun c => decide (c < 128)) && decide (p.length ≤ 1000))
theorem bads_ok : badsOk = true := by decide +kernel
theorem bads_at {p : Str} (h : p ∈ BADS) : ¬ hx_IsRT p ∧ (∀ c ∈ tL p, c < 128) ∧ p.length ≤ 1000 := by
  have := List.all_eq_true.mp bads_ok p h
  rw [Bool.and_eq_true, Bool.and_eq_true, decide_eq_true_eq, List.all_eq_true] at this
  obtain ⟨h1, h2, h3⟩ := this
  exact ⟨bad_no h1, fun c hc => of_decide_eq_true (h2 c hc), h3⟩
theorem hh_1 {rst : WS} {x0 x1 x2 : Option D} {R : XD} {E : EndsD} {μ : Sto} (k : ∀ M μ', Ext μ μ' → lstAt μ' M = some ([(Str.ofString "2 of 4"), (Str.ofString "4 of 4/9"), (Str.ofString "2 of 1"), (Str.ofString "0 of 2"), (Str.ofString "61 of 2"), (Str.ofString "2 of -2"), (Str.ofString "2 of 0"), (Str.ofString "2 of 2/4"), (Str.ofString "02 of 2"), (Str.ofString "2 of 02")].map D.str) → rst R E [some (.ref M), x1, x2] μ') : wSeq (wAsg (wLst (wCons (wC (.str "2 of 4")) (wCons (wC (.str "4 of 4/9")) (wCons (wC (.str "2 of 1")) (wCons (wC (.str "0 of 2")) (wCons (wC (.str "61 of 2")) (wCons (wC (.str "2 of -2")) (wCons (wC (.str "2 of 0")) (wCons (wC (.str "2 of 2/4")) (wCons (wC (.str "02 of 2")) (wCons (wC (.str "2 of 02")) wNil))))))))))) (wgName 0)) rst R E [x0, x1, x2] μ := by
  refine hh_in ?_
  walk_at "hd"
  repeat (refine ⟨by decide, ?_⟩)
  exact k _ _ (Ext.app _ _) (lst_new _ _)
theorem hh_2 {rst : WS} {M : Nat} {ps : List Str} {x1 x2 : Option D} {R : XD} {E : EndsD} {μ : Sto} (hM : lstAt μ M = some (ps.map D.str)) (hl : ps.length ≤ 100) (k : ∀ M μ', Ext μ μ' → lstAt μ' M = some ((ps ++ [(Str.ofString "2of 2"), (Str.ofString "2 of"), (Str.ofString "of 2"), (Str.ofString "2 of 2 "), (Str.ofString " 2 of 2"), (Str.ofString "2 Of 2"), (Str.ofString "2 of 2/1"), (Str.ofString "2 of 1/0"), (Str.ofString "+2 of 2")]).map D.str) → rst R E [some (.ref M), x1, x2] μ') : wSeq (wAsg (wOp wAdd (wVar 0) (wLst (wCons (wC (.str "2of 2")) (wCons (wC (.str "2 of")) (wCons (wC (.str "of 2")) (wCons (wC (.str "2 of 2 ")) (wCons (wC (.str " 2 of 2")) (wCons (wC (.str "2 Of 2")) (wCons (wC (.str "2 of 2/1")) (wCons (wC (.str "2 of 1/0")) (wCons (wC (.str "+2 of 2")) wNil))))))))))) (wgName 0)) rst R E [some (.ref M), x1, x2] μ := by
  refine hh_in ?_
  walk_at "hd"
  repeat (refine ⟨by decide, ?_⟩)
  refine ⟨_, _, (Ext.app _ _).lst hM, lst_new _ _, by rw [List.length_map]; simp only [List.length_cons, List.length_nil]; omega, ?_⟩
  refine k _ _ ((Ext.app _ _).trans (Ext.app _ _)) ?_
  rw [List.map_append]
  exact lst_new _ _
theorem hh_3 {rst : WS} {M : Nat} {ps : List Str} {x1 x2 : Option D} {R : XD} {E : EndsD} {μ : Sto} (hM : lstAt μ M = some (ps.map D.str)) (hl : ps.length ≤ 100) (k : ∀ M μ', Ext μ μ' → lstAt μ' M = some ((ps ++ [(Str.ofString "2 of 2/3/5"), (Str.ofString "2 of 11111111111111111111111111111111"), (Str.ofString "2 of 10000000000000000000000000000001"), (Str.ofString "2.0 of 2"), (Str.ofString ""), (Str.ofString "2 of /3")]).map D.str) → rst R E [some (.ref M), x1, x2] μ') : wSeq (wAsg (wOp wAdd (wVar 0) (wLst (wCons (wC (.str "2 of 2/3/5")) (wCons (wOp wAdd (wOp wAdd (wC (.str "2 of ")) (wOp wMulS (wC (.str "1")) (wC (.int 31)))) (wC (.str "1"))) (wCons (wOp wAdd (wOp wAdd (wC (.str "2 of 1")) (wOp wMulS (wC (.str "0")) (wC (.int 30)))) (wC (.str "1"))) (wCons (wC (.str "2.0 of 2")) (wCons (wC (.str "")) (wCons (wC (.str "2 of /3")) wNil)))))))) (wgName 0)) rst R E [some (.ref M), x1, x2] μ := by
  refine hh_in ?_
  walk_at "hd"
  simp only [wMulS]
  have m1 : Str.ofString "2 of " ++ (⟨List.foldl (· ++ ·) #[] (List.replicate (Int.toNat 31) (Str.ofString "1").cps)⟩ : Str) ++ Str.ofString "1" = (Str.ofString "2 of 11111111111111111111111111111111") := by decide +kernel
  have m0 : Str.ofString "2 of 1" ++ (⟨List.foldl (· ++ ·) #[] (List.replicate (Int.toNat 30) (Str.ofString "0").cps)⟩ : Str) ++ Str.ofString "1" = (Str.ofString "2 of 10000000000000000000000000000001") := by decide +kernel
  repeat (refine ⟨by decide +kernel, ?_⟩)
  rw [m1, m0]
  repeat (refine ⟨by decide, ?_⟩)
  refine ⟨_, _, (Ext.app _ _).lst hM, lst_new _ _, by rw [List.length_map]; simp only [List.length_cons, List.length_nil]; omega, ?_⟩
  refine k _ _ ((Ext.app _ _).trans (Ext.app _ _)) ?_
  rw [List.map_append]
  exact lst_new _ _
theorem hh_4 {rst : WS} {M : Nat} {ps : List Str} {x1 x2 : Option D} {R : XD} {E : EndsD} {μ : Sto} (hM : lstAt μ M = some (ps.map D.str)) (hl : ps.length ≤ 100) (k : ∀ M μ', Ext μ μ' → lstAt μ' M = some ((ps ++ [(Str.ofString "2 of 3/"), (Str.ofString "6 of 64")]).map D.str) → rst R E [some (.ref M), x1, x2] μ') : wSeq (wAsg (wOp wAdd (wVar 0) (wLst (wCons (wC (.str "2 of 3/")) (wCons (wC (.str "6 of 64")) wNil)))) (wgName 0)) rst R E [some (.ref M), x1, x2] μ := by
  refine hh_in ?_
  walk_at "hd"
  repeat (refine ⟨by decide, ?_⟩)
  refine ⟨_, _, (Ext.app _ _).lst hM, lst_new _ _, by rw [List.length_map]; simp only [List.length_cons, List.length_nil]; omega, ?_⟩
  refine k _ _ ((Ext.app _ _).trans (Ext.app _ _)) ?_
  rw [List.map_append]
  exact lst_new _ _
theorem hh_5b (Z : Cs) {M t : Nat} {q : Str} {x2 : Option D} {R : XD} {E : EndsD} {μ : Sto} (ht : cell μ t = some (.tab Z.p_l_by_hand q_l_by_hand)) (no : ¬ hx_IsRT q) (hq : ∀ c ∈ tL q, c < 128) (hl : q.length ≤ 1000) (k : ∀ μ', Ext μ μ' → E.nx [some (.ref M), some (.str q), x2] μ') : (wIfS (wB (wOp wNe (wLam Z.p_l_by_hand q_l_by_hand 3 (W_l_tell Z) (wSta Z.c_Root (sp_Root_read Z) (wC (.adr Z.c_Root)) (wCons (wVar 1) wNil))) (wLst (wCons (wC (.str "error")) (wCons (wC (.str "InvalidText")) (wCons (wCB wRepr3 (wCons (wVar 1) wNil)) wNil)))))) (wRet (wC (.bl false))) wNext) R E [some (.ref M), some (.str q), x2] μ := by
  have sx := hx_shows_txt (μ := μ) hq (by omega)
  unfold wIfS wB wOp
  refine hx_tell_txt Z ht sx (fun R' P' rr => ?_) fun i μ1 e1 h1 => ?_
  · simp only [wSta]
    walk_at "hd"
    exact ⟨_, rfl, .inl ⟨q, rfl, by omega, fun n a b kk μ' lf e _ _ => absurd ⟨n, a, b, lf, e⟩ no, fun _ μ' e => rr μ' e⟩⟩
  · walk_at "hd"
    simp only [HD.wRepr3]
    refine ⟨.str q, .inl (.str q), sx.2.1, sx.2.2.1, sx.2.2.2, by decide, ?_⟩
    have sh : SeqAt.shaped (hx_errP (Str.ofString "InvalidText") (PyData.str q).shown) = true := hx_err_sh (ok_ofString _) (hx_ok_txt hq)
    have e2 := Ext.app μ1 [O.lst (hx_errL "InvalidText" (PyData.str q).shown)]
    refine ⟨_, _, hx_err_py (e2.lst h1), hx_err_py (lst_new _ _), sh, sh, ?_⟩
    rw [same_eqv sh]
    simp only [Bool.not_true]
    exact k _ (e1.trans e2)
theorem hh_5 (Z : Cs) {rst : WS} {M t : Nat} {ps : List Str} {x1 x2 : Option D} {R : XD} {E : EndsD} {μ : Sto} (ht : cell μ t = some (.tab Z.p_l_by_hand q_l_by_hand)) (hM : lstAt μ M = some (ps.map D.str)) (hps : ∀ p, p ∈ ps → ¬ hx_IsRT p ∧ (∀ c ∈ tL p, c < 128) ∧ p.length ≤ 1000) (k : ∀ x0 x1 μ', Ext μ μ' → rst R E [x0, x1, x2] μ') : wSeq (wForL (wVar 0) (wgName 1) (wIfS (wB (wOp wNe (wLam Z.p_l_by_hand q_l_by_hand 3 (W_l_tell Z) (wSta Z.c_Root (sp_Root_read Z) (wC (.adr Z.c_Root)) (wCons (wVar 1) wNil))) (wLst (wCons (wC (.str "error")) (wCons (wC (.str "InvalidText")) (wCons (wCB wRepr3 (wCons (wVar 1) wNil)) wNil)))))) (wRet (wC (.bl false))) wNext)) rst R E [some (.ref M), x1, x2] μ := by
  refine hh_in ?_
  unfold wForL
  walk_at "hd"
  refine ⟨ps.map D.str, fun n δ' μ' => ∃ x1, δ' = [some (.ref M), x1, x2] ∧ Ext μ μ', ⟨_, rfl, Ext.refl _⟩, ?_, ?_, ?_⟩
  · rintro n δ' μ' _ ⟨_, rfl, e⟩
    exact e.lst hM
  · rintro n d δ' μ' hd ⟨_, rfl, e⟩
    rw [List.getElem?_map] at hd
    cases hq : ps[n]? with
    | none =>
      rw [hq] at hd
      cases hd
    | some q =>
      rw [hq] at hd
      have ed : D.str q = d := Option.some.inj hd
      subst ed
      obtain ⟨b1, b2, b3⟩ := hps q (List.mem_of_getElem? hq)
      refine hh_5b Z (x2 := x2) (R := R) (E := { E with nx := fun δ' μ' => ∃ x1, δ' = [some (.ref M), x1, x2] ∧ Ext μ μ' }) (e.2 _ _ ht) b1 b2 b3 fun μ2 e2 => ⟨_, rfl, e.trans e2⟩
  · rintro δ' μ' ⟨_, rfl, e⟩
    exact k _ _ _ e
theorem least_pow {c e N : Nat} (hc : NoPow c) (hN : 1 ≤ N) (hg : Nat.gcd N e = 1) : LeastR N (c ^ e) 1 := by
  refine ⟨hN, Nat.pow_pos (by have := hc.1; omega), Nat.le_refl _, Nat.gcd_one_right _, fun m x y hm hx _ => ?_⟩
  have m1 : 1 ≤ m := Nat.pos_of_dvd_of_pos hm hN
  have d := Nat.dvd_gcd hm (noPow_dvd hc m1 hx)
  rw [hg] at d
  exact Nat.dvd_one.mp d
theorem least_whole {a b : Nat} (ha : 1 ≤ a) (hb : 1 ≤ b) (hg : Nat.gcd a b = 1) : LeastR 1 a b := ⟨Nat.le_refl _, ha, hb, hg, fun m x y hm _ _ => Nat.dvd_one.mp hm⟩
theorem LeastR.turn {n a b : Nat} (h : LeastR n a b) : LeastR n b a := ⟨h.n1, h.b1, h.a1, by rw [Nat.gcd_comm]; exact h.cop, fun m x y hm hx hy => h.least m y x hm hy hx⟩
theorem hnp10 : NoPow 10 := noPow_by [3, 2] (by decide) (by decide) (by decide)
theorem hnp9 : NoPow 999983 := noPow_by [999, 99, 31, 15, 9, 7, 5, 4, 3, 3, 3, 2, 2, 2, 2, 2, 2, 2] (by decide +kernel) (by decide +kernel) (by decide +kernel)
theorem hxform {n a b : Nat} (h : LeastR n a b) (n60 : n ≤ 60) (a30 : a ≤ 1000000000000000000000000000000) (b30 : b ≤ 1000000000000000000000000000000) : LeastForm n a b := ⟨h.n1, n60, h.a1, h.b1, a30, b30, h.cop, h.least⟩
def GOODS : List Str := [(Str.ofString "1 of 1"), (Str.ofString "1 of 4"), (Str.ofString "2 of 2"), (Str.ofString "60 of 2/3"), (Str.ofString "3 of 4"), (Str.ofString "59 of 1/999983"), (Str.ofString "1 of 1/1000000000000000000000000000000"), (Str.ofString "7 of 1000000000000000000000000000000")]
theorem goods_at {p : Str} (h : p ∈ GOODS) : hx_IsRT p ∧ p.length ≤ 1000 := by
  have mk : ∀ {n a b : Nat} {p : Str}, LeastR n a b → n ≤ 60 → a ≤ 1000000000000000000000000000000 → b ≤ 1000000000000000000000000000000 → p = textR n a b → p.length ≤ 1000 → hx_IsRT p ∧ p.length ≤ 1000 := fun h1 h2 h3 h4 e l => ⟨⟨_, _, _, hxform h1 h2 h3 h4, e⟩, l⟩
  simp only [GOODS, List.mem_cons, List.not_mem_nil, or_false] at h
  rcases h with rfl | rfl | rfl | rfl | rfl | rfl | rfl | rfl
  · exact mk (n := 1) (a := 1) (b := 1) (least_whole (by decide) (by decide) (by decide)) (by decide) (by decide) (by decide) (by decide +kernel) (by decide +kernel)
  · exact mk (n := 1) (a := 4) (b := 1) (least_whole (by decide) (by decide) (by decide)) (by decide) (by decide) (by decide) (by decide +kernel) (by decide +kernel)
  · exact mk (n := 2) (a := 2) (b := 1) (least_pow (c := 2) (e := 1) np2 (by decide) (by decide)) (by decide) (by decide) (by decide) (by decide +kernel) (by decide +kernel)
  · refine mk (n := 60) (a := 2) (b := 3) ⟨by decide, by decide, by decide, by decide, fun m x y hm hx _ => ?_⟩ (by decide) (by decide) (by decide) (by decide +kernel) (by decide +kernel)
    have m1 : 1 ≤ m := Nat.pos_of_dvd_of_pos hm (by decide)
    exact Nat.dvd_one.mp (noPow_dvd (e := 1) np2 m1 hx)
  · exact mk (n := 3) (a := 4) (b := 1) (least_pow (c := 2) (e := 2) (N := 3) np2 (by decide) (by decide)) (by decide) (by decide) (by decide) (by decide +kernel) (by decide +kernel)
  · exact mk (n := 59) (a := 1) (b := 999983) (least_pow (c := 999983) (e := 1) hnp9 (by decide) (by decide)).turn (by decide) (by decide) (by decide) (by decide +kernel) (by decide +kernel)
  · exact mk (n := 1) (a := 1) (b := 1000000000000000000000000000000) (least_whole (by decide) (by decide) (by decide)) (by decide) (by decide) (by decide) (by decide +kernel) (by decide +kernel)
  · exact mk (n := 7) (a := 1000000000000000000000000000000) (b := 1) (least_pow (c := 10) (e := 30) (N := 7) hnp10 (by decide) (by decide)) (by decide) (by decide) (by decide) (by decide +kernel) (by decide +kernel)
def G6 : List Str := [(Str.ofString "1 of 1"), (Str.ofString "1 of 4"), (Str.ofString "2 of 2"), (Str.ofString "60 of 2/3"), (Str.ofString "3 of 4"), (Str.ofString "59 of 1/999983"), (Str.ofString "1 of 1/1000000000000000000000000000000")]
theorem goods_six : G6 ++ [(Str.ofString "7 of 1000000000000000000000000000000")] = GOODS := rfl
theorem hh_6a {rst : WS} {x0 x1 x2 : Option D} {R : XD} {E : EndsD} {μ : Sto} (k : ∀ M μ', Ext μ μ' → μ.length ≤ M → lstAt μ' M = some (G6.map D.str) → rst R E [x0, x1, some (.ref M)] μ') : wSeq (wAsg (wLst (wCons (wC (.str "1 of 1")) (wCons (wC (.str "1 of 4")) (wCons (wC (.str "2 of 2")) (wCons (wC (.str "60 of 2/3")) (wCons (wC (.str "3 of 4")) (wCons (wC (.str "59 of 1/999983")) (wCons (wOp wAdd (wC (.str "1 of 1/1")) (wOp wMulS (wC (.str "0")) (wC (.int 30)))) wNil)))))))) (wgName 2)) rst R E [x0, x1, x2] μ := by
  refine hh_in ?_
  walk_at "hd"
  simp only [wMulS]
  have m1 : Str.ofString "1 of 1/1" ++ (⟨List.foldl (· ++ ·) #[] (List.replicate (Int.toNat 30) (Str.ofString "0").cps)⟩ : Str) = (Str.ofString "1 of 1/1000000000000000000000000000000") := by decide +kernel
  repeat (refine ⟨by decide +kernel, ?_⟩)
  rw [m1]
  exact k _ _ (Ext.app _ _) (Nat.le_refl _) (lst_new _ _)
theorem hh_6b {rst : WS} {M : Nat} {x0 x1 : Option D} {R : XD} {E : EndsD} {μ0 μ : Sto} (hM : lstAt μ M = some (G6.map D.str)) (ml : μ0.length ≤ M) (e0 : Ext μ0 μ) (k : ∀ μ', Ext μ0 μ' → lstAt μ' M = some (GOODS.map D.str) → rst R E [x0, x1, some (.ref M)] μ') : wSeq (wDrop (wApp (wVar 2) (wOp wAdd (wC (.str "7 of 1")) (wOp wMulS (wC (.str "0")) (wC (.int 30)))))) rst R E [x0, x1, some (.ref M)] μ := by
  refine hh_in ?_
  have m0 : Str.ofString "7 of 1" ++ (⟨List.foldl (· ++ ·) #[] (List.replicate (Int.toNat 30) (Str.ofString "0").cps)⟩ : Str) = (Str.ofString "7 of 1000000000000000000000000000000") := by decide +kernel
  have ll : (G6.map D.str).length ≤ 1000 := by decide
  have lg : G6.map D.str ++ [D.str (Str.ofString "7 of 1000000000000000000000000000000")] = GOODS.map D.str := by rw [← goods_six, List.map_append]; rfl
  revert hM ll lg
  generalize G6.map D.str = xs
  intro hM ll lg
  walk_at "hd"
  simp only [wApp]
  walk_at "hd"
  refine ⟨⟨_, hM⟩, ?_⟩
  simp only [wMulS]
  repeat (refine ⟨by decide +kernel, ?_⟩)
  rw [m0]
  simp only [hM]
  refine ⟨ll, ?_⟩
  rw [lg]
  exact k _ (e0.set ml _) (lst_set hM)
theorem strs_py {μ : Sto} : ∀ x : List Str, PyAll μ (x.map D.str) (x.map PyData.str)
  | [] => .nil
  | a :: x => .cons (.str a) (strs_py x)
theorem goods_shaped : SeqAt.shaped (.list (GOODS.map PyData.str)) = true := by decide +kernel
theorem goods_vals : ((List.range 8).filter fun _ => true).map (fun j => D.str (GOODS.getD j Str.empty)) = GOODS.map D.str := by
  have : GOODS.length = 8 := rfl
  have gen : ∀ (l : List Str), ((List.range l.length).filter fun _ => true).map (fun j => D.str (l.getD j Str.empty)) = l.map D.str := fun l => by
    rw [List.filter_eq_self.mpr fun _ _ => rfl]
    refine List.ext_getElem (by simp) fun m h1 h2 => ?_
    simp only [List.getElem_map, List.getElem_range]
    rw [List.getD_eq_getElem?_getD, List.getElem?_eq_getElem (by simpa using h1)]
    rfl
  exact gen GOODS
theorem goods_get {j : Nat} (h : j < 8) : GOODS.getD j Str.empty ∈ GOODS ∧ (GOODS.map D.str).getD j .non = .str (GOODS.getD j Str.empty) := by
  have hl : j < GOODS.length := h
  rw [List.getD_eq_getElem?_getD, List.getD_eq_getElem?_getD, List.getElem?_map, List.getElem?_eq_getElem hl]
  exact ⟨List.getElem_mem hl, rfl⟩
theorem hh_7 (Z : Cs) {R : XD} {E : EndsD} {M : Nat} {x0 x1 : Option D} {μ : Sto} (hM : lstAt μ M = some (GOODS.map D.str)) (k : ∀ μ', Ext μ μ' → E.rt (.bl true) μ') : (wRet (wOp wEq (wLcL 1 (wVar 2) wYes (wCB (wStrO Z.c_Root (sp_Root_str Z)) (wCons (wSta Z.c_Root (sp_Root_read Z) (wC (.adr Z.c_Root)) (wCons (wVar 1) wNil)) wNil))) (wVar 2))) R E [x0, x1, some (.ref M)] μ := by
  have len : (GOODS.map D.str).length = 8 := by rw [List.length_map]; rfl
  unfold wRet wOp
  simp only [wLcL]
  walk_at "hd"
  refine ⟨_, hM, ?_⟩
  rw [len]
  refine lc_ext (fun _ => true) (fun j => .str (GOODS.getD j Str.empty)) (by decide) (fun μ' e => e.lst hM) (fun j μ' Q hj e q => q μ' (Ext.refl _)) (fun j μ' Q hj _ e q => ?_) fun μ1 e1 hl1 => ?_
  · have hj' : j < 8 := hj
    obtain ⟨g0, g1⟩ := goods_get hj'
    obtain ⟨⟨n, a, b, lf, et⟩, hl⟩ := goods_at g0
    rw [g1]
    revert q
    generalize GOODS.getD j Str.empty = t at *
    intro q
    unfold wSta
    walk_at "hd"
    refine ⟨_, rfl, .inl ⟨t, rfl, by omega, fun n a b kk μ2 lf e x hc => ?_, fun no => absurd et (no n a b lf)⟩⟩
    show wStrO Z.c_Root (sp_Root_str Z) [.ref kk] μ2 _
    refine ⟨insAt_root hc, _, _, _, _, rfl, hc, lf, ?_⟩
    rw [← e]
    exact q _ x
  · rw [goods_vals] at hl1
    refine ⟨_, _, .ref hl1 (strs_py _), .ref (e1.lst hM) (strs_py _), goods_shaped, goods_shaped, ?_⟩
    rw [same_eqv goods_shaped]
    exact k _ e1

def sp_l_by_hand (Z : Cs) : SpD := fun ds μ P _ => ∃ j, ds = [] ∧ cell μ j = some (.tab Z.p_l_by_hand q_l_by_hand) ∧ ∀ μ', Ext μ μ' → P (.bl true) μ'
theorem len_l_by_hand (Z : Cs) : ∀ ds μ Pd R, sp_l_by_hand Z ds μ Pd R → ds.length = 0 := fun ds μ Pd R ⟨_, e, _⟩ => by rw [e] <;> rfl
def W_l_by_hand (Z : Cs) : WS :=
  (wSeq (wAsg (wLst (wCons (wC (.str "2 of 4")) (wCons (wC (.str "4 of 4/9")) (wCons (wC (.str "2 of 1")) (wCons (wC (.str "0 of 2")) (wCons (wC (.str "61 of 2")) (wCons (wC (.str "2 of -2")) (wCons (wC (.str "2 of 0")) (wCons (wC (.str "2 of 2/4")) (wCons (wC (.str "02 of 2")) (wCons (wC (.str "2 of 02")) wNil))))))))))) (wgName 0))
  (wSeq (wAsg (wOp wAdd (wVar 0) (wLst (wCons (wC (.str "2of 2")) (wCons (wC (.str "2 of")) (wCons (wC (.str "of 2")) (wCons (wC (.str "2 of 2 ")) (wCons (wC (.str " 2 of 2")) (wCons (wC (.str "2 Of 2")) (wCons (wC (.str "2 of 2/1")) (wCons (wC (.str "2 of 1/0")) (wCons (wC (.str "+2 of 2")) wNil))))))))))) (wgName 0))
  (wSeq (wAsg (wOp wAdd (wVar 0) (wLst (wCons (wC (.str "2 of 2/3/5")) (wCons (wOp wAdd (wOp wAdd (wC (.str "2 of ")) (wOp wMulS (wC (.str "1")) (wC (.int 31)))) (wC (.str "1"))) (wCons (wOp wAdd (wOp wAdd (wC (.str "2 of 1")) (wOp wMulS (wC (.str "0")) (wC (.int 30)))) (wC (.str "1"))) (wCons (wC (.str "2.0 of 2")) (wCons (wC (.str "")) (wCons (wC (.str "2 of /3")) wNil)))))))) (wgName 0))
  (wSeq (wAsg (wOp wAdd (wVar 0) (wLst (wCons (wC (.str "2 of 3/")) (wCons (wC (.str "6 of 64")) wNil)))) (wgName 0))
  (wSeq (wForL (wVar 0) (wgName 1) (wIfS (wB (wOp wNe (wLam Z.p_l_by_hand q_l_by_hand 3 (W_l_tell Z) (wSta Z.c_Root (sp_Root_read Z) (wC (.adr Z.c_Root)) (wCons (wVar 1) wNil))) (wLst (wCons (wC (.str "error")) (wCons (wC (.str "InvalidText")) (wCons (wCB wRepr3 (wCons (wVar 1) wNil)) wNil)))))) (wRet (wC (.bl false))) wNext))
  (wSeq (wAsg (wLst (wCons (wC (.str "1 of 1")) (wCons (wC (.str "1 of 4")) (wCons (wC (.str "2 of 2")) (wCons (wC (.str "60 of 2/3")) (wCons (wC (.str "3 of 4")) (wCons (wC (.str "59 of 1/999983")) (wCons (wOp wAdd (wC (.str "1 of 1/1")) (wOp wMulS (wC (.str "0")) (wC (.int 30)))) wNil)))))))) (wgName 2))
  (wSeq (wDrop (wApp (wVar 2) (wOp wAdd (wC (.str "7 of 1")) (wOp wMulS (wC (.str "0")) (wC (.int 30))))))
  (wRet (wOp wEq (wLcL 1 (wVar 2) wYes (wCB (wStrO Z.c_Root (sp_Root_str Z)) (wCons (wSta Z.c_Root (sp_Root_read Z) (wC (.adr Z.c_Root)) (wCons (wVar 1) wNil)) wNil))) (wVar 2))))))))))
theorem vc_l_by_hand (Z : Cs) : ∀ ds μ Pd R, sp_l_by_hand Z ds μ Pd R → W_l_by_hand Z (fun _ C fs μ' => R C fs μ') { nx := fun _ μ' => Pd .non μ', rt := Pd } (startD 3 ds) μ := by
  intro ds μ Pd R h
  obtain ⟨j, rfl, ht, k⟩ := h
  unfold W_l_by_hand
  refine hh_1 (x0 := none) (x1 := none) (x2 := none) fun M1 μ1 e1 h1 => ?_
  refine hh_2 h1 (by decide) fun M2 μ2 e2 h2 => ?_
  refine hh_3 h2 (by decide) fun M3 μ3 e3 h3 => ?_
  refine hh_4 h3 (by decide) fun M4 μ4 e4 h4 => ?_
  have e04 := ((e1.trans e2).trans e3).trans e4
  refine hh_5 Z (ps := BADS) (e04.2 _ _ ht) h4 (fun p hp => bads_at hp) fun x0 x1 μ5 e5 => ?_
  refine hh_6a fun M6 μ6 e6 l6 h6 => ?_
  refine hh_6b h6 l6 e6 fun μ7 e7 h7 => ?_
  exact hh_7 Z h7 fun μ8 e8 => k _ (((e04.trans e5).trans e7).trans e8)

/-! the greatest common divisor -/
theorem gcd_step (a b : Nat) : Nat.gcd b (a % b) = Nat.gcd a b := by
  rw [Nat.gcd_comm a b, Nat.gcd_rec b a, Nat.gcd_comm]
def sp_l_gcd : SpD := fun ds μ P _ => ∃ a b : Nat, ds = [.int (a : Int), .int (b : Int)] ∧ P (.int ((Nat.gcd a b : Nat) : Int)) μ
theorem len_l_gcd : ∀ ds μ Pd R, sp_l_gcd ds μ Pd R → ds.length = 2 := fun ds μ Pd R ⟨a, b, e, _⟩ => by rw [e] <;> rfl
def W_l_gcd : WS :=
  (wSeq (wWhile (wB (wOp wGt (wVar 1) (wC (.int 0)))) (wPar 0 1 (wCons (wVar 1) (wCons (wOp wMod (wCB wInt (wCons (wVar 0) wNil)) (wVar 1)) wNil))))
  (wRet (wVar 0)))
theorem vc_l_gcd : ∀ ds μ Pd R, sp_l_gcd ds μ Pd R → W_l_gcd (fun _ C fs μ' => R C fs μ') { nx := fun _ μ' => Pd .non μ', rt := Pd } (startD 2 ds) μ := by
  intro ds μ Pd R h
  obtain ⟨a, b, rfl, k⟩ := h
  unfold W_l_gcd
  walk_at "hd"
  unfold wWhile
  refine ⟨fun m δ' μ' => ∃ x y : Nat, δ' = [some (.int x), some (.int y)] ∧ μ' = μ ∧ m = y ∧ Nat.gcd x y = Nat.gcd a b, ⟨b, a, b, rfl, rfl, rfl, rfl⟩, ?_⟩
  rintro m δ' μ' ⟨x, y, rfl, rfl, rfl, hg⟩
  walk_at "hd"
  cases hz : decide ((0 : Int) < (m : Int)) with
  | true =>
    have hm : (0 : Int) < (m : Int) := of_decide_eq_true hz
    have hm' : 0 < m := by omega
    simp only []
    have lt : x % m < m := Nat.mod_lt _ hm'
    exact ⟨hm, x % m, lt, m, x % m, by rw [Int.natCast_emod], rfl, by rw [gcd_step]; exact hg⟩
  | false =>
    have hm : ¬ (0 : Int) < (m : Int) := of_decide_eq_false hz
    have hm' : m = 0 := by omega
    subst hm'
    simp only []
    rw [Nat.gcd_zero_right] at hg
    rw [hg]
    exact k

/-! exponents and a degree, divided by what they share -/
def sp_l_low : SpD := fun ds μ P _ => ∃ (i n : Nat) (es : List Int), ds = [.ref i, .int (n : Int)] ∧ lstAt μ i = some (es.map .int) ∧ es.length ≤ 100 ∧ 0 < n ∧ n < 2 ^ 1000 ∧
  ∀ (j k : Nat) μ', Ext μ μ' → lstAt μ' j = some [.ref k, .int ((n / lowG n es : Nat) : Int)] → lstAt μ' k = some ((es.map fun e => e / (lowG n es : Int)).map .int) → P (.ref j) μ'
theorem len_l_low : ∀ ds μ Pd R, sp_l_low ds μ Pd R → ds.length = 2 := fun ds μ Pd R ⟨_, _, _, e, _⟩ => by rw [e] <;> rfl
def W_l_low : WS :=
  (wSeq (wAsg (wVar 1) (wgName 2))
  (wSeq (wForL (wVar 0) (wgName 3) (wAsg (wCall sp_l_gcd (wCons (wVar 2) (wCons (wCB wAbs (wCons (wVar 3) wNil)) wNil))) (wgName 2)))
  (wRet (wLst (wCons (wLcL 3 (wVar 0) wYes (wOp wDiv (wVar 3) (wVar 2))) (wCons (wOp wDiv (wVar 1) (wVar 2)) wNil))))))
theorem vc_l_low : ∀ ds μ Pd R, sp_l_low ds μ Pd R → W_l_low (fun _ C fs μ' => R C fs μ') { nx := fun _ μ' => Pd .non μ', rt := Pd } (startD 4 ds) μ := by
  intro ds μ Pd R h
  obtain ⟨i, n, es, rfl, hi, hl, hn, hs, k⟩ := h
  unfold W_l_low
  walk_at "hd"
  unfold wForL
  walk_at "hd"
  simp only [itemsOf]
  refine ⟨es.map .int, fun j δ' μ' => μ' = μ ∧ ∃ y : Option D, δ' = [some (.ref i), some (.int (n : Int)), some (.int (lowG n (es.take j) : Nat)), y], ⟨rfl, _, rfl⟩, ?_, ?_, ?_⟩
  · rintro j δ' μ' hj ⟨rfl, y, rfl⟩
    exact hi
  · rintro j z δ' μ' hj ⟨rfl, y, rfl⟩
    rw [List.getElem?_map] at hj
    cases hz : es[j]? with
    | none =>
      rw [hz] at hj
      cases hj
    | some e =>
      rw [hz] at hj
      have hj' : D.int e = z := Option.some.inj hj
      subst hj'
      walk_at "hd"
      refine ⟨lowG n (es.take j), e.natAbs, ?_, ?_⟩
      · rw [abs_nat]
      · refine ⟨rfl, some (.int e), ?_⟩
        have : es.take (j + 1) = es.take j ++ [e] := by
          rw [List.take_add_one, hz]
          rfl
        rw [this]
        unfold lowG
        rw [List.foldl_append]
        rfl
  · rintro δ' μ' ⟨rfl, y, rfl⟩
    rw [List.length_map, List.take_length]
    obtain ⟨g1, g2⟩ := lowG_pos hn es
    walk_at "hd"
    simp only [wLcL]
    walk_at "hd"
    have dv : DivOk ((lowG n es : Nat) : Int) := divOk (by omega) (by
      have a : (2 : Nat) ^ 1000 < 2 ^ 8000 := Nat.pow_lt_pow_right (by decide) (by decide)
      have b : ((2 ^ 8000 : Nat) : Int) = (2 : Int) ^ 8000 := by rw [Int.natCast_pow] <;> rfl
      omega)
    refine ⟨es.map .int, hi, ?_⟩
    rw [List.length_map]
    refine lc_ext (fun _ => true) (fun m => .int (es.getD m 0 / (lowG n es : Int))) (by omega) (fun μ' e => e.lst hi) (fun m μ' Q hm e q => q μ' (Ext.refl _)) (fun m μ' Q hm _ e q => ?_) fun μ1 e1 hl1 => ?_
    · walk_at "hd"
      have em : (es.map D.int).getD m .non = .int (es.getD m 0) := by
        rw [List.getD_eq_getElem?_getD, List.getD_eq_getElem?_getD, List.getElem?_map, List.getElem?_eq_getElem hm]
        rfl
      rw [em]
      exact ⟨dv, q μ' (Ext.refl _)⟩
    · have ff : ((List.range es.length).filter fun _ => true).map (fun m => D.int (es.getD m 0 / (lowG n es : Int))) = (es.map fun e => e / (lowG n es : Int)).map .int := by
        rw [List.filter_eq_self.mpr fun _ _ => rfl]
        refine List.ext_getElem (by simp) fun m h1 h2 => ?_
        simp only [List.getElem_map, List.getElem_range]
        rw [List.getD_eq_getElem?_getD, List.getElem?_eq_getElem (by simpa using h1)]
        rfl
      rw [ff] at hl1
      exact ⟨dv, by decide, k _ _ _ (e1.trans (Ext.app _ _)) (by rw [Int.natCast_ediv]; exact lst_new _ _) ((Ext.app _ _).lst hl1)⟩

/-! the text of a number -/
def sp_l_text : SpD := fun ds μ P _ => ∃ a b : Int, ds = [.tup [.int a, .int b]] ∧ IsNum a b ∧ P (.str (ofC (textN a b))) μ
theorem len_l_text : ∀ ds μ Pd R, sp_l_text ds μ Pd R → ds.length = 1 := fun ds μ Pd R ⟨i, l, e, _⟩ => by rw [e] <;> rfl
def W_l_text : WS :=
  (wRet (wIf (wB (wOp wEq (wOp wIx (wVar 0) (wC (.int 1))) (wC (.int 1)))) (wCB wStrI (wCons (wOp wIx (wVar 0) (wC (.int 0))) wNil)) (wOp wAdd (wOp wAdd (wCB wStrI (wCons (wOp wIx (wVar 0) (wC (.int 0))) wNil)) (wC (.str "/"))) (wCB wStrI (wCons (wOp wIx (wVar 0) (wC (.int 1))) wNil)))))
theorem vc_l_text : ∀ ds μ Pd R, sp_l_text ds μ Pd R → W_l_text (fun _ C fs μ' => R C fs μ') { nx := fun _ μ' => Pd .non μ', rt := Pd } (startD 1 ds) μ := by
  intro ds μ Pd R h
  obtain ⟨a, b, rfl, hn, k⟩ := h
  have hn' := hn
  obtain ⟨h1, h2, h3, h4, h5⟩ := hn'
  unfold W_l_text
  walk_at "hd"
  have big : 1000 ≤ sizeLine := le_line (Nat.le_refl _)
  have sa := text_short h4
  have sb := text_short (i := b) (by omega)
  cases c : decide (b = 1) with
  | true =>
    have c' := of_decide_eq_true c
    subst c'
    simp only []
    exact ⟨log_num h4, whole_is a ▸ k⟩
  | false =>
    have c' := of_decide_eq_false c
    simp only []
    have l1 : (Str.ofString "/").length = 1 := by decide +kernel
    have l2 : (Str.ofString (toString a) ++ Str.ofString "/").length ≤ 40 := by
      rw [tL_len, tL_app, List.length_append, ← tL_len, ← tL_len]
      omega
    exact ⟨log_num h4, by omega, log_num (i := b) (by omega), by omega, part_is3 h2 c' ▸ k⟩

/-! a power, the other way -/
def sp_l_to : SpD := fun ds μ P _ => ∃ (v : Int) (n : Nat), ds = [.int v, .int (n : Int)] ∧ n ≤ 1000 ∧ v.natAbs ^ n < 2 ^ 7000 ∧ P (.int (v ^ n)) μ
theorem len_l_to : ∀ ds μ Pd R, sp_l_to ds μ Pd R → ds.length = 2 := fun ds μ Pd R ⟨a, b, e, _⟩ => by rw [e] <;> rfl
def W_l_to : WS :=
  (wSeq (wAsg (wC (.int 1)) (wgName 2))
  (wSeq (wForR1 (wCons (wVar 1) wNil) (wgName 3) (wAsg (wOp wMul (wVar 2) (wVar 0)) (wgName 2)))
  (wRet (wVar 2))))
theorem vc_l_to : ∀ ds μ Pd R, sp_l_to ds μ Pd R → W_l_to (fun _ C fs μ' => R C fs μ') { nx := fun _ μ' => Pd .non μ', rt := Pd } (startD 4 ds) μ := by
  intro ds μ Pd R h
  obtain ⟨v, n, rfl, hn, hs, k⟩ := h
  unfold W_l_to
  walk_at "hd"
  unfold wForR1 turnsR
  walk_at "hd"
  have small : ∀ i, i ≤ n → v.natAbs ^ i < 2 ^ 7000 := fun i hi => by
    cases Nat.eq_zero_or_pos v.natAbs with
    | inl z =>
      rw [z]
      exact Nat.lt_of_le_of_lt (Nat.pow_le_pow_left (by decide : 0 ≤ 1) i) (by rw [Nat.one_pow]; exact Nat.one_lt_two_pow (by decide))
    | inr z => exact Nat.lt_of_le_of_lt (Nat.pow_le_pow_right z hi) hs
  refine ⟨r62 (by omega), fun i δ' μ' => μ' = μ ∧ ∃ x, δ' = [some (.int v), some (.int (n : Int)), some (.int (v ^ i)), x], ⟨rfl, none, by rw [Int.pow_zero]⟩, ?_, ?_⟩
  · rintro i δ' μ' hi ⟨rfl, x, rfl⟩
    have hi' : i < n := by omega
    walk_at "hd"
    have s1 := small i (by omega)
    have s2 := small 1 (by omega)
    rw [Nat.pow_one] at s2
    exact ⟨mulOk (a := 7000) (b := 7000) (by rw [Int.natAbs_pow]; exact s1) s2 (by decide), _, by rw [Int.pow_succ]⟩
  · rintro δ' μ' ⟨rfl, x, rfl⟩
    walk_at "hd"
    exact k

/-! the number of exponents -/
def sp_l_value : SpD := fun ds μ P _ => ∃ (i : Nat) (es : List Int), ds = [.ref i] ∧ lstAt μ i = some (es.map .int) ∧ es.length = 4 ∧ (∀ e, e ∈ es → e.natAbs ≤ 720) ∧ ∀ μ', Ext μ μ' → P (.tup [.int (tpA es : Int), .int (tpB es : Int)]) μ'
theorem len_l_value : ∀ ds μ Pd R, sp_l_value ds μ Pd R → ds.length = 1 := fun ds μ Pd R ⟨i, l, e, _⟩ => by rw [e] <;> rfl
def W_l_value : WS :=
  (wSeq (wAsg (wTup (wCons (wC (.int 1)) (wCons (wC (.int 1)) wNil))) (wgTup 2 (wgCons (wgName 1) (wgCons (wgName 2) wgEnd))))
  (wSeq (wForZ (wCons (wLst (wCons (wC (.int 2)) (wCons (wC (.int 3)) (wCons (wC (.int 5)) (wCons (wC (.int 7)) wNil))))) (wCons (wVar 0) wNil)) (wgTup 2 (wgCons (wgName 3) (wgCons (wgName 4) wgEnd))) (wPar 1 2 (wCons (wOp wMul (wVar 1) (wCall sp_l_to (wCons (wVar 3) (wCons (wCB wMax (wCons (wVar 4) (wCons (wC (.int 0)) wNil))) wNil)))) (wCons (wOp wMul (wVar 2) (wCall sp_l_to (wCons (wVar 3) (wCons (wCB wMax (wCons (wNeg (wVar 4)) (wCons (wC (.int 0)) wNil))) wNil)))) wNil))))
  (wRet (wTup (wCons (wVar 1) (wCons (wVar 2) wNil))))))
theorem vc_l_value : ∀ ds μ Pd R, sp_l_value ds μ Pd R → W_l_value (fun _ C fs μ' => R C fs μ') { nx := fun _ μ' => Pd .non μ', rt := Pd } (startD 5 ds) μ := by
  intro ds μ Pd R h
  obtain ⟨k, es, rfl, hi, hl, hs, kk⟩ := h
  unfold W_l_value
  walk_at "hd"
  refine ⟨by decide, ?_⟩
  unfold wForZ
  walk_at "hd"
  refine ⟨by decide, [.int 2, .int 3, .int 5, .int 7], es.map .int, fun i δ' μ' => μ' = μ ++ [.lst [.int 2, .int 3, .int 5, .int 7]] ∧ ∃ x y, δ' = [some (.ref k), some (.int (tp es i : Int)), some (.int (tp (es.map fun e => -e) i : Int)), x, y], rfl, ⟨rfl, _, _, rfl⟩, ?_, ?_, ?_⟩
  · rintro i δ' μ' ⟨rfl, x, y, rfl⟩
    exact ⟨lst_new _ _, (Ext.app _ _).lst hi⟩
  · rintro i x y δ' μ' hx hy ⟨rfl, x', y', rfl⟩
    have i4 : i < 4 := by
      have := (List.getElem?_eq_some_iff.mp hx).1
      exact this
    have ex : x = .int (([2, 3, 5, 7].getD i 1 : Nat) : Int) := by
      have : i = 0 ∨ i = 1 ∨ i = 2 ∨ i = 3 := by omega
      rcases this with rfl | rfl | rfl | rfl <;> exact (Option.some.inj hx).symm
    obtain ⟨e, he, rfl⟩ : ∃ e, es[i]? = some e ∧ y = .int e := by
      rw [List.getElem?_map] at hy
      cases c : es[i]? with
      | none =>
        rw [c] at hy
        cases hy
      | some e =>
        rw [c] at hy
        exact ⟨e, rfl, (Option.some.inj hy).symm⟩
    subst ex
    have e12 := hs e (List.mem_of_getElem? he)
    have ge : es.getD i 0 = e := by rw [List.getD_eq_getElem?_getD, he] <;> rfl
    have gn : (es.map fun e => -e).getD i 0 = -e := by rw [List.getD_eq_getElem?_getD, List.getElem?_map, he] <;> rfl
    obtain ⟨p, hp⟩ : ∃ p, [2, 3, 5, 7].getD i 1 = p := ⟨_, rfl⟩
    have hp' := prime_few i
    have t1 : tp es (i + 1) = tp es i * p ^ e.toNat := by
      show tp es i * ([2, 3, 5, 7].getD i 1) ^ ((es.getD i 0).toNat) = _
      rw [hp, ge]
    have t2 : tp (es.map fun e => -e) (i + 1) = tp (es.map fun e => -e) i * p ^ (-e).toNat := by
      show tp (es.map fun e => -e) i * ([2, 3, 5, 7].getD i 1) ^ (((es.map fun e => -e).getD i 0).toNat) = _
      rw [hp, gn]
    rw [hp] at hp' ⊢
    have z1 : tp es i < 2 ^ 6000 := Nat.lt_of_le_of_lt (tp_mono (Nat.le_of_lt i4)) (tp_size7 hs)
    have z2 : tp (es.map fun e => -e) i < 2 ^ 6000 := Nat.lt_of_le_of_lt (tp_mono (Nat.le_of_lt i4)) (tp_size7 (neg_few hs))
    have pw : ∀ n, n ≤ 720 → p ^ n < 2 ^ 6000 := fun n hn => Nat.lt_of_le_of_lt (Nat.le_trans (Nat.pow_le_pow_left hp'.2 n) (Nat.pow_le_pow_right (by decide) hn)) (Nat.lt_of_le_of_lt (Nat.pow_le_pow_left (show 7 ≤ 8 by decide) 720) (by rw [show (8 : Nat) = 2 ^ 3 from rfl, ← Nat.pow_mul]; exact Nat.pow_lt_pow_right (by decide) (by decide)))
    have up7 : (2 : Nat) ^ 6000 < 2 ^ 7000 := Nat.pow_lt_pow_right (by decide) (by decide)
    walk_at "hd"
    have m1 : (if 0 > e then 0 else e) = ((e.toNat : Nat) : Int) := by split <;> omega
    have m2 : (if 0 > -e then 0 else -e) = (((-e).toNat : Nat) : Int) := by split <;> omega
    rw [m1, m2]
    have w1 := pw e.toNat (by omega)
    have w2 := pw (-e).toNat (by omega)
    refine ⟨(p : Int), e.toNat, rfl, by omega, by rw [Int.natAbs_natCast]; exact Nat.lt_trans w1 up7, ?_⟩
    simp only []
    rw [← Int.natCast_pow]
    refine ⟨mulOk (a := 6000) (b := 6000) (by rw [Int.natAbs_natCast]; exact z1) (by rw [Int.natAbs_natCast]; exact w1) (by decide), (p : Int), (-e).toNat, rfl, by omega, by rw [Int.natAbs_natCast]; exact Nat.lt_trans w2 up7, ?_⟩
    simp only []
    rw [← Int.natCast_pow]
    refine ⟨mulOk (a := 6000) (b := 6000) (by rw [Int.natAbs_natCast]; exact z2) (by rw [Int.natAbs_natCast]; exact w2) (by decide), trivial, some (.int (p : Int)), some (.int e), ?_⟩
    rw [t1, t2, Int.natCast_mul, Int.natCast_mul]
  · rintro δ' μ' ⟨rfl, x, y, rfl⟩
    rw [show min [D.int 2, D.int 3, D.int 5, D.int 7].length (es.map D.int).length = 4 by rw [List.length_map, hl] <;> rfl]
    walk_at "hd"
    exact ⟨by decide, kk _ (Ext.app _ _)⟩

/-! the text of a root that is told by exponents -/
def sp_l_said : SpD := fun ds μ P _ => ∃ (r i n : Nat) (es : List Int), ds = [.ref r] ∧ lstAt μ r = some [.ref i, .int (n : Int)] ∧ lstAt μ i = some (es.map .int) ∧ es.length = 4 ∧ (∀ e, e ∈ es → e.natAbs ≤ 720) ∧ 1 ≤ n ∧ n ≤ 3600 ∧
  tpA (lowE n es) ≤ 1000000000000000000000000000000 ∧ tpB (lowE n es) ≤ 1000000000000000000000000000000 ∧ ∀ μ', Ext μ μ' → P (.str (textR (n / lowG n es) (tpA (lowE n es)) (tpB (lowE n es)))) μ'
theorem len_l_said : ∀ ds μ Pd R, sp_l_said ds μ Pd R → ds.length = 1 := fun ds μ Pd R ⟨_, _, _, _, e, _⟩ => by rw [e] <;> rfl
def W_l_said : WS :=
  (wSeq (wAsg (wCall sp_l_low (wCons (wOp wIx (wVar 0) (wC (.int 0))) (wCons (wOp wIx (wVar 0) (wC (.int 1))) wNil))) (wgTup 2 (wgCons (wgName 1) (wgCons (wgName 2) wgEnd))))
  (wRet (wOp wAdd (wOp wAdd (wCB wStrI (wCons (wVar 2) wNil)) (wC (.str " of "))) (wCall sp_l_text (wCons (wCall sp_l_value (wCons (wVar 1) wNil)) wNil)))))
theorem vc_l_said : ∀ ds μ Pd R, sp_l_said ds μ Pd R → W_l_said (fun _ C fs μ' => R C fs μ') { nx := fun _ μ' => Pd .non μ', rt := Pd } (startD 3 ds) μ := by
  intro ds μ Pd R h
  obtain ⟨r, i, n, es, rfl, hr, hi, hl, hs, n1, n36, ha, hb, k⟩ := h
  unfold W_l_said
  walk_at "hd"
  simp only [hr]
  walk_at "hd"
  have l36 : (3600 : Nat) < 2 ^ 1000 := Nat.lt_of_lt_of_le (show 3600 < 2 ^ 12 by decide) (Nat.pow_le_pow_right (by decide) (by decide))
  refine ⟨i, n, es, rfl, hi, by omega, n1, by omega, fun j k2 μ1 e1 hj hk => ?_⟩
  simp only [hj]
  walk_at "hd"
  have big : 1000 ≤ sizeLine := le_line (Nat.le_refl _)
  have dn : n / lowG n es ≤ 3600 := Nat.le_trans (Nat.div_le_self _ _) n36
  have hd : (((n / lowG n es : Nat) : Int)).natAbs ≤ 1000000000000000000000000000000 := by
    rw [Int.natAbs_natCast]
    exact Nat.le_trans dn (by decide)
  have st := text_short hd
  have l1 : (Str.ofString " of ").length = 4 := by decide +kernel
  have l2 : (Str.ofString (toString ((n / lowG n es : Nat) : Int)) ++ Str.ofString " of ").length ≤ 40 := by
    rw [tL_len, tL_app, List.length_append, ← tL_len, ← tL_len]
    omega
  refine ⟨log_num hd, by omega, k2, lowE n es, rfl, hk, by rw [lowE_len, hl], lowE_few hs, fun μ2 e2 => ?_⟩
  have A1 := tpA_pos (lowE n es)
  have B1 := tpB_pos (lowE n es)
  have nm : IsNum (tpA (lowE n es) : Int) (tpB (lowE n es) : Int) := ⟨by omega, by omega, tp_cop (by rw [lowE_len, hl]), by omega, by omega⟩
  have sn := textN_short nm
  have lt : (ofC (textN (tpA (lowE n es) : Int) (tpB (lowE n es) : Int))).length ≤ 64 := by
    rw [tL_len, tL_ofC]
    exact sn
  refine ⟨_, _, rfl, nm, ?_⟩
  have l3 : (Str.ofString (toString ((n / lowG n es : Nat) : Int)) ++ Str.ofString " of " ++ ofC (textN (tpA (lowE n es) : Int) (tpB (lowE n es) : Int))).length ≤ 110 := by
    rw [tL_len, tL_app, List.length_append, ← tL_len, ← tL_len]
    omega
  exact ⟨by omega, k _ (e1.trans e2)⟩

/-! a draw, the other way -/
def sp_l_tap : SpD := fun ds μ P _ => ∃ (j : Nat) (top B : Int), ds = [.ref j, .int top] ∧ Jar μ j B ∧ B ≤ 1000000 ∧ 0 < top ∧ top < 1073741824 ∧ ∀ (r : Int) μ', 0 ≤ r → r < top → Grow j μ μ' → Jar μ' j (B + 1) → P (.int r) μ'
theorem len_l_tap : ∀ ds μ Pd R, sp_l_tap ds μ Pd R → ds.length = 2 := fun ds μ Pd R ⟨j, top, B, e, _⟩ => by rw [e] <;> rfl
def W_l_tap : WS :=
  (wSeq (wAsg (wOp wAdd (wOp wIx (wVar 0) (wC (.int 2))) (wC (.int 1))) (wgSub (wVar 0) (wC (.int 2))))
  (wSeq (wAsg (wOp wMod (wCB wInt (wCons (wOp wAdd (wOp wAdd (wOp wMul (wOp wIx (wVar 0) (wC (.int 1))) (wC (.int 47513))) (wOp wMul (wC (.int 16007)) (wOp wIx (wVar 0) (wC (.int 2))))) (wC (.int 17))) wNil)) (wC (.int 2147483249))) (wgSub (wVar 0) (wC (.int 1))))
  (wSeq (wIfS (wB (wOp wGt (wOp wIx (wVar 0) (wC (.int 0))) (wC (.int 0)))) (wSeq (wAsg (wCB wDivmod (wCons (wCB wInt (wCons (wOp wIx (wVar 0) (wC (.int 0))) wNil)) (wCons (wVar 1) wNil))) (wgTup 2 (wgCons (wgSub (wVar 0) (wC (.int 0))) (wgCons (wgName 3) wgEnd))))
  (wRet (wVar 3))) wNext)
  (wSeq (wAsg (wOp wMod (wCB wInt (wCons (wOp wAdd (wOp wMul (wOp wIx (wVar 0) (wC (.int 1))) (wOp wAdd (wOp wIx (wVar 0) (wC (.int 1))) (wOp wMul (wC (.int 9)) (wOp wIx (wVar 0) (wC (.int 2)))))) (wC (.int 9001))) wNil)) (wC (.int 2147483179))) (wgName 2))
  (wRet (wOp wMod (wCB wInt (wCons (wOp wDiv (wVar 2) (wC (.int 1024))) wNil)) (wVar 1)))))))
theorem vc_l_tap : ∀ ds μ Pd R, sp_l_tap ds μ Pd R → W_l_tap (fun _ C fs μ' => R C fs μ') { nx := fun _ μ' => Pd .non μ', rt := Pd } (startD 4 ds) μ := by
  intro ds μ Pd R h
  obtain ⟨j, top, B, rfl, ⟨a, m, c, hj, ha, hm, hm2, hc, hcB⟩, hB, ht, ht2, k⟩ := h
  unfold W_l_tap
  walk_at "hd"
  simp only [hj]
  walk_at "hd"
  have s1 := lst_set (ys := [.int a, .int m, .int (c + 1)]) hj
  simp only [s1]
  walk_at "hd"
  have nn : 0 < top := ht
  obtain ⟨m2, hm2'⟩ : ∃ m2 : Int, (m * 47513 + 16007 * (c + 1) + 17) % 2147483249 = m2 := ⟨_, rfl⟩
  have m20 : 0 ≤ m2 := by rw [← hm2']; exact Int.emod_nonneg _ (by decide)
  have m21 : m2 < 2147483249 := by rw [← hm2']; exact Int.emod_lt_of_pos _ (by decide)
  refine ⟨mulS (by constructor <;> omega) (by constructor <;> omega), mulS (by constructor <;> omega) (by constructor <;> omega), by decide, ?_⟩
  rw [hm2']
  have s2 := lst_set (ys := [.int a, .int m2, .int (c + 1)]) s1
  simp only [s2]
  walk_at "hd"
  cases hz : decide (0 < a) with
  | true =>
    have ha' : 0 < a := of_decide_eq_true hz
    simp only []
    refine ⟨⟨ht, ht2⟩, ?_⟩
    have s3 := lst_set (ys := [.int (a / top), .int m2, .int (c + 1)]) s2
    refine k (a % top) _ (Int.emod_nonneg _ (by omega)) (Int.emod_lt_of_pos _ ht) (((grow_set _ _ _).trans (grow_set _ _ _)).trans (grow_set _ _ _)) ⟨a / top, m2, c + 1, s3, Int.ediv_nonneg ha (by omega), m20, by omega, by omega, by omega⟩
  | false =>
    simp only []
    have l3 : (3000000000 : Int) < 2 ^ 1000 := by decide +kernel
    refine ⟨mulS (by constructor <;> omega) (by constructor <;> omega), mulS (by constructor <;> omega) (by constructor <;> omega), by decide, ⟨by decide, by decide⟩, ht, k _ _ (Int.emod_nonneg _ (by omega)) (Int.emod_lt_of_pos _ ht) ((grow_set _ _ _).trans (grow_set _ _ _)) ⟨a, m2, c + 1, s2, ha, m20, by omega, by omega, by omega⟩⟩

/-! one of some things -/
def sp_l_of : SpD := fun ds μ P _ => ∃ (j i : Nat) (B : Int) (xs : List D), ds = [.ref j, .ref i] ∧ Jar μ j B ∧ B ≤ 1000000 ∧ lstAt μ i = some xs ∧ i ≠ j ∧ xs ≠ [] ∧ xs.length < 1000 ∧ ∀ (d : D) μ', d ∈ xs → Grow j μ μ' → Jar μ' j (B + 1) → P d μ'
theorem len_l_of : ∀ ds μ Pd R, sp_l_of ds μ Pd R → ds.length = 2 := fun ds μ Pd R ⟨j, i, B, xs, e, _⟩ => by rw [e] <;> rfl
def W_l_of : WS :=
  (wRet (wOp wIx (wVar 1) (wCall sp_l_tap (wCons (wVar 0) (wCons (wCB wLen (wCons (wVar 1) wNil)) wNil)))))
theorem vc_l_of : ∀ ds μ Pd R, sp_l_of ds μ Pd R → W_l_of (fun _ C fs μ' => R C fs μ') { nx := fun _ μ' => Pd .non μ', rt := Pd } (startD 2 ds) μ := by
  intro ds μ Pd R h
  obtain ⟨j, i, B, xs, rfl, hj, hB, hi, hne, hxs, hlen, k⟩ := h
  unfold W_l_of
  walk_at "hd"
  simp only [hi]
  walk_at "hd"
  have hl0 : 0 < xs.length := by
    cases xs with
    | nil => exact absurd rfl hxs
    | cons => exact Nat.succ_pos _
  refine ⟨xs.length, rfl, j, (xs.length : Int), B, rfl, hj, hB, by omega, by omega, fun r μ' h0 h1 g jr => ?_⟩
  obtain ⟨n, rfl⟩ := Int.eq_ofNat_of_zero_le h0
  have hn : n < xs.length := by omega
  have e : xs[n]? = some xs[n] := List.getElem?_eq_getElem hn
  have e2 : atI xs ((n : Nat) : Int) = some xs[n] := atI_nat (j := n) e
  simp only [g.lst hne hi, e2]
  exact k _ _ (List.getElem_mem hn) g jr

/-! a value of any kind -/
/-- a value of any kind: it can be shown, a tuple is short -/
def Odd (j : Nat) (μ : Sto) (d : D) : Prop := ∃ (b : Bool) (p : PyData), VA j μ b d p ∧ Sz 4 200 p ∧ ∀ xs, d = .tup xs → xs.length ≤ 3
theorem Odd.grow {j : Nat} {μ μ' : Sto} {d : D} (g : Grow j μ μ') (h : Odd j μ d) : Odd j μ' d := by
  obtain ⟨b, p, h1, h2⟩ := h
  exact ⟨b, p, h1.grow g, h2⟩
theorem odd_at {j : Nat} {μ : Sto} {d : D} {b : Bool} {p : PyData} (h : VA j μ b d p) (s : szB 4 200 p = true) (n : ∀ xs, d = .tup xs → xs.length ≤ 3) : Odd j μ d := ⟨b, p, h, sz_of s, n⟩
theorem short_tup {ys : List D} (h : ys.length ≤ 3) : ∀ xs, D.tup ys = .tup xs → xs.length ≤ 3 := fun xs e => by
  cases e
  exact h
theorem all_cons {Q : D → Prop} {d : D} {r : List D} (h : Q d) (t : ∀ x, x ∈ r → Q x) : ∀ x, x ∈ d :: r → Q x := fun x hx => by
  rcases List.mem_cons.mp hx with z | z
  · rw [z]
    exact h
  · exact t x z
theorem all_nil {Q : D → Prop} : ∀ x, x ∈ ([] : List D) → Q x := fun _ h => by cases h
theorem all_app {Q : D → Prop} {l r : List D} (h : ∀ x, x ∈ l → Q x) (t : ∀ x, x ∈ r → Q x) : ∀ x, x ∈ l ++ r → Q x := fun x hx => by
  rcases List.mem_append.mp hx with z | z
  · exact h x z
  · exact t x z
theorem wseq_in {a b : WS} {R : XD} {E : EndsD} {δ : En} {μ : Sto} (h : a R { E with nx := fun δ' μ' => b R E δ' μ' } δ μ) : wSeq a b R E δ μ := h
theorem odd_1 {rst : WS} {j : Nat} {R : XD} {E : EndsD} {μ : Sto} {x1 : Option D} (k : ∀ i L μ', Ext μ μ' → lstAt μ' i = some L → L.length = 18 → (∀ d, d ∈ L → Odd j μ' d) → rst R E [some (.ref j), some (.ref i)] μ') : wSeq (wAsg (wLst (wCons (wC .non) (wCons (wC (.bl true)) (wCons (wC (.bl false)) (wCons (wC (.int 0)) (wCons (wC (.int 1)) (wCons (wNeg (wC (.int 1))) (wCons (wC (.int 2)) (wCons (wC (.int 60)) (wCons (wC (.int 61)) (wCons (wC (.int 1000)) (wCons (wC (.int 1001)) (wCons (wOp wAdd (wOp wPow (wC (.int 10)) (wC (.int 30))) (wC (.int 1))) (wCons (wC (.str "")) (wCons (wC (.str "a")) (wCons (wC (.str "2 of 2")) (wCons (wC (.str "all")) (wCons (wTup wNil) (wCons (wTup (wCons (wC (.int 1)) wNil)) wNil))))))))))))))))))) (wgName 1)) rst R E [some (.ref j), x1] μ := by
  refine wseq_in ?_
  walk_at "hd"
  refine ⟨cpow10 (by decide), by decide, by decide, by decide, ?_⟩
  rw [show (10 : Int) ^ Int.toNat 30 + 1 = 1000000000000000000000000000001 from by decide +kernel]
  refine k _ _ _ (Ext.app _ _) (lst_new _ _) rfl ?_
  repeat (first | exact all_nil | refine all_cons (by (first | exact odd_at (b := true) .non (by decide +kernel) (fun _ z => by cases z) | exact odd_at (b := true) (.bl _) (by decide +kernel) (fun _ z => by cases z) | exact odd_at (b := true) (.int _) (by decide +kernel) (fun _ z => by cases z) | exact odd_at (b := true) (.str _) (by decide +kernel) (fun _ z => by cases z) | exact odd_at (b := true) (.tup .nil) (by decide +kernel) (short_tup (by decide)) | exact odd_at (b := true) (.tup (.cons (.int _) .nil)) (by decide +kernel) (short_tup (by decide)) | exact odd_at (b := true) (.tup (.cons (.int _) (.cons (.int _) .nil))) (by decide +kernel) (short_tup (by decide)) | exact odd_at (b := true) (.tup (.cons (.bl _) (.cons (.int _) .nil))) (by decide +kernel) (short_tup (by decide)) | exact odd_at (b := true) (.tup (.cons (.int _) (.cons (.bl _) .nil))) (by decide +kernel) (short_tup (by decide)) | exact odd_at (b := true) (.tup (.cons .non (.cons .non .nil))) (by decide +kernel) (short_tup (by decide)) | exact odd_at (b := true) (.tup (.cons (.tup .nil) .nil)) (by decide +kernel) (short_tup (by decide)) | exact odd_at (b := true) (.tup (.cons (.tup (.cons (.int _) (.cons (.int _) .nil))) (.cons (.int _) .nil))) (by decide +kernel) (short_tup (by decide)) | exact odd_at (b := true) (.tup (.cons (.int _) (.cons (.tup .nil) (.cons (.bl _) .nil)))) (by decide +kernel) (short_tup (by decide)) | exact odd_at (b := true) (.tup (.cons (.tup (.cons (.int _) (.cons (.bl _) .nil))) .nil)) (by decide +kernel) (short_tup (by decide)))) ?_)
theorem odd_els {j : Nat} {ν : Sto} {r1 r2 r3 r4 r5 : Nat} (n1 : r1 ≠ j) (n2 : r2 ≠ j) (n3 : r3 ≠ j) (n4 : r4 ≠ j) (n5 : r5 ≠ j) (c1 : lstAt ν r1 = some []) (c2 : lstAt ν r2 = some [.int 1]) (c3 : cell ν r3 = some (.dct [])) (c4 : cell ν r4 = some (.dct [(.inr "a", .int 1)])) (c5 : lstAt ν r5 = some []) :
    ∀ x, x ∈ [D.tup [.int 1, .int 2], .tup [.int 2, .int 4], .tup [.int 0, .int 1], .tup [.int 1, .int 0], .tup [.int (-1), .int 2], .ref r1, .ref r2, .ref r3, .ref r4, .tup [.tup []], .tup [.ref r5], .tup [.bl true, .int 1], .tup [.int 2, .bl true]] → Odd j ν x := by
  have q1 : Odd j ν (.ref r1) := odd_at (.lst n1 c1 .nil) (by decide +kernel) (fun _ z => by cases z)
  have q2 : Odd j ν (.ref r2) := odd_at (.lst n2 c2 (.cons (.int _) .nil)) (by decide +kernel) (fun _ z => by cases z)
  have q3 : Odd j ν (.ref r3) := odd_at (.d0 n3 c3) (by decide +kernel) (fun _ z => by cases z)
  have q4 : Odd j ν (.ref r4) := odd_at (.d1 n4 c4) (by decide +kernel) (fun _ z => by cases z)
  have q5 : Odd j ν (.tup [.ref r5]) := odd_at (.tup (.cons (.lst n5 c5 .nil) .nil)) (by decide +kernel) (short_tup (by simp))
  repeat (first | exact all_nil | refine all_cons (by first | assumption | (first | exact odd_at (b := true) .non (by decide +kernel) (fun _ z => by cases z) | exact odd_at (b := true) (.bl _) (by decide +kernel) (fun _ z => by cases z) | exact odd_at (b := true) (.int _) (by decide +kernel) (fun _ z => by cases z) | exact odd_at (b := true) (.str _) (by decide +kernel) (fun _ z => by cases z) | exact odd_at (b := true) (.tup .nil) (by decide +kernel) (short_tup (by decide)) | exact odd_at (b := true) (.tup (.cons (.int _) .nil)) (by decide +kernel) (short_tup (by decide)) | exact odd_at (b := true) (.tup (.cons (.int _) (.cons (.int _) .nil))) (by decide +kernel) (short_tup (by decide)) | exact odd_at (b := true) (.tup (.cons (.bl _) (.cons (.int _) .nil))) (by decide +kernel) (short_tup (by decide)) | exact odd_at (b := true) (.tup (.cons (.int _) (.cons (.bl _) .nil))) (by decide +kernel) (short_tup (by decide)) | exact odd_at (b := true) (.tup (.cons .non (.cons .non .nil))) (by decide +kernel) (short_tup (by decide)) | exact odd_at (b := true) (.tup (.cons (.tup .nil) .nil)) (by decide +kernel) (short_tup (by decide)) | exact odd_at (b := true) (.tup (.cons (.tup (.cons (.int _) (.cons (.int _) .nil))) (.cons (.int _) .nil))) (by decide +kernel) (short_tup (by decide)) | exact odd_at (b := true) (.tup (.cons (.int _) (.cons (.tup .nil) (.cons (.bl _) .nil)))) (by decide +kernel) (short_tup (by decide)) | exact odd_at (b := true) (.tup (.cons (.tup (.cons (.int _) (.cons (.bl _) .nil))) .nil)) (by decide +kernel) (short_tup (by decide)))) ?_)
theorem odd_2 {rst : WS} {j i : Nat} {L : List D} {R : XD} {E : EndsD} {μ : Sto} (hj : j < μ.length) (hi : lstAt μ i = some L) (hl : L.length = 18) (hL : ∀ d, d ∈ L → Odd j μ d) (k : ∀ i L μ', Ext μ μ' → lstAt μ' i = some L → L.length = 31 → (∀ d, d ∈ L → Odd j μ' d) → rst R E [some (.ref j), some (.ref i)] μ') : wSeq (wAsg (wOp wAdd (wVar 1) (wLst (wCons (wTup (wCons (wC (.int 1)) (wCons (wC (.int 2)) wNil))) (wCons (wTup (wCons (wC (.int 2)) (wCons (wC (.int 4)) wNil))) (wCons (wTup (wCons (wC (.int 0)) (wCons (wC (.int 1)) wNil))) (wCons (wTup (wCons (wC (.int 1)) (wCons (wC (.int 0)) wNil))) (wCons (wTup (wCons (wNeg (wC (.int 1))) (wCons (wC (.int 2)) wNil))) (wCons (wLst wNil) (wCons (wLst (wCons (wC (.int 1)) wNil)) (wCons wDNew (wCons (wDOne "a" 1) (wCons (wTup (wCons (wTup wNil) wNil)) (wCons (wTup (wCons (wLst wNil) wNil)) (wCons (wTup (wCons (wC (.bl true)) (wCons (wC (.int 1)) wNil))) (wCons (wTup (wCons (wC (.int 2)) (wCons (wC (.bl true)) wNil))) wNil))))))))))))))) (wgName 1)) rst R E [some (.ref j), some (.ref i)] μ := by
  refine wseq_in ?_
  walk_at "hd"
  unfold wDNew wDOne
  refine ⟨by decide, by decide, by decide, by decide, by decide, by decide, by decide, by decide, by decide, by decide, by decide, by decide, by decide, ?_⟩
  have up : ∀ {ν : Sto} {o u : O} {i : Nat}, cell ν i = some o → cell (ν ++ [u]) i = some o := fun h => (Ext.app _ _).2 _ _ h
  have nj : ∀ {ν : Sto} {i : Nat}, j < i → i ≠ j := fun h => by omega
  have e1 : Ext μ (μ ++ [O.lst []] ++ [O.lst [D.int 1]] ++ [O.dct []] ++ [O.dct [(Sum.inr (Str.ofString "a"), D.int 1)]] ++ [O.lst []]) := (((((Ext.app _ _).trans (Ext.app _ _)).trans (Ext.app _ _)).trans (Ext.app _ _)).trans (Ext.app _ _))
  have e2 := fun u v => (e1.trans (Ext.app _ [u])).trans (Ext.app (_ ++ [u]) [v])
  refine ⟨by decide, L, _, (e1.trans (Ext.app _ _)).lst hi, lst_new _ _, by rw [hl]; simp, ?_⟩
  refine k _ _ _ (e2 _ _) (lst_new _ _) (by rw [List.length_append, hl]; rfl) (all_app (fun d hd => Odd.grow ((Grow.refl j μ).ext (e2 _ _)) (hL d hd)) fun x hx => ?_)
  refine Odd.grow ((Grow.refl j _).ext ((Ext.app _ _).trans (Ext.app _ _))) (odd_els (ν := μ ++ [O.lst []] ++ [O.lst [D.int 1]] ++ [O.dct []] ++ [O.dct [(Sum.inr (Str.ofString "a"), D.int 1)]] ++ [O.lst []]) ?_ ?_ ?_ ?_ ?_ (lstAt_of (up (up (up (up (cell_new μ (O.lst []) [])))))) (lstAt_of (up (up (up (cell_new _ (O.lst [D.int 1]) []))))) (up (up (cell_new _ (O.dct []) []))) (up (cell_new _ (O.dct [(Sum.inr (Str.ofString "a"), D.int 1)]) [])) (lst_new _ _) x hx)
  all_goals
    try simp only [List.length_append, List.length_singleton]
    omega
theorem odd_3 {j i : Nat} {B : Int} {L : List D} {R : XD} {E : EndsD} {μ : Sto} (hj : Jar μ j B) (hB : B ≤ 900000) (hi : lstAt μ i = some L) (hl : L.length = 31) (hL : ∀ d, d ∈ L → Odd j μ d) (k : ∀ d μ', Odd j μ' d → Grow j μ μ' → Jar μ' j (B + 1) → E.rt d μ') : (wRet (wCall sp_l_of (wCons (wVar 0) (wCons (wOp wAdd (wVar 1) (wLst (wCons (wTup (wCons (wTup (wCons (wC (.int 2)) (wCons (wC (.int 1)) wNil))) (wCons (wC (.int 2)) wNil))) (wCons (wTup (wCons (wC (.int 1)) (wCons (wTup wNil) (wCons (wC (.bl false)) wNil)))) (wCons (wTup (wCons (wTup (wCons (wC (.int 4)) (wCons (wC (.bl true)) wNil))) wNil)) (wCons (wTup (wCons (wC .non) (wCons (wC .non) wNil))) wNil)))))) wNil)))) R E [some (.ref j), some (.ref i)] μ := by
  walk_at "hd"
  refine ⟨by decide, by decide, by decide, by decide, by decide, by decide, by decide, by decide, L, _, (Ext.app _ _).lst hi, lst_new _ _, by rw [hl]; decide, ?_⟩
  have e2 := (Ext.app μ [O.lst [D.tup [D.tup [.int 2, .int 1], .int 2], .tup [.int 1, .tup [], .bl false], .tup [.tup [.int 4, .bl true]], .tup [.non, .non]]]).trans (Ext.app _ [O.lst (L ++ [D.tup [D.tup [.int 2, .int 1], .int 2], .tup [.int 1, .tup [], .bl false], .tup [.tup [.int 4, .bl true]], .tup [.non, .non]])])
  refine ⟨j, _, _, _, rfl, hj.ext e2, by omega, lst_new _ _, ?_, ?_, ?_, fun d μ3 hd g3 j3 => ?_⟩
  · rw [List.length_append]
    have := hj.lt
    omega
  · simp
  · rw [List.length_append, hl]
    decide
  · refine k d μ3 ?_ (e2.grow g3) (j3.mono (by omega))
    refine Odd.grow g3 ?_
    rcases List.mem_append.mp hd with z | z
    · exact Odd.grow ((Grow.refl j μ).ext e2) (hL d z)
    · revert z
      refine fun z => ?_
      refine (?_ : ∀ x, x ∈ [D.tup [D.tup [.int 2, .int 1], .int 2], .tup [.int 1, .tup [], .bl false], .tup [.tup [.int 4, .bl true]], .tup [.non, .non]] → Odd j _ x) d z
      repeat (first | exact all_nil | refine all_cons (by (first | exact odd_at (b := true) .non (by decide +kernel) (fun _ z => by cases z) | exact odd_at (b := true) (.bl _) (by decide +kernel) (fun _ z => by cases z) | exact odd_at (b := true) (.int _) (by decide +kernel) (fun _ z => by cases z) | exact odd_at (b := true) (.str _) (by decide +kernel) (fun _ z => by cases z) | exact odd_at (b := true) (.tup .nil) (by decide +kernel) (short_tup (by decide)) | exact odd_at (b := true) (.tup (.cons (.int _) .nil)) (by decide +kernel) (short_tup (by decide)) | exact odd_at (b := true) (.tup (.cons (.int _) (.cons (.int _) .nil))) (by decide +kernel) (short_tup (by decide)) | exact odd_at (b := true) (.tup (.cons (.bl _) (.cons (.int _) .nil))) (by decide +kernel) (short_tup (by decide)) | exact odd_at (b := true) (.tup (.cons (.int _) (.cons (.bl _) .nil))) (by decide +kernel) (short_tup (by decide)) | exact odd_at (b := true) (.tup (.cons .non (.cons .non .nil))) (by decide +kernel) (short_tup (by decide)) | exact odd_at (b := true) (.tup (.cons (.tup .nil) .nil)) (by decide +kernel) (short_tup (by decide)) | exact odd_at (b := true) (.tup (.cons (.tup (.cons (.int _) (.cons (.int _) .nil))) (.cons (.int _) .nil))) (by decide +kernel) (short_tup (by decide)) | exact odd_at (b := true) (.tup (.cons (.int _) (.cons (.tup .nil) (.cons (.bl _) .nil)))) (by decide +kernel) (short_tup (by decide)) | exact odd_at (b := true) (.tup (.cons (.tup (.cons (.int _) (.cons (.bl _) .nil))) .nil)) (by decide +kernel) (short_tup (by decide)))) ?_)
def sp_l_odd : SpD := fun ds μ P _ => ∃ (j : Nat) (B : Int), ds = [.ref j] ∧ Jar μ j B ∧ B ≤ 900000 ∧ ∀ (d : D) μ', Odd j μ' d → Grow j μ μ' → Jar μ' j (B + 1) → P d μ'
theorem len_l_odd : ∀ ds μ Pd R, sp_l_odd ds μ Pd R → ds.length = 1 := fun ds μ Pd R ⟨i, _, e, _⟩ => by rw [e] <;> rfl
def W_l_odd : WS :=
  (wSeq (wAsg (wLst (wCons (wC .non) (wCons (wC (.bl true)) (wCons (wC (.bl false)) (wCons (wC (.int 0)) (wCons (wC (.int 1)) (wCons (wNeg (wC (.int 1))) (wCons (wC (.int 2)) (wCons (wC (.int 60)) (wCons (wC (.int 61)) (wCons (wC (.int 1000)) (wCons (wC (.int 1001)) (wCons (wOp wAdd (wOp wPow (wC (.int 10)) (wC (.int 30))) (wC (.int 1))) (wCons (wC (.str "")) (wCons (wC (.str "a")) (wCons (wC (.str "2 of 2")) (wCons (wC (.str "all")) (wCons (wTup wNil) (wCons (wTup (wCons (wC (.int 1)) wNil)) wNil))))))))))))))))))) (wgName 1))
  (wSeq (wAsg (wOp wAdd (wVar 1) (wLst (wCons (wTup (wCons (wC (.int 1)) (wCons (wC (.int 2)) wNil))) (wCons (wTup (wCons (wC (.int 2)) (wCons (wC (.int 4)) wNil))) (wCons (wTup (wCons (wC (.int 0)) (wCons (wC (.int 1)) wNil))) (wCons (wTup (wCons (wC (.int 1)) (wCons (wC (.int 0)) wNil))) (wCons (wTup (wCons (wNeg (wC (.int 1))) (wCons (wC (.int 2)) wNil))) (wCons (wLst wNil) (wCons (wLst (wCons (wC (.int 1)) wNil)) (wCons wDNew (wCons (wDOne "a" 1) (wCons (wTup (wCons (wTup wNil) wNil)) (wCons (wTup (wCons (wLst wNil) wNil)) (wCons (wTup (wCons (wC (.bl true)) (wCons (wC (.int 1)) wNil))) (wCons (wTup (wCons (wC (.int 2)) (wCons (wC (.bl true)) wNil))) wNil))))))))))))))) (wgName 1))
  (wRet (wCall sp_l_of (wCons (wVar 0) (wCons (wOp wAdd (wVar 1) (wLst (wCons (wTup (wCons (wTup (wCons (wC (.int 2)) (wCons (wC (.int 1)) wNil))) (wCons (wC (.int 2)) wNil))) (wCons (wTup (wCons (wC (.int 1)) (wCons (wTup wNil) (wCons (wC (.bl false)) wNil)))) (wCons (wTup (wCons (wTup (wCons (wC (.int 4)) (wCons (wC (.bl true)) wNil))) wNil)) (wCons (wTup (wCons (wC .non) (wCons (wC .non) wNil))) wNil)))))) wNil))))))
theorem vc_l_odd : ∀ ds μ Pd R, sp_l_odd ds μ Pd R → W_l_odd (fun _ C fs μ' => R C fs μ') { nx := fun _ μ' => Pd .non μ', rt := Pd } (startD 2 ds) μ := by
  intro ds μ Pd R h
  obtain ⟨j, B, rfl, hj, hB, k⟩ := h
  unfold W_l_odd
  rw [show startD 2 [D.ref j] = [some (D.ref j), none] from rfl]
  refine odd_1 fun i1 L1 μ1 e1 h1 l1 o1 => ?_
  refine odd_2 (hj.ext e1).lt h1 l1 o1 fun i2 L2 μ2 e2 h2 l2 o2 => ?_
  refine odd_3 ((hj.ext e1).ext e2) hB h2 l2 o2 fun d μ3 o g j3 => ?_
  exact k d μ3 o ((e1.trans e2).grow g) j3

/-! drawn exponents -/
def sp_l_exps : SpD := fun ds μ P _ => ∃ (j : Nat) (w B : Int), ds = [.ref j, .int w] ∧ Jar μ j B ∧ B ≤ 900000 ∧ 0 ≤ w ∧ w ≤ 6 ∧ ∀ (es : List Int) (i : Nat) μ', es.length = 4 → (∀ e, e ∈ es → e.natAbs ≤ 6) → μ.length ≤ i → lstAt μ' i = some (es.map .int) → Grow j μ μ' → Jar μ' j (B + 4) → P (.ref i) μ'
theorem len_l_exps : ∀ ds μ Pd R, sp_l_exps ds μ Pd R → ds.length = 2 := fun ds μ Pd R ⟨i, l, m, e, _⟩ => by rw [e] <;> rfl
def W_l_exps : WS :=
  (wRet (wLcR 2 (wCons (wC (.int 4)) wNil) wYes (wCall sp_l_of (wCons (wVar 0) (wCons (wLst (wCons (wC (.int 0)) (wCons (wC (.int 0)) (wCons (wC (.int 1)) (wCons (wC (.int 1)) (wCons (wNeg (wC (.int 1))) (wCons (wC (.int 2)) (wCons (wVar 1) (wCons (wNeg (wVar 1)) wNil))))))))) wNil)))))
theorem vc_l_exps : ∀ ds μ Pd R, sp_l_exps ds μ Pd R → W_l_exps (fun _ C fs μ' => R C fs μ') { nx := fun _ μ' => Pd .non μ', rt := Pd } (startD 3 ds) μ := by
  intro ds μ Pd R h
  obtain ⟨j, w, B, rfl, hj, hB, w0, w6, k⟩ := h
  unfold W_l_exps
  walk_at "hd"
  refine ⟨r62 (by decide), ?_⟩
  unfold lcAll
  have hjl := hj.lt
  refine ⟨fun m acc μ' => ∃ es : List Int, acc = es.map .int ∧ es.length = m ∧ (∀ e, e ∈ es → e.natAbs ≤ 6) ∧ Grow j μ μ' ∧ Jar μ' j (B + (m : Int)), ⟨[], rfl, rfl, (fun e he => by cases he), Grow.app (Grow.refl j μ) _, (hj.app _).mono (by omega)⟩, ?_, ?_⟩
  · rintro m acc μ' hm hacc ⟨es, rfl, hl, hs, g, jr⟩
    have hm' : m < 4 := hm
    refine ⟨trivial, ?_⟩
    unfold lcTurn
    walk_at "hd"
    have len1 : μ.length < μ'.length := cell_lt hacc
    refine ⟨by decide, j, μ'.length, B + (m : Int), _, rfl, jr.app _, by omega, lst_new _ _, Nat.ne_of_gt jr.lt, by simp, by simp, fun d μ2 hd g2 j2 => ?_⟩
    obtain ⟨e, rfl, he⟩ : ∃ e : Int, d = .int e ∧ e.natAbs ≤ 6 := by
      simp only [List.mem_cons, List.not_mem_nil, or_false] at hd
      rcases hd with z | z | z | z | z | z | z | z <;> exact ⟨_, z, by omega⟩
    have d1 := g2.2 _ _ (by omega : μ.length ≠ j) (cell_app _ hacc)
    refine ⟨⟨d1, by rw [List.length_map]; omega⟩, es ++ [e], by rw [List.map_append] <;> rfl, by rw [List.length_append, hl] <;> rfl, fun x hx => ?_, ?_, ?_⟩
    · rcases List.mem_append.mp hx with z | z
      · exact hs x z
      · rw [List.mem_singleton.mp z]; exact he
    · exact ((g.app _).trans g2).set (Nat.le_refl _) _
    · have j3 : Jar μ2 j (B + ((m + 1 : Nat) : Int)) := j2.mono (by omega)
      exact j3.set (by omega) _
  · rintro acc μ' hacc ⟨es, rfl, hl, hs, g, jr⟩
    exact ⟨trivial, k es μ.length μ' hl hs (Nat.le_refl _) (lstAt_of hacc) g jr⟩

/-! a drawn root -/
def sp_l_some_root : SpD := fun ds μ P _ => ∃ (j : Nat) (B : Int), ds = [.ref j] ∧ Jar μ j B ∧ B ≤ 800000 ∧ ∀ (r : Nat) (es : List Int) (d : Nat) μ', Rooted μ' μ.length 6 r es d → Grow j μ μ' → Jar μ' j (B + 6) → P (.ref r) μ'
theorem len_l_some_root : ∀ ds μ Pd R, sp_l_some_root ds μ Pd R → ds.length = 1 := fun ds μ Pd R ⟨i, l, e, _⟩ => by rw [e] <;> rfl
def W_l_some_root : WS :=
  (wRet (wLst (wCons (wCall sp_l_exps (wCons (wVar 0) (wCons (wCall sp_l_of (wCons (wVar 0) (wCons (wLst (wCons (wC (.int 2)) (wCons (wC (.int 3)) (wCons (wC (.int 4)) (wCons (wC (.int 6)) wNil))))) wNil))) wNil))) (wCons (wCall sp_l_of (wCons (wVar 0) (wCons (wLst (wCons (wC (.int 1)) (wCons (wC (.int 2)) (wCons (wC (.int 2)) (wCons (wC (.int 3)) (wCons (wC (.int 3)) (wCons (wC (.int 4)) (wCons (wC (.int 6)) (wCons (wC (.int 12)) (wCons (wC (.int 5)) (wCons (wC (.int 60)) wNil))))))))))) wNil))) wNil))))
theorem vc_l_some_root : ∀ ds μ Pd R, sp_l_some_root ds μ Pd R → W_l_some_root (fun _ C fs μ' => R C fs μ') { nx := fun _ μ' => Pd .non μ', rt := Pd } (startD 1 ds) μ := by
  intro ds μ Pd R h
  obtain ⟨j, B, rfl, hj, hB, k⟩ := h
  unfold W_l_some_root
  walk_at "hd"
  refine ⟨by decide, j, μ.length, B, _, rfl, hj.app _, by omega, lst_new _ _, Nat.ne_of_gt hj.lt, by simp, by simp, fun d1 μ1 hd1 g1 j1 => ?_⟩
  obtain ⟨w, rfl, w0, w6⟩ : ∃ e : Int, d1 = .int e ∧ 0 ≤ e ∧ e ≤ 6 := by
    simp only [List.mem_cons, List.not_mem_nil, or_false] at hd1
    rcases hd1 with z | z | z | z <;> exact ⟨_, z, by omega, by omega⟩
  refine ⟨j, w, B + 1, rfl, j1, by omega, w0, w6, fun es i μ2 hl hs hi hes g2 j2 => ?_⟩
  simp only []
  refine ⟨by decide, j, μ2.length, _, _, rfl, j2.app _, by omega, lst_new _ _, Nat.ne_of_gt j2.lt, by simp, by simp, fun d3 μ3 hd3 g3 j3 => ?_⟩
  obtain ⟨d, rfl, h1, h60⟩ : ∃ e : Nat, d3 = .int (e : Int) ∧ 1 ≤ e ∧ e ≤ 60 := by
    have small : ∀ i : Int, 1 ≤ i → i ≤ 60 → ∃ n : Nat, D.int i = .int (n : Int) ∧ 1 ≤ n ∧ n ≤ 60 := fun i h1 h2 => ⟨i.toNat, by rw [Int.toNat_of_nonneg (by omega)], by omega, by omega⟩
    simp only [List.mem_cons, List.not_mem_nil, or_false] at hd3
    rcases hd3 with z | z | z | z | z | z | z | z | z | z <;> rw [z] <;> exact small _ (by omega) (by omega)
  have g23 : Grow j μ2 (μ3 ++ [.lst [.ref i, .int (d : Int)]]) := (((Grow.refl j μ2).app _).trans g3).app _
  have j4 : Jar μ3 j (B + 6) := j3.mono (by omega)
  have jl := hj.lt
  have l1 := g1.1
  have l2 := g2.1
  have l3 := g3.1
  rw [List.length_append] at l1 l3
  refine ⟨by decide, k μ3.length es d _ ⟨i, by omega, by omega, lst_new _ _, g23.lst (by omega) hes, hl, hs, h1, h60⟩ (((Grow.refl j μ).app _).trans (g1.trans (g2.trans g23))) (j4.app _)⟩

/-! the integer that figures write, 0 for none -/
def NumIs (l : List Nat) (n : Nat) : Prop := (n = 0 ∧ ∀ m : Nat, 1 ≤ m → m ≤ 1000000000000000000000000000000 → l ≠ numC m) ∨ (1 ≤ n ∧ n < 10000000000000000000000000000000 ∧ l = numC n)
theorem NumIs.val {m n : Nat} (h : NumIs (numC m) n) (h1 : 1 ≤ m) (hm : m ≤ 1000000000000000000000000000000) : n = m := by
  rcases h with ⟨_, k⟩ | ⟨_, _, hm'⟩
  · exact absurd rfl (k m h1 hm)
  · rw [← numC_val n, ← hm', numC_val]
theorem fig_in (c : Nat) : decide (c ∈ (Str.ofString "0123456789").cps.toList) = decide (48 ≤ c ∧ c ≤ 57) := by
  have e : (Str.ofString "0123456789").cps.toList = [48, 49, 50, 51, 52, 53, 54, 55, 56, 57] := by decide +kernel
  rw [e]
  refine decide_eq_decide.mpr ?_
  simp only [List.mem_cons, List.not_mem_nil, or_false]
  omega
theorem numC_below (m : Nat) : m < 10 ^ (numC m).length := by
  induction m using Nat.strongRecOn with
  | _ m ih =>
    by_cases h : m < 10
    · rw [numC_lt h]
      exact h
    · have := ih (m / 10) (by omega)
      rw [numC_ge (by omega), List.length_append]
      show m < 10 ^ ((numC (m / 10)).length + 1)
      rw [Nat.pow_succ]
      omega
def sp_l_number_in : SpD := fun ds μ P _ => ∃ x : Str, ds = [.str x] ∧ x.length ≤ 100000 ∧ ∀ (n : Nat) μ', Ext μ μ' → NumIs (tL x) n → P (.int (n : Int)) μ'
theorem len_l_number_in : ∀ ds μ Pd R, sp_l_number_in ds μ Pd R → ds.length = 1 := fun ds μ Pd R ⟨i, e, _⟩ => by rw [e] <;> rfl
def W_l_number_in : WS :=
  (wSeq (wIfS (wOr (wNot (wB (wChain wLe wLe (wC (.int 1)) (wCB wLen (wCons (wVar 0) wNil)) (wC (.int 31))))) (wOr (wNot (wTruth (wCB wAll (wCons (wLcS 1 (wVar 0) wYes (wOp wInS (wVar 1) (wC (.str "0123456789")))) wNil)))) (wB (wOp wEq (wOp wIx (wVar 0) (wC (.int 0))) (wC (.str "0")))))) (wRet (wC (.int 0))) wNext)
  (wRet (wCB wIntT (wCons (wVar 0) wNil))))
theorem vc_l_number_in : ∀ ds μ Pd R, sp_l_number_in ds μ Pd R → W_l_number_in (fun _ C fs μ' => R C fs μ') { nx := fun _ μ' => Pd .non μ', rt := Pd } (startD 2 ds) μ := by
  intro ds μ Pd R h
  obtain ⟨x, rfl, hl, kk⟩ := h
  have line : 1000000 ≤ sizeLine := by decide
  have bad : ∀ μ', Ext μ μ' → (∀ m : Nat, 1 ≤ m → m ≤ 1000000000000000000000000000000 → tL x ≠ numC m) → Pd (.int 0) μ' := fun μ' e h => kk 0 μ' e (.inl ⟨rfl, h⟩)
  unfold W_l_number_in
  walk_at "hd"
  refine ⟨by omega, ?_⟩
  cases c0 : decide ((1 : Int) ≤ (x.length : Int)) with
  | false =>
    have c0' := of_decide_eq_false c0
    simp only [Bool.not_false]
    refine bad _ (Ext.refl _) fun m _ _ z => ?_
    have := numC_ne m
    rw [← z] at this
    have l0 : (tL x).length = 0 := by rw [← tL_len]; omega
    exact this (List.eq_nil_of_length_eq_zero l0)
  | true =>
    have c0' := of_decide_eq_true c0
    simp only []
    cases c1 : decide ((x.length : Int) ≤ 31) with
    | false =>
      have c1' := of_decide_eq_false c1
      simp only [Bool.not_false]
      refine bad _ (Ext.refl _) fun m _ hm z => ?_
      have := numC_short hm
      rw [← z, ← tL_len] at this
      omega
    | true =>
      have c1' := of_decide_eq_true c1
      simp only [Bool.not_true]
      simp only [wLcS]
      walk_at "hd"
      have sz : x.cps.size = x.length := rfl
      have hne : tL x ≠ [] := fun z => by
        have : x.length = 0 := by rw [tL_len, z]; rfl
        omega
      refine lc_ext (fun _ => true) (fun j => .bl (decide (48 ≤ x.cps.getD j 0 ∧ x.cps.getD j 0 ≤ 57))) (by omega) (fun _ _ => trivial) (fun i μ' Q hi e q => q μ' (Ext.refl _)) (fun i μ' Q hi _ e q => ?_) fun μ1 e1 hl1 => ?_
      · walk_at "hd"
        simp only [wInS]
        refine ⟨x.cps.getD i 0, rfl, ?_⟩
        rw [fig_in]
        exact q μ' (Ext.refl _)
      · have lv : ((List.range x.cps.size).filter fun _ => true).map (fun j => D.bl (decide (48 ≤ x.cps.getD j 0 ∧ x.cps.getD j 0 ≤ 57))) = ((List.range x.cps.size).map fun j => decide (48 ≤ x.cps.getD j 0 ∧ x.cps.getD j 0 ≤ 57)).map D.bl := by
          rw [List.filter_eq_self.mpr fun _ _ => rfl, List.map_map]
          rfl
        rw [lv] at hl1
        simp only [wAll]
        refine ⟨_, hl1, ?_⟩
        have dg : ((List.range x.cps.size).map fun j => decide (48 ≤ x.cps.getD j 0 ∧ x.cps.getD j 0 ≤ 57)).all _root_.id = true ↔ PySem.NumText.AllDigits (tL x) := by
          rw [List.all_map, List.all_eq_true]
          constructor
          · intro h c hc
            obtain ⟨j, hj, ej⟩ := List.getElem_of_mem hc
            have hj' : j < x.cps.size := by
              rw [← Array.length_toList]
              exact hj
            have gj : x.cps.getD j 0 = c := by
              rw [Array.getD_eq_getD_getElem?, Array.getElem?_eq_getElem hj', ← ej]
              exact (Array.getElem_toList ..).symm
            have := h j (List.mem_range.mpr hj')
            have := of_decide_eq_true (show decide (48 ≤ x.cps.getD j 0 ∧ x.cps.getD j 0 ≤ 57) = true from this)
            rwa [gj] at this
          · intro h j hj
            have hlt := List.mem_range.mp hj
            refine decide_eq_true (h _ ?_)
            rw [Array.getD_eq_getD_getElem?, Array.getElem?_eq_getElem hlt]
            exact Array.mem_toList_iff.mpr (Array.getElem_mem hlt)
        generalize ((List.range x.cps.size).map fun j => decide (48 ≤ x.cps.getD j 0 ∧ x.cps.getD j 0 ≤ 57)).all _root_.id = bb at dg ⊢
        cases bb with
        | false =>
          simp only [Bool.not_false]
          refine bad _ e1 fun m _ _ z => ?_
          have := dg.mpr (by rw [z]; exact numC_digits m)
          cases this
        | true =>
          have hd := dg.mp rfl
          simp only [Bool.not_true]
          refine ⟨by omega, ?_⟩
          obtain ⟨c, r, ecr⟩ : ∃ c r, tL x = c :: r := by
            match h : tL x, hne with
            | c :: r, _ => exact ⟨c, r, rfl⟩
          have a0 : atI x.cps.toList (0 : Int) = some c := by
            have : x.cps.toList = c :: r := ecr
            rw [this, at0]
          simp only [a0]
          have zero : Str.ofString "0" = ⟨#[48]⟩ := by decide +kernel
          cases c2 : decide ((⟨#[c]⟩ : Str) = Str.ofString "0") with
          | true =>
            simp only []
            have c48 : c = 48 := by
              have := of_decide_eq_true c2
              rw [zero] at this
              have := congrArg tL this
              exact (List.cons.inj this).1
            refine bad _ e1 fun m m1 hm z => ?_
            obtain ⟨c', r', e', hc'⟩ := numC_head (m := m) (by omega)
            rw [ecr, e'] at z
            have := (List.cons.inj z).1
            omega
          | false =>
            simp only []
            have n48 : c ≠ 48 := fun z => by
              rw [z, zero] at c2
              exact absurd c2 (by decide)
            have back := numC_back hd hne fun r' z => by
              rw [ecr] at z
              exact absurd (List.cons.inj z).1 n48
            simp only [wIntT]
            refine ⟨_, PySem.intText_digits hd hne (by omega), by omega, ?_⟩
            show Pd (.int ((PySem.NumText.digitsVal (tL x) : Nat) : Int)) μ1
            generalize PySem.NumText.digitsVal (tL x) = v at back ⊢
            have v1 : 1 ≤ v := Nat.pos_of_ne_zero fun z => by
              rw [z, numC_lt (by decide), ecr] at back
              exact n48 (List.cons.inj back).1.symm
            have v31 : v < 10000000000000000000000000000000 := by
              refine Nat.lt_of_not_le fun z => ?_
              have l : (numC v).length ≤ 31 := by rw [back, ← tL_len]; omega
              have lt := numC_below v
              have q : (10 : Nat) ^ (numC v).length ≤ 10 ^ 31 := Nat.pow_le_pow_right (by decide) l
              have q2 : (10 : Nat) ^ 31 = 10000000000000000000000000000000 := by decide +kernel
              omega
            exact kk v _ e1 (.inr ⟨v1, v31, back.symm⟩)

/-! the primes of an integer, the law's own way -/
structure Tried (n : Nat) (F : List Nat) (v q : Nat) : Prop where
  q2 : 2 ≤ q
  v1 : 1 ≤ v
  mem : ∀ p, p ∈ F → IsPr p ∧ p ∣ n
  rest : ∀ p, IsPr p → (p ∣ n ↔ p ∈ F ∨ p ∣ v)
  rough : Rough q v
  few : 2 ^ F.length * v ≤ n
theorem Tried.start {n : Nat} (hn : 1 ≤ n) : Tried n [] n 2 := ⟨Nat.le_refl 2, hn, fun p h => by simp at h, fun p _ => ⟨.inr, fun h => h.resolve_left (by simp)⟩, Rough.two n, by rw [List.length_nil, Nat.pow_zero, Nat.one_mul]; exact Nat.le_refl n⟩
theorem Tried.skip {n v q : Nat} {F : List Nat} (t : Tried n F v q) (h : ¬ q ∣ v) : Tried n F v (q + 1) := { t with q2 := by have := t.q2; omega, rough := t.rough.next h }
theorem Tried.take {n v q u : Nat} {F : List Nat} (t : Tried n F v q) (e : v = q * u) : Tried n (F ++ [q]) u q := by
  have qv : q ∣ v := by rw [e]; exact Nat.dvd_mul_right q u
  have pq := t.rough.prime t.q2 qv
  have uv : u ∣ v := by rw [e]; exact Nat.dvd_mul_left u q
  refine ⟨t.q2, Nat.pos_of_ne_zero fun z => ?_, fun p hp => ?_, fun p hp => (t.rest p hp).trans ?_, t.rough.of_dvd uv, ?_⟩
  · rw [z, Nat.mul_zero] at e
    have := t.v1
    omega
  · rcases List.mem_append.mp hp with z | z
    · exact t.mem p z
    · rw [List.mem_singleton.mp z]
      exact ⟨pq, (t.rest q pq).mpr (.inr qv)⟩
  · rw [List.mem_append, List.mem_singleton]
    constructor
    · rintro (z | z)
      · exact .inl (.inl z)
      · rw [e] at z
        rcases pr_mul hp z with y | y
        · exact .inl (.inr (pr_eq hp pq y))
        · exact .inr y
    · rintro ((z | z) | z)
      · exact .inl z
      · exact .inr (z ▸ qv)
      · exact .inr (Nat.dvd_trans z uv)
  · rw [List.length_append]
    exact few_step t.few t.q2 (by omega)
theorem Tried.done {n v q : Nat} {F L : List Nat} (t : Tried n F v q) (h : v < q * q) (hL : L.Pairwise (· < ·)) (hm : ∀ p, p ∈ L ↔ p ∈ F ++ (if 1 < v then [v] else [])) : PrimesIs n L := by
  refine ⟨hL, fun p => (hm p).trans ?_⟩
  rw [List.mem_append]
  by_cases hv : 1 < v
  · rw [if_pos hv, List.mem_singleton]
    have pv := t.rough.last hv h
    constructor
    · rintro (z | z)
      · exact t.mem p z
      · rw [z]
        exact ⟨pv, (t.rest v pv).mpr (.inr (Nat.dvd_refl v))⟩
    · rintro ⟨a, b⟩
      rcases (t.rest p a).mp b with z | z
      · exact .inl z
      · exact .inr (pr_eq a pv z)
  · rw [if_neg hv]
    have e : v = 1 := by have := t.v1; omega
    constructor
    · rintro (z | z)
      · exact t.mem p z
      · simp at z
    · rintro ⟨a, b⟩
      rcases (t.rest p a).mp b with z | z
      · exact .inl z
      · rw [e] at z
        have := pr_le (by decide) z
        have := a.1
        omega
def sp_l_primes : SpD := fun ds μ P _ => ∃ n : Nat, ds = [.int (n : Int)] ∧ n < 2 ^ 60 ∧ ∀ (L : List Nat) (j : Nat) μ', (1 ≤ n → PrimesIs n L) → (n = 0 → L = []) → Ext μ μ' → lstAt μ' j = some (natD L) → μ.length ≤ j → P (.ref j) μ'
theorem len_l_primes : ∀ ds μ Pd R, sp_l_primes ds μ Pd R → ds.length = 1 := fun ds μ Pd R ⟨i, e, _⟩ => by rw [e] <;> rfl
def W_l_primes : WS :=
  (wSeq (wPar3 1 2 3 (wCons (wLst wNil) (wCons (wVar 0) (wCons (wC (.int 2)) wNil))))
  (wSeq (wWhile (wB (wOp wLe (wOp wMul (wVar 3) (wVar 3)) (wVar 2))) (wIfS (wB (wOp wEq (wOp wMod (wVar 2) (wVar 3)) (wC (.int 0)))) (wSeq (wDrop (wApp (wVar 1) (wVar 3)))
  (wAsg (wOp wDiv (wVar 2) (wVar 3)) (wgName 2))) (wAsg (wOp wAdd (wVar 3) (wC (.int 1))) (wgName 3))))
  (wRet (wSortSet (wOp wAdd (wVar 1) (wIf (wB (wOp wGt (wVar 2) (wC (.int 1)))) (wLst (wCons (wVar 2) wNil)) (wLst wNil)))))))
theorem vc_l_primes : ∀ ds μ Pd R, sp_l_primes ds μ Pd R → W_l_primes (fun _ C fs μ' => R C fs μ') { nx := fun _ μ' => Pd .non μ', rt := Pd } (startD 4 ds) μ := by
  intro ds μ Pd R h
  obtain ⟨n, rfl, hn, k⟩ := h
  unfold W_l_primes
  walk_at "hd"
  refine ⟨by decide, ?_⟩
  unfold wWhile
  by_cases hn0 : n = 0
  · subst hn0
    refine ⟨fun m δ' μ' => δ' = [some (.int ((0 : Nat) : Int)), some (.ref μ.length), some (.int ((0 : Nat) : Int)), some (.int 2)] ∧ μ' = μ ++ [.lst []], ⟨0, rfl, rfl⟩, ?_⟩
    rintro m δ' μ' ⟨rfl, rfl⟩
    walk_at "hd"
    refine ⟨mulOk (a := 2) (b := 2) (by decide) (by decide) (by decide), ?_⟩
    simp only [show decide ((2 : Int) * 2 ≤ ((0 : Nat) : Int)) = false from rfl, show decide ((1 : Int) < ((0 : Nat) : Int)) = false from rfl, wSortSet]
    walk_at "hd"
    refine ⟨by decide, _, _, (Ext.app _ _).lst (lst_new _ _), lst_new _ _, by decide, [], rfl, ?_, by decide, fun ms h1 h2 => ?_⟩
    · show lstAt _ _ = _
      rw [lst_new]
      rfl
    · have e : ms = [] := List.eq_nil_iff_forall_not_mem.mpr fun z hz => by
        have := (h2 z).mp hz
        simp at this
      subst e
      exact k [] _ _ (fun z => by omega) (fun _ => rfl) (((Ext.app _ _).trans (Ext.app _ _)).trans ((Ext.app _ _).trans (Ext.app _ _))) (lst_new _ _) (by simp)
  have hn1 : 1 ≤ n := Nat.pos_of_ne_zero hn0
  refine ⟨fun m δ' μ' => ∃ (v q : Nat) (F : List Nat), δ' = [some (.int (n : Int)), some (.ref μ.length), some (.int (v : Int)), some (.int (q : Int))] ∧ μ' = μ ++ [.lst (natD F)] ∧ m = (v - q) + v ∧ v ≤ n ∧ q ≤ n + 2 ∧ Tried n F v q, ⟨(n - 2) + n, n, 2, [], rfl, rfl, rfl, Nat.le_refl n, by omega, Tried.start hn1⟩, ?_⟩
  rintro m δ' μ' ⟨v, q, F, rfl, rfl, rfl, hvn, hqn, t⟩
  have q2 := t.q2
  have v1 := t.v1
  have fl := few_of t.few v1 hn
  have l60 : (2 : Nat) ^ 60 + 2 < 2 ^ 130 := by decide +kernel
  walk_at "hd"
  have qq : (q : Int) * (q : Int) = ((q * q : Nat) : Int) := by rw [Int.natCast_mul]
  rw [qq]
  refine ⟨mulOk (a := 130) (b := 130) (by rw [Int.natAbs_natCast]; omega) (by rw [Int.natAbs_natCast]; omega) (by decide), ?_⟩
  cases c : decide (((q * q : Nat) : Int) ≤ (v : Int)) with
  | true =>
    have c' : q * q ≤ v := by
      have := of_decide_eq_true c
      omega
    have q2v : q * 2 ≤ q * q := Nat.mul_le_mul_left q q2
    simp only []
    refine ⟨by omega, ?_⟩
    cases c2 : decide ((v : Int) % (q : Int) = 0) with
    | true =>
      obtain ⟨u, hu⟩ := dvd_int.mp (of_decide_eq_true c2)
      simp only [wApp]
      walk_at "hd"
      refine ⟨⟨_, lst_new _ _⟩, ?_⟩
      simp only [lst_new]
      have eu : (v : Int) / (q : Int) = (u : Int) := by rw [hu, Int.natCast_mul, Int.mul_ediv_cancel_left _ (by omega)]
      rw [eu]
      have u1 : 1 ≤ u := (t.take hu).v1
      have lt : u * 1 < u * q := Nat.mul_lt_mul_of_pos_left (by omega) (by omega)
      have uv : u < v := by rw [hu, Nat.mul_comm q]; omega
      refine ⟨by rw [natD_len]; omega, divOk60 (by omega) (by omega), (u - q) + u, by omega, u, q, F ++ [q], rfl, ?_, rfl, by omega, hqn, t.take hu⟩
      rw [set_last, natD_app]
    | false =>
      have dv : ¬ q ∣ v := fun z => of_decide_eq_false c2 (dvd_int.mpr z)
      simp only []
      exact ⟨(v - (q + 1)) + v, by omega, v, q + 1, F, rfl, rfl, rfl, hvn, by omega, t.skip dv⟩
  | false =>
    have c' : v < q * q := by
      have := of_decide_eq_false c
      omega
    simp only [wSortSet]
    walk_at "hd"
    have fin : ∀ (μ2 : Sto) (T : List Nat) (j : Nat), Ext μ μ2 → lstAt μ2 j = some (natD (F ++ T)) → (T = if 1 < v then [v] else []) → ∃ ns : List Int, HD.isTup (.ref j) = false ∧ itemsOf μ2 (.ref j) = some (ns.map D.int) ∧ ns.length < 64 ∧ ∀ ms : List Int, ms.Pairwise (· < ·) → (∀ k, k ∈ ms ↔ k ∈ ns) → Pd (.ref μ2.length) (μ2 ++ [.lst (ms.map D.int)]) := fun μ2 T j e2 hj hT => by
      refine ⟨(F ++ T).map Int.ofNat, rfl, ?_, ?_, fun ms h1 h2 => ?_⟩
      · show lstAt μ2 j = _
        rw [hj, natD_ints]
      · rw [List.length_map, List.length_append]
        have : T.length ≤ 1 := by
          rw [hT]
          split
          · exact Nat.le_refl 1
          · exact Nat.zero_le 1
        omega
      · obtain ⟨L, rfl, hL⟩ := ints_natsP h2
        rw [← natD_ints]
        exact k L _ _ (fun _ => t.done c' (asc_nats h1) fun p => (hL p).trans (by rw [hT])) (fun z => absurd z hn0) (e2.trans (Ext.app _ _)) (lst_new _ _) e2.1
    have natF : ∀ T : List Nat, natD (F ++ T) = natD F ++ natD T := fun T => by
      unfold natD
      rw [List.map_append]
    cases cv : decide ((1 : Int) < (v : Int)) with
    | true =>
      have cv' : 1 < v := by
        have := of_decide_eq_true cv
        omega
      simp only []
      refine ⟨by decide, _, _, (Ext.app _ _).lst (lst_new _ _), lst_new _ _, by rw [natD_len]; simp; omega, ?_⟩
      exact fin _ [v] _ (((Ext.app _ _).trans (Ext.app _ _)).trans (Ext.app _ _)) (by rw [lst_new, natF] <;> rfl) (by rw [if_pos cv'])
    | false =>
      have cv' : ¬ 1 < v := by
        have := of_decide_eq_false cv
        omega
      simp only []
      refine ⟨by decide, _, _, (Ext.app _ _).lst (lst_new _ _), lst_new _ _, by rw [natD_len]; simp; omega, ?_⟩
      exact fin _ [] _ (((Ext.app _ _).trans (Ext.app _ _)).trans (Ext.app _ _)) (by rw [lst_new, natF] <;> rfl) (by rw [if_neg cv'])

/-! a root, rounded down, the other way -/
def sp_l_floor : SpD := fun ds μ P _ => ∃ v n : Nat, ds = [.int (v : Int), .int (n : Int)] ∧ 1 ≤ n ∧ n ≤ 100 ∧ v < 2 ^ 130 ∧ ∀ r : Nat, r ^ n ≤ v → v < (r + 1) ^ n → P (.int (r : Int)) μ
theorem len_l_floor : ∀ ds μ Pd R, sp_l_floor ds μ Pd R → ds.length = 2 := fun ds μ Pd R ⟨i, l, e, _⟩ => by rw [e] <;> rfl
def T_l_floor : WS :=
  (wSeq (wWhile (wB (wOp wGt (wOp wSub (wVar 3) (wVar 2)) (wC (.int 1)))) (wSeq (wAsg (wOp wDiv (wOp wAdd (wVar 2) (wVar 3)) (wC (.int 2))) (wgName 4))
  (wIfS (wB (wOp wLe (wCall sp_l_to (wCons (wVar 4) (wCons (wVar 1) wNil))) (wVar 0))) (wAsg (wVar 4) (wgName 2)) (wAsg (wVar 4) (wgName 3)))))
  (wRet (wVar 2)))
theorem big_pow {h v n : Nat} (hn : n ≤ 100) (h1 : h ^ n ≤ v) (hv : v < 2 ^ 130) : (2 * h) ^ n < 2 ^ 7000 := by
  rw [Nat.mul_pow]
  have q1 : (2 : Nat) ^ n ≤ 2 ^ 100 := Nat.pow_le_pow_right (by decide) hn
  have q2 : 2 ^ n * h ^ n ≤ 2 ^ 100 * 2 ^ 130 := Nat.mul_le_mul q1 (by omega)
  rw [← Nat.pow_add] at q2
  have q3 : (2 : Nat) ^ (100 + 130) < 2 ^ 7000 := Nat.pow_lt_pow_right (by decide) (by decide)
  omega
theorem rest_l_floor {v n H : Nat} {x4 : Option D} {μ : Sto} {R : XD} {E : EndsD} (hn1 : 1 ≤ n) (hn : n ≤ 100) (hv : v < 2 ^ 130) (hH : v < H ^ n) (hH2 : H ^ n < 2 ^ 7000) (k : ∀ r : Nat, r ^ n ≤ v → v < (r + 1) ^ n → E.rt (.int (r : Int)) μ) :
    T_l_floor R E [some (.int (v : Int)), some (.int (n : Int)), some (.int 0), some (.int (H : Int)), x4] μ := by
  unfold T_l_floor
  walk_at "hd"
  unfold wWhile
  refine ⟨fun m δ' μ' => ∃ (lo hi : Nat) (y : Option D), δ' = [some (.int (v : Int)), some (.int (n : Int)), some (.int (lo : Int)), some (.int (hi : Int)), y] ∧ μ' = μ ∧ m = hi - lo ∧ lo ^ n ≤ v ∧ v < hi ^ n ∧ hi ^ n < 2 ^ 7000, ⟨H - 0, 0, H, x4, rfl, rfl, rfl, ?_, hH, hH2⟩, ?_⟩
  · rw [Nat.zero_pow (by omega)]
    exact Nat.zero_le _
  · rintro m δ' μ' ⟨lo, hi, y, rfl, rfl, rfl, h1, h2, h3⟩
    have lh : lo < hi := by
      refine Nat.lt_of_not_le fun z => ?_
      have := Nat.pow_le_pow_left z n
      omega
    walk_at "hd"
    cases c : decide ((1 : Int) < (hi : Int) - (lo : Int)) with
    | false =>
      have c' := of_decide_eq_false c
      simp only []
      have e : hi = lo + 1 := by omega
      subst e
      exact k lo h1 h2
    | true =>
      have c' := of_decide_eq_true c
      simp only []
      have mid : ((lo : Int) + (hi : Int)) / 2 = (((lo + hi) / 2 : Nat) : Int) := by omega
      rw [mid]
      have ml : ((lo + hi) / 2) ^ n ≤ hi ^ n := Nat.pow_le_pow_left (by omega) n
      refine ⟨⟨by decide, by decide⟩, (((lo + hi) / 2 : Nat) : Int), n, rfl, by omega, by rw [Int.natAbs_natCast]; omega, ?_⟩
      rw [← Int.natCast_pow]
      simp only []
      split
      · rename_i c2
        have c2' := of_decide_eq_true c2
        exact ⟨_, by omega, (lo + hi) / 2, hi, _, rfl, trivial, rfl, by omega, h2, h3⟩
      · rename_i c2
        have c2' := of_decide_eq_false c2
        exact ⟨_, by omega, lo, (lo + hi) / 2, _, rfl, trivial, rfl, h1, by omega, by omega⟩
def W_l_floor : WS :=
  (wSeq (wAsg (wTup (wCons (wC (.int 0)) (wCons (wC (.int 1)) wNil))) (wgTup 2 (wgCons (wgName 2) (wgCons (wgName 3) wgEnd))))
  (wSeq (wWhile (wB (wOp wLe (wCall sp_l_to (wCons (wVar 3) (wCons (wVar 1) wNil))) (wVar 0))) (wAsg (wOp wMul (wC (.int 2)) (wVar 3)) (wgName 3)))
  (wSeq (wWhile (wB (wOp wGt (wOp wSub (wVar 3) (wVar 2)) (wC (.int 1)))) (wSeq (wAsg (wOp wDiv (wOp wAdd (wVar 2) (wVar 3)) (wC (.int 2))) (wgName 4))
  (wIfS (wB (wOp wLe (wCall sp_l_to (wCons (wVar 4) (wCons (wVar 1) wNil))) (wVar 0))) (wAsg (wVar 4) (wgName 2)) (wAsg (wVar 4) (wgName 3)))))
  (wRet (wVar 2)))))
theorem vc_l_floor : ∀ ds μ Pd R, sp_l_floor ds μ Pd R → W_l_floor (fun _ C fs μ' => R C fs μ') { nx := fun _ μ' => Pd .non μ', rt := Pd } (startD 5 ds) μ := by
  intro ds μ Pd R h
  obtain ⟨v, n, rfl, hn1, hn, hv, k⟩ := h
  have e : W_l_floor = wSeq _ (wSeq _ T_l_floor) := rfl
  rw [e]
  walk_at "hd"
  refine ⟨by decide, ?_⟩
  unfold wWhile
  refine ⟨fun m δ' μ' => ∃ h : Nat, δ' = [some (.int (v : Int)), some (.int (n : Int)), some (.int 0), some (.int (h : Int)), none] ∧ μ' = μ ∧ m = 2 * v + 1 - h ∧ 1 ≤ h ∧ h ^ n < 2 ^ 7000, ⟨2 * v + 1 - 1, 1, rfl, rfl, rfl, Nat.le_refl 1, by rw [Nat.one_pow]; exact Nat.one_lt_two_pow (by decide)⟩, ?_⟩
  rintro m δ' μ' ⟨h, rfl, rfl, rfl, h1, h2⟩
  walk_at "hd"
  refine ⟨(h : Int), n, rfl, by omega, by rw [Int.natAbs_natCast]; exact h2, ?_⟩
  rw [← Int.natCast_pow]
  simp only []
  cases c : decide (((h ^ n : Nat) : Int) ≤ (v : Int)) with
  | true =>
    have c' : h ^ n ≤ v := by
      have := of_decide_eq_true c
      omega
    simp only []
    have hl : h ≤ h ^ n := pow_ge hn1
    have l130 : (2 : Nat) ^ 130 < 2 ^ 131 := by decide +kernel
    refine ⟨mulOk (a := 2) (b := 131) (by decide) (by rw [Int.natAbs_natCast]; omega) (by decide), _, by omega, 2 * h, by rw [Int.natCast_mul] <;> rfl, trivial, rfl, by omega, big_pow hn c' hv⟩
  | false =>
    have c' : v < h ^ n := by
      have := of_decide_eq_false c
      omega
    exact rest_l_floor hn1 hn hv c' h2 k

/-! whether there is a root -/
def sp_l_is_power : SpD := fun ds μ P _ => ∃ v n : Nat, ds = [.int (v : Int), .int (n : Int)] ∧ 1 ≤ n ∧ n ≤ 100 ∧ v < 2 ^ 130 ∧ ∀ b : Bool, SaysB b (∃ r, r ^ n = v) → P (.bl b) μ
theorem len_l_is_power : ∀ ds μ Pd R, sp_l_is_power ds μ Pd R → ds.length = 2 := fun ds μ Pd R ⟨i, l, e, _⟩ => by rw [e] <;> rfl
def W_l_is_power : WS :=
  (wRet (wOp wEq (wCall sp_l_to (wCons (wCall sp_l_floor (wCons (wVar 0) (wCons (wVar 1) wNil))) (wCons (wVar 1) wNil))) (wVar 0)))
theorem vc_l_is_power : ∀ ds μ Pd R, sp_l_is_power ds μ Pd R → W_l_is_power (fun _ C fs μ' => R C fs μ') { nx := fun _ μ' => Pd .non μ', rt := Pd } (startD 2 ds) μ := by
  intro ds μ Pd R h
  obtain ⟨v, n, rfl, hn1, hn, hv, k⟩ := h
  unfold W_l_is_power
  walk_at "hd"
  refine ⟨v, n, rfl, hn1, hn, hv, fun r h1 h2 => ?_⟩
  have l : (2 : Nat) ^ 130 < 2 ^ 7000 := Nat.pow_lt_pow_right (by decide) (by decide)
  refine ⟨(r : Int), n, rfl, by omega, by rw [Int.natAbs_natCast]; omega, ?_⟩
  rw [← Int.natCast_pow]
  refine k _ ?_
  unfold SaysB
  rw [decide_eq_true_iff]
  constructor
  · intro z
    exact ⟨r, by omega⟩
  · rintro ⟨s, hs⟩
    have a : s ≤ r := Nat.le_of_lt_succ (Nat.lt_of_not_le fun z => by
      have := Nat.pow_le_pow_left (show r + 1 ≤ s from z) n
      omega)
    have b : r ≤ s := Nat.le_of_not_lt fun z => by
      have := Nat.pow_lt_pow_left z (by omega : n ≠ 0)
      omega
    have e : r = s := by omega
    rw [e, hs]

/-! whether a text is that of a root -/
def IsRT (p : Str) : Prop := ∃ n a b, LeastForm n a b ∧ p = textR n a b
theorem space_is : Str.ofString " " = ⟨#[32]⟩ := by decide +kernel
theorem of_only : tL (Str.ofString "of") = [111, 102] := by decide +kernel
theorem num_free (n : Nat) {c : Nat} (h : ¬ (48 ≤ c ∧ c ≤ 57)) : c ∉ numC n := fun z => h (numC_digits n c z)
theorem textN_free (a b : Nat) : 32 ∉ textN (a : Int) (b : Int) := fun z => by
  unfold textN at z
  have s0 : signC (a : Int) = [] := if_neg (by omega)
  rw [s0, List.nil_append] at z
  rcases List.mem_append.mp z with h | h
  · exact num_free _ (by omega) h
  · split at h
    · cases h
    · rcases List.mem_cons.mp h with q | q
      · cases q
      · exact num_free _ (by omega) q
/-- three words -/
theorem join3 {x y z : Str} : tL (Str.join ⟨#[32]⟩ [x, y, z]) = tL x ++ 32 :: (tL y ++ 32 :: tL z) := by
  show tL (x ++ ⟨#[32]⟩ ++ (y ++ ⟨#[32]⟩ ++ z)) = _
  simp only [tL_app]
  show tL x ++ [32] ++ (tL y ++ [32] ++ tL z) = _
  simp
/-- the words of the text of a root -/
theorem words_of {p w0 w1 w2 : Str} (h : Txt.split p ⟨#[32]⟩ = [w0, w1, w2]) {n a b : Nat} (e : p = textR n a b) : tL w0 = numC n ∧ w1 = Str.ofString "of" ∧ tL w2 = textN (a : Int) (b : Int) := by
  have j := StrLaws.join_split p ⟨#[32]⟩
  have f := StrLaws.split_free p 32
  rw [h] at j f
  have t : tL w0 ++ 32 :: (tL w1 ++ 32 :: tL w2) = numC n ++ 32 :: ([111, 102] ++ 32 :: textN (a : Int) (b : Int)) := by
    rw [← join3, j, e, textR_list, of_is]
    simp
  obtain ⟨e1, e2⟩ := list_uniq (f w0 (by simp)) (num_free n (by omega)) t
  obtain ⟨e3, e4⟩ := list_uniq (f w1 (by simp)) (by decide) e2
  exact ⟨e1, tL_inj (by rw [of_only]; exact e3), e4⟩
theorem words_three {p : Str} {n a b : Nat} (e : p = textR n a b) : (Txt.split p ⟨#[32]⟩).length = 3 := by
  have l := split_len p 32
  have c : cnt 32 p.cps.toList = 2 := by
    show cnt 32 (tL p) = 2
    rw [e, textR_list, of_is, cnt_two, cnt_two, cnt_none 32 _ (num_free n (by omega)), cnt_none 32 _ (textN_free a b)]
    rfl
  omega
theorem words_back {p w0 w1 w2 : Str} (h : Txt.split p ⟨#[32]⟩ = [w0, w1, w2]) {n a b : Nat} (e0 : tL w0 = numC n) (e1 : w1 = Str.ofString "of") (e2 : tL w2 = textN (a : Int) (b : Int)) : p = textR n a b := by
  have j := StrLaws.join_split p ⟨#[32]⟩
  rw [h] at j
  refine tL_inj ?_
  rw [← j, join3, e0, e1, e2, of_only, textR_list, of_is]
  simp
/-- what stands in a fraction -/
theorem halves_of {w : Str} {a b : Nat} (e : tL w = textN (a : Int) (b : Int)) : (b = 1 ∧ Txt.split w ⟨#[47]⟩ = [w] ∧ tL w = numC a) ∨ (b ≠ 1 ∧ Txt.split w ⟨#[47]⟩ = [ofC (numC a), ofC (numC b)]) := by
  have s0 : signC (a : Int) = [] := if_neg (by omega)
  by_cases c : b = 1
  · refine .inl ⟨c, ?_, ?_⟩
    · refine split_none ?_
      rw [e, c]
      unfold textN
      rw [s0, if_pos (show ((1 : Nat) : Int) = 1 from rfl), List.nil_append, List.append_nil]
      exact num_free _ (by omega)
    · rw [e, c]
      unfold textN
      rw [s0, if_pos (show ((1 : Nat) : Int) = 1 from rfl), List.nil_append, List.append_nil, Int.natAbs_natCast]
  · refine .inr ⟨c, ?_⟩
    refine split_once ?_ (num_free _ (by omega)) (num_free _ (by omega))
    rw [e]
    unfold textN
    rw [s0, if_neg (by omega), List.nil_append, Int.natAbs_natCast, Int.natAbs_natCast]
theorem halves_back {w : Str} {a b : Nat} : (b = 1 → tL w = numC a → tL w = textN (a : Int) (b : Int)) ∧ ∀ h0 h1 : Str, Txt.split w ⟨#[47]⟩ = [h0, h1] → b ≠ 1 → tL h0 = numC a → tL h1 = numC b → tL w = textN (a : Int) (b : Int) := by
  have s0 : signC (a : Int) = [] := if_neg (by omega)
  constructor
  · intro c e
    rw [e, c]
    unfold textN
    rw [s0, if_pos (show ((1 : Nat) : Int) = 1 from rfl), List.nil_append, List.append_nil, Int.natAbs_natCast]
  · intro h0 h1 h c e0 e1
    have j := StrLaws.join_split w ⟨#[47]⟩
    rw [h] at j
    have j' : h0 ++ ⟨#[47]⟩ ++ h1 = w := j
    rw [← j', tL_app, tL_app, e0, e1]
    unfold textN
    rw [s0, if_neg (by omega), List.nil_append, Int.natAbs_natCast, Int.natAbs_natCast]
    show numC a ++ [47] ++ numC b = _
    simp
/-- a half that is one -/
def HalfIs (h : Str) : Prop := ∃ m : Nat, 1 ≤ m ∧ m ≤ 1000000000000000000000000000000 ∧ tL h = numC m
noncomputable def halfB (h : Str) : Bool := @decide (HalfIs h) (Classical.propDecidable _)
theorem halfB_iff {h : Str} : halfB h = true ↔ HalfIs h := by
  unfold halfB
  exact @decide_eq_true_iff _ (Classical.propDecidable _)
theorem half_num {h : Str} {n : Nat} (hn : NumIs (tL h) n) : (decide ((0 : Int) < (n : Int)) && decide ((n : Int) ≤ 1000000000000000000000000000000)) = halfB h := by
  rw [Bool.eq_iff_iff, halfB_iff, Bool.and_eq_true, decide_eq_true_eq, decide_eq_true_eq]
  constructor
  · rintro ⟨h1, h2⟩
    rcases hn with ⟨z, _⟩ | ⟨_, _, e⟩
    · omega
    · exact ⟨n, by omega, by omega, e⟩
  · rintro ⟨m, m1, m2, e⟩
    rw [e] at hn
    have := hn.val m1 m2
    omega
def T2_l_is_root_text : WS :=
  (wSeq (wAsg (wSplitT (wOp wIx (wVar 1) (wC (.int 2))) (wC (.str "/"))) (wgName 2))
  (wSeq (wIfS (wOr (wB (wOp wGt (wCB wLen (wCons (wVar 2) wNil)) (wC (.int 2)))) (wNot (wTruth (wCB wAll (wCons (wLcL 6 (wVar 2) wYes (wChain wLt wLe (wC (.int 0)) (wCall sp_l_number_in (wCons (wVar 6) wNil)) (wOp wPow (wC (.int 10)) (wC (.int 30))))) wNil))))) (wRet (wC (.bl false))) wNext)
  (wSeq (wAsg (wCall sp_l_number_in (wCons (wOp wIx (wVar 2) (wC (.int 0))) wNil)) (wgName 3))
  (wSeq (wAsg (wIf (wB (wOp wEq (wCB wLen (wCons (wVar 2) wNil)) (wC (.int 2)))) (wCall sp_l_number_in (wCons (wOp wIx (wVar 2) (wNeg (wC (.int 1)))) wNil)) (wC (.int 1))) (wgName 4))
  (wSeq (wIfS (wOr (wAnd (wB (wOp wEq (wCB wLen (wCons (wVar 2) wNil)) (wC (.int 2)))) (wB (wOp wEq (wVar 4) (wC (.int 1))))) (wB (wOp wNe (wCall sp_l_gcd (wCons (wVar 3) (wCons (wVar 4) wNil))) (wC (.int 1))))) (wRet (wC (.bl false))) wNext)
  (wSeq (wForL (wCall sp_l_primes (wCons (wCall sp_l_number_in (wCons (wOp wIx (wVar 1) (wC (.int 0))) wNil)) wNil)) (wgName 5) (wIfS (wAnd (wTruth (wCall sp_l_is_power (wCons (wVar 3) (wCons (wVar 5) wNil)))) (wTruth (wCall sp_l_is_power (wCons (wVar 4) (wCons (wVar 5) wNil))))) (wRet (wC (.bl false))) wNext))
  (wRet (wC (.bl true)))))))))
def T3_l_is_root_text : WS :=
  (wSeq (wAsg (wCall sp_l_number_in (wCons (wOp wIx (wVar 2) (wC (.int 0))) wNil)) (wgName 3))
  (wSeq (wAsg (wIf (wB (wOp wEq (wCB wLen (wCons (wVar 2) wNil)) (wC (.int 2)))) (wCall sp_l_number_in (wCons (wOp wIx (wVar 2) (wNeg (wC (.int 1)))) wNil)) (wC (.int 1))) (wgName 4))
  (wSeq (wIfS (wOr (wAnd (wB (wOp wEq (wCB wLen (wCons (wVar 2) wNil)) (wC (.int 2)))) (wB (wOp wEq (wVar 4) (wC (.int 1))))) (wB (wOp wNe (wCall sp_l_gcd (wCons (wVar 3) (wCons (wVar 4) wNil))) (wC (.int 1))))) (wRet (wC (.bl false))) wNext)
  (wSeq (wForL (wCall sp_l_primes (wCons (wCall sp_l_number_in (wCons (wOp wIx (wVar 1) (wC (.int 0))) wNil)) wNil)) (wgName 5) (wIfS (wAnd (wTruth (wCall sp_l_is_power (wCons (wVar 3) (wCons (wVar 5) wNil)))) (wTruth (wCall sp_l_is_power (wCons (wVar 4) (wCons (wVar 5) wNil))))) (wRet (wC (.bl false))) wNext))
  (wRet (wC (.bl true)))))))
/-- a root in least form, by the primes of its degree -/
theorem least_by {n a b : Nat} {L : List Nat} (hL : PrimesIs n L) (n1 : 1 ≤ n) (n60 : n ≤ 60) (a1 : 1 ≤ a) (b1 : 1 ≤ b) (a30 : a ≤ 1000000000000000000000000000000) (b30 : b ≤ 1000000000000000000000000000000) (g : Nat.gcd a b = 1)
    (no : ∀ q, q ∈ L → ¬ ((∃ r, r ^ q = a) ∧ ∃ r, r ^ q = b)) : LeastForm n a b := by
  refine ⟨n1, n60, a1, b1, a30, b30, g, fun m x y hm hx hy => ?_⟩
  have m1 : 1 ≤ m := Nat.pos_of_dvd_of_pos hm n1
  by_cases c : m = 1
  · exact c
  · obtain ⟨q, hq, dq⟩ := pr_dvd m (by omega)
    obtain ⟨t, ht⟩ := dq
    refine absurd ⟨⟨x ^ t, ?_⟩, ⟨y ^ t, ?_⟩⟩ (no q ((hL.2 q).mpr ⟨hq, Nat.dvd_trans ⟨t, ht⟩ hm⟩))
    · rw [← Nat.pow_mul, Nat.mul_comm, ← ht]
      exact hx
    · rw [← Nat.pow_mul, Nat.mul_comm, ← ht]
      exact hy
def T4_l_is_root_text : WS :=
  (wSeq (wForL (wCall sp_l_primes (wCons (wCall sp_l_number_in (wCons (wOp wIx (wVar 1) (wC (.int 0))) wNil)) wNil)) (wgName 5) (wIfS (wAnd (wTruth (wCall sp_l_is_power (wCons (wVar 3) (wCons (wVar 5) wNil)))) (wTruth (wCall sp_l_is_power (wCons (wVar 4) (wCons (wVar 5) wNil))))) (wRet (wC (.bl false))) wNext))
  (wRet (wC (.bl true))))
/-- what must hold of p -/
structure At (p w0 w1 w2 : Str) (n a b : Nat) : Prop where
  hw : Txt.split p ⟨#[32]⟩ = [w0, w1, w2]
  e0 : tL w0 = numC n
  e1 : w1 = Str.ofString "of"
  e2 : tL w2 = textN (a : Int) (b : Int)
  n1 : 1 ≤ n
  n60 : n ≤ 60
  a1 : 1 ≤ a
  b1 : 1 ≤ b
  a30 : a ≤ 1000000000000000000000000000000
  b30 : b ≤ 1000000000000000000000000000000
theorem At.same {p w0 w1 w2 : Str} {n a b : Nat} (h : At p w0 w1 w2 n a b) (g : Nat.gcd a b = 1) {n' a' b' : Nat} (lf : LeastForm n' a' b') (e : p = textR n' a' b') : n' = n ∧ a' = a ∧ b' = b := by
  obtain ⟨q0, _, q2⟩ := words_of h.hw e
  have l1 := lf.a1
  have l2 := lf.b1
  have l3 := lf.a30
  have l4 := lf.b30
  have h1 := h.a1
  have h2 := h.b1
  have h3 := h.a30
  have h4 := h.b30
  have i1 : IsNum (a' : Int) (b' : Int) := ⟨by omega, by omega, lf.cop, by omega, by omega⟩
  have i2 : IsNum (a : Int) (b : Int) := ⟨by omega, by omega, g, by omega, by omega⟩
  obtain ⟨r1, r2⟩ := text_one i1 i2 (q2.symm.trans h.e2)
  refine ⟨?_, by omega, by omega⟩
  rw [← numC_val n', ← q0, h.e0, numC_val]
theorem loop4 {p w0 w1 w2 : Str} {n a b i1 : Nat} {x2 x5 x6 : Option D} {μ : Sto} {R : XD} {E : EndsD} (h1 : lstAt μ i1 = some [.str w0, .str w1, .str w2]) (at4 : At p w0 w1 w2 n a b) (g : Nat.gcd a b = 1) (lw : w0.length ≤ 100000)
    (k : ∀ v μ', Ext μ μ' → SaysB v (IsRT p) → E.rt (.bl v) μ') :
    T4_l_is_root_text R E [some (.str p), some (.ref i1), x2, some (.int (a : Int)), some (.int (b : Int)), x5, x6] μ := by
  have n1 := at4.n1
  have n60 := at4.n60
  have a30 := at4.a30
  have b30 := at4.b30
  have p130 : 1000000000000000000000000000000 < 2 ^ 130 := by decide +kernel
  unfold T4_l_is_root_text
  unfold wForL
  walk_at "hd"
  simp only [h1]
  walk_at "hd"
  refine ⟨w0, rfl, lw, fun m μ1 e1 hm => ?_⟩
  rw [at4.e0] at hm
  have em := hm.val n1 (by omega)
  subst em
  have t60 : (60 : Nat) < 2 ^ 60 := by decide
  refine ⟨m, rfl, by omega, fun L j μ2 hL _ e2 hj _ => ?_⟩
  have pr := hL n1
  have e12 := e1.trans e2
  refine ⟨natD L, fun i δ' μ' => Ext μ2 μ' ∧ ∃ x5, δ' = [some (.str p), some (.ref i1), x2, some (.int (a : Int)), some (.int (b : Int)), x5, x6] ∧ ∀ q, q ∈ L.take i → ¬ ((∃ r, r ^ q = a) ∧ ∃ r, r ^ q = b), ⟨Ext.refl _, _, rfl, fun q hq => by rw [List.take_zero] at hq; cases hq⟩, ?_, ?_, ?_⟩
  · rintro i δ' μ' _ ⟨e3, x5, rfl, _⟩
    exact e3.lst hj
  · rintro i d δ' μ' hd ⟨e3, x5, rfl, no⟩
    unfold natD at hd
    rw [List.getElem?_map] at hd
    cases hq : L[i]? with
    | none =>
      rw [hq] at hd
      cases hd
    | some q =>
      rw [hq] at hd
      have ed : D.int (q : Int) = d := Option.some.inj hd
      subst ed
      have qm := (pr.2 q).mp (List.mem_of_getElem? hq)
      have q60 : q ≤ 60 := Nat.le_trans (Nat.le_of_dvd n1 qm.2) n60
      have q2 := qm.1.1
      walk_at "hd"
      have next : ¬ ((∃ r, r ^ q = a) ∧ ∃ r, r ^ q = b) → ∀ q', q' ∈ L.take (i + 1) → ¬ ((∃ r, r ^ q' = a) ∧ ∃ r, r ^ q' = b) := fun hno q' h' => by
        rw [List.take_add_one, hq] at h'
        rcases List.mem_append.mp h' with z | z
        · exact no q' z
        · have : q' = q := by simpa using z
          rw [this]
          exact hno
      refine ⟨a, q, rfl, by omega, by omega, by omega, fun v hv => ?_⟩
      cases v with
      | false =>
        simp only []
        exact ⟨e3, _, rfl, next fun z => by
          have := hv.mpr z.1
          cases this⟩
      | true =>
        simp only []
        refine ⟨b, q, rfl, by omega, by omega, by omega, fun v2 hv2 => ?_⟩
        cases v2 with
        | false =>
          simp only []
          exact ⟨e3, _, rfl, next fun z => by
            have := hv2.mpr z.2
            cases this⟩
        | true =>
          simp only []
          refine k _ _ (e12.trans e3) ⟨fun z => (by cases z), fun ⟨n', a', b', lf, e⟩ => ?_⟩
          obtain ⟨rfl, rfl, rfl⟩ := at4.same g lf e
          obtain ⟨r, hr⟩ := hv.mp rfl
          obtain ⟨t, ht⟩ := hv2.mp rfl
          have := lf.least q r t qm.2 hr ht
          omega
  · rintro δ' μ' ⟨e3, x5, rfl, no⟩
    have ln : (natD L).length = L.length := by unfold natD; rw [List.length_map]
    rw [ln, List.take_length] at no
    refine k _ _ (e12.trans e3) ⟨fun _ => ⟨m, a, b, least_by pr n1 n60 at4.a1 at4.b1 a30 b30 g no, words_back at4.hw at4.e0 at4.e1 at4.e2⟩, fun _ => rfl⟩
theorem rest3_l_is_root_text {p w0 w1 w2 : Str} {n i1 i2 : Nat} {hs : List Str} {x3 x4 x5 x6 : Option D} {μ : Sto} {R : XD} {E : EndsD} (h1 : lstAt μ i1 = some [.str w0, .str w1, .str w2]) (h2 : lstAt μ i2 = some (hs.map D.str))
    (hw : Txt.split p ⟨#[32]⟩ = [w0, w1, w2]) (e0 : tL w0 = numC n) (e1 : w1 = Str.ofString "of") (n1 : 1 ≤ n) (n60 : n ≤ 60) (hsw : Txt.split w2 ⟨#[47]⟩ = hs) (two : hs.length ≤ 2)
    (hh : ∀ x, x ∈ hs → HalfIs x) (lw : w0.length ≤ 100000) (lh : ∀ x, x ∈ hs → x.length ≤ 100000)
    (k : ∀ v μ', Ext μ μ' → SaysB v (IsRT p) → E.rt (.bl v) μ') :
    T3_l_is_root_text R E [some (.str p), some (.ref i1), some (.ref i2), x3, x4, x5, x6] μ := by
  have no : ∀ μ', Ext μ μ' → ¬ IsRT p → E.rt (.bl false) μ' := fun μ' e h => k _ _ e ⟨fun z => (by cases z), fun z => absurd z h⟩
  have one : 1 ≤ hs.length := by
    have := split_len w2 47
    rw [hsw] at this
    have nn : 0 ≤ cnt 47 w2.cps.toList := by
      have : ∀ l : List Nat, 0 ≤ cnt 47 l := fun l => by
        induction l with
        | nil => exact Int.le_refl _
        | cons x r ih => rw [cnt_cons]; split <;> omega
      exact this _
    omega
  have e : T3_l_is_root_text = wSeq _ (wSeq _ (wSeq _ T4_l_is_root_text)) := rfl
  rw [e]
  match hs, one, two with
  | [h], _, _ =>
    obtain ⟨a, a1, a30, ea⟩ := hh h (by simp)
    have e2 : h = w2 := by
      have j := StrLaws.join_split w2 ⟨#[47]⟩
      rw [hsw] at j
      exact j
    subst e2
    have l2 : lstAt μ i2 = some [.str h] := h2
    have at4 : At p w0 w1 h n a 1 := ⟨hw, e0, e1, (halves_back (b := 1)).1 rfl ea, n1, n60, a1, Nat.le_refl _, a30, by decide⟩
    walk_at "hd"
    simp only [l2, at0]
    refine ⟨h, rfl, lh h (by simp), fun v μ1 x1 hv => ?_⟩
    rw [ea] at hv
    have ev := hv.val a1 a30
    subst ev
    have l21 : lstAt μ1 i2 = some [.str h] := x1.lst l2
    simp only [l21]
    refine ⟨1, rfl, ?_⟩
    rw [show decide (((1 : Nat) : Int) = 2) = false from by decide]
    simp only []
    refine ⟨1, rfl, ?_⟩
    rw [show decide (((1 : Nat) : Int) = 2) = false from by decide]
    simp only []
    refine ⟨v, 1, rfl, ?_⟩
    rw [Nat.gcd_one_right]
    simp only []
    rw [show (!decide (((1 : Nat) : Int) = 1)) = false from by decide]
    simp only []
    exact loop4 (x1.lst h1) at4 (Nat.gcd_one_right _) lw fun v μ' e => k v μ' (x1.trans e)
  | [h, h'], _, _ =>
    obtain ⟨a, a1, a30, ea⟩ := hh h (by simp)
    obtain ⟨b, b1, b30, eb⟩ := hh h' (by simp)
    have l2 : lstAt μ i2 = some [.str h, .str h'] := h2
    have can : ∀ n' a' b', LeastForm n' a' b' → p = textR n' a' b' → b' ≠ 1 ∧ a' = a ∧ b' = b := fun n' a' b' lf e => by
      obtain ⟨_, _, q2⟩ := words_of hw e
      rcases halves_of q2 with ⟨_, z, _⟩ | ⟨c, z⟩
      · rw [hsw] at z
        cases z
      · rw [hsw] at z
        have z1 : h = ofC (numC a') := (List.cons.inj z).1
        have z2 : h' = ofC (numC b') := (List.cons.inj (List.cons.inj z).2).1
        refine ⟨c, ?_, ?_⟩
        · rw [← numC_val a', ← tL_ofC (numC a'), ← z1, ea, numC_val]
        · rw [← numC_val b', ← tL_ofC (numC b'), ← z2, eb, numC_val]
    walk_at "hd"
    simp only [l2, at0]
    refine ⟨h, rfl, lh h (by simp), fun v μ1 x1 hv => ?_⟩
    rw [ea] at hv
    have ev := hv.val a1 a30
    subst ev
    have l21 : lstAt μ1 i2 = some [.str h, .str h'] := x1.lst l2
    simp only [l21]
    refine ⟨2, rfl, ?_⟩
    rw [show decide (((2 : Nat) : Int) = 2) = true from by decide]
    simp only [l21]
    rw [show atI [D.str h, D.str h'] (-1) = some (.str h') from rfl]
    simp only []
    refine ⟨h', rfl, lh h' (by simp), fun v' μ2 x2 hv' => ?_⟩
    rw [eb] at hv'
    have ev := hv'.val b1 b30
    subst ev
    have x12 := x1.trans x2
    have l22 : lstAt μ2 i2 = some [.str h, .str h'] := x12.lst l2
    simp only [l22]
    refine ⟨2, rfl, ?_⟩
    rw [show decide (((2 : Nat) : Int) = 2) = true from by decide]
    simp only []
    cases c1 : decide ((v' : Int) = 1) with
    | true =>
      simp only []
      refine no _ x12 fun ⟨n', a', b', lf, e⟩ => ?_
      obtain ⟨q1, _, q3⟩ := can n' a' b' lf e
      have := of_decide_eq_true c1
      omega
    | false =>
      have c1' := of_decide_eq_false c1
      simp only []
      refine ⟨v, v', rfl, ?_⟩
      simp only []
      cases c2 : decide (((Nat.gcd v v' : Nat) : Int) = 1) with
      | false =>
        simp only [Bool.not_false]
        refine no _ x12 fun ⟨n', a', b', lf, e⟩ => ?_
        obtain ⟨q1, q2, q3⟩ := can n' a' b' lf e
        have := lf.cop
        rw [q2, q3] at this
        exact of_decide_eq_false c2 (by rw [this]; rfl)
      | true =>
        have g : Nat.gcd v v' = 1 := by
          have := of_decide_eq_true c2
          omega
        simp only [Bool.not_true]
        have at4 : At p w0 w1 w2 n v v' := ⟨hw, e0, e1, (halves_back (a := v) (b := v')).2 h h' hsw (by omega) ea eb, n1, n60, a1, b1, a30, b30⟩
        exact loop4 (x12.lst h1) at4 g lw fun v μ' e => k v μ' (x12.trans e)
theorem rest2_l_is_root_text {p w0 w1 w2 : Str} {n i1 : Nat} {x2 x3 x4 x5 x6 : Option D} {μ : Sto} {R : XD} {E : EndsD} (h1 : lstAt μ i1 = some [.str w0, .str w1, .str w2])
    (hw : Txt.split p ⟨#[32]⟩ = [w0, w1, w2]) (e0 : tL w0 = numC n) (e1 : w1 = Str.ofString "of") (n1 : 1 ≤ n) (n60 : n ≤ 60) (lw : w0.length ≤ 100000) (lw2 : w2.length ≤ 100000)
    (k : ∀ v μ', Ext μ μ' → SaysB v (IsRT p) → E.rt (.bl v) μ') :
    T2_l_is_root_text R E [some (.str p), some (.ref i1), x2, x3, x4, x5, x6] μ := by
  have no : ∀ μ', Ext μ μ' → ¬ IsRT p → E.rt (.bl false) μ' := fun μ' e h => k _ _ e ⟨fun z => (by cases z), fun z => absurd z h⟩
  have line : 1000000 ≤ sizeLine := by decide
  have e : T2_l_is_root_text = wSeq _ (wSeq _ T3_l_is_root_text) := rfl
  rw [e]
  walk_at "hd"
  simp only [wSplitT]
  walk_at "hd"
  simp only [h1]
  rw [show atI [D.str w0, D.str w1, D.str w2] (2 : Int) = some (.str w2) from rfl]
  simp only []
  refine ⟨by decide +kernel, by omega, ?_⟩
  have sl : Str.ofString "/" = ⟨#[47]⟩ := by decide +kernel
  rw [sl]
  have x1 := Ext.app μ [O.lst ((Txt.split w2 ⟨#[47]⟩).map D.str)]
  have l2 := lst_new μ ((Txt.split w2 ⟨#[47]⟩).map D.str)
  have hlen : ∀ x, x ∈ Txt.split w2 ⟨#[47]⟩ → x.length ≤ w2.length := fun x hx => by
    have j := StrLaws.join_split w2 ⟨#[47]⟩
    have gen : ∀ (ps : List Str) (x : Str), x ∈ ps → x.length ≤ (Str.join ⟨#[47]⟩ ps).length := fun ps => by
      induction ps with
      | nil => intro x hx; cases hx
      | cons q r ih =>
        intro x hx
        match r, ih, hx with
        | [], _, hx =>
          have : x = q := by simpa using hx
          rw [this]
          exact Nat.le_refl _
        | y :: r, ih, hx =>
          have jj : tL (Str.join ⟨#[47]⟩ (q :: y :: r)) = tL q ++ [47] ++ tL (Str.join ⟨#[47]⟩ (y :: r)) := by
            show tL (q ++ ⟨#[47]⟩ ++ Str.join ⟨#[47]⟩ (y :: r)) = _
            rw [tL_app, tL_app]
            rfl
          rw [tL_len (Str.join _ _), jj, List.length_append, List.length_append]
          rcases List.mem_cons.mp hx with z | z
          · rw [z, tL_len]
            omega
          · have := ih x z
            rw [tL_len (Str.join _ _)] at this
            omega
    have := gen _ x hx
    rwa [j] at this
  generalize hsw : Txt.split w2 ⟨#[47]⟩ = hs at x1 l2 hlen ⊢
  generalize hν : μ ++ [O.lst (hs.map D.str)] = ν at x1 l2 ⊢
  generalize hi : μ.length = i2 at l2 ⊢
  have can : ∀ n' a' b', LeastForm n' a' b' → p = textR n' a' b' → hs.length ≤ 2 ∧ ∀ x, x ∈ hs → HalfIs x := fun n' a' b' lf e => by
    obtain ⟨_, _, q2⟩ := words_of hw e
    rcases halves_of q2 with ⟨_, z, z2⟩ | ⟨c, z⟩
    · rw [hsw] at z
      rw [z]
      refine ⟨by simp, fun x hx => ?_⟩
      have : x = w2 := by simpa using hx
      rw [this]
      exact ⟨a', lf.a1, lf.a30, z2⟩
    · rw [hsw] at z
      rw [z]
      refine ⟨by simp, fun x hx => ?_⟩
      have : x = ofC (numC a') ∨ x = ofC (numC b') := by simpa using hx
      rcases this with z | z
      · rw [z]
        exact ⟨a', lf.a1, lf.a30, tL_ofC _⟩
      · rw [z]
        exact ⟨b', lf.b1, lf.b30, tL_ofC _⟩
  refine ⟨hs.length, by rw [l2]; simp, ?_⟩
  cases c1 : decide ((2 : Int) < (hs.length : Int)) with
  | true =>
    simp only []
    refine no _ x1 fun ⟨n', a', b', lf, e⟩ => ?_
    have := (can n' a' b' lf e).1
    have := of_decide_eq_true c1
    omega
  | false =>
    have two : hs.length ≤ 2 := by
      have := of_decide_eq_false c1
      omega
    simp only []
    simp only [wLcL]
    walk_at "hd"
    refine ⟨hs.map D.str, l2, ?_⟩
    rw [List.length_map]
    refine lc_ext (fun _ => true) (fun j => .bl (halfB (hs.getD j Str.empty))) (by omega) (fun μ' e => e.lst l2) (fun j μ' Q hj e q => q μ' (Ext.refl _)) (fun j μ' Q hj _ e q => ?_) fun μ1 e1' hl1 => ?_
    · have gd : (hs.map D.str).getD j .non = .str (hs.getD j Str.empty) := by
        rw [List.getD_eq_getElem?_getD, List.getD_eq_getElem?_getD, List.getElem?_map, List.getElem?_eq_getElem hj]
        rfl
      have mem : hs.getD j Str.empty ∈ hs := by
        rw [List.getD_eq_getElem?_getD, List.getElem?_eq_getElem hj]
        exact List.getElem_mem hj
      generalize hs.getD j Str.empty = x at gd mem q ⊢
      rw [gd]
      walk_at "hd"
      have lx := hlen x mem
      refine ⟨x, rfl, by omega, fun m μ2 e2 hm => ?_⟩
      have hb := half_num hm
      rw [← hb] at q
      simp only []
      cases c2 : decide ((0 : Int) < (m : Int)) with
      | false =>
        rw [c2, Bool.false_and] at q
        exact q _ e2
      | true =>
        rw [c2, Bool.true_and] at q
        simp only []
        refine ⟨cpow10 (by decide), ?_⟩
        rw [show (10 : Int) ^ Int.toNat 30 = 1000000000000000000000000000000 from by decide +kernel]
        exact q _ e2
    · have lv : ((List.range hs.length).filter fun _ => true).map (fun j => D.bl (halfB (hs.getD j Str.empty))) = (hs.map halfB).map D.bl := by
        rw [List.filter_eq_self.mpr fun _ _ => rfl]
        refine List.ext_getElem (by simp) fun m h1 h2 => ?_
        simp only [List.getElem_map, List.getElem_range]
        rw [List.getD_eq_getElem?_getD, List.getElem?_eq_getElem (by simpa using h1)]
        rfl
      rw [lv] at hl1
      simp only [wAll]
      refine ⟨_, hl1, ?_⟩
      have x2 := x1.trans e1'
      cases c3 : (hs.map halfB).all _root_.id with
      | false =>
        simp only [Bool.not_false]
        refine no _ x2 fun ⟨n', a', b', lf, e⟩ => ?_
        have q := (can n' a' b' lf e).2
        have : (hs.map halfB).all _root_.id = true := by
          rw [List.all_map, List.all_eq_true]
          exact fun x hx => halfB_iff.mpr (q x hx)
        rw [c3] at this
        cases this
      | true =>
        simp only [Bool.not_true]
        rw [List.all_map, List.all_eq_true] at c3
        refine rest3_l_is_root_text (x2.lst h1) (e1'.lst l2) hw e0 e1 n1 n60 hsw two (fun x hx => halfB_iff.mp (c3 x hx)) lw (fun x hx => by have := hlen x hx; omega) fun v μ' e => k v μ' (x2.trans e)
def sp_l_is_root_text : SpD := fun ds μ P _ => ∃ p : Str, ds = [.str p] ∧ p.length ≤ 100000 ∧ ∀ v μ', Ext μ μ' → SaysB v (IsRT p) → P (.bl v) μ'
theorem len_l_is_root_text : ∀ ds μ Pd R, sp_l_is_root_text ds μ Pd R → ds.length = 1 := fun ds μ Pd R ⟨i, e, _⟩ => by rw [e] <;> rfl
def W_l_is_root_text : WS :=
  (wSeq (wAsg (wSplitT (wVar 0) (wC (.str " "))) (wgName 1))
  (wSeq (wIfS (wOr (wB (wOp wNe (wCB wLen (wCons (wVar 1) wNil)) (wC (.int 3)))) (wOr (wB (wOp wNe (wOp wIx (wVar 1) (wC (.int 1))) (wC (.str "of")))) (wNot (wB (wChain wLe wLe (wC (.int 1)) (wCall sp_l_number_in (wCons (wOp wIx (wVar 1) (wC (.int 0))) wNil)) (wC (.int 60))))))) (wRet (wC (.bl false))) wNext)
  (wSeq (wAsg (wSplitT (wOp wIx (wVar 1) (wC (.int 2))) (wC (.str "/"))) (wgName 2))
  (wSeq (wIfS (wOr (wB (wOp wGt (wCB wLen (wCons (wVar 2) wNil)) (wC (.int 2)))) (wNot (wTruth (wCB wAll (wCons (wLcL 6 (wVar 2) wYes (wChain wLt wLe (wC (.int 0)) (wCall sp_l_number_in (wCons (wVar 6) wNil)) (wOp wPow (wC (.int 10)) (wC (.int 30))))) wNil))))) (wRet (wC (.bl false))) wNext)
  (wSeq (wAsg (wCall sp_l_number_in (wCons (wOp wIx (wVar 2) (wC (.int 0))) wNil)) (wgName 3))
  (wSeq (wAsg (wIf (wB (wOp wEq (wCB wLen (wCons (wVar 2) wNil)) (wC (.int 2)))) (wCall sp_l_number_in (wCons (wOp wIx (wVar 2) (wNeg (wC (.int 1)))) wNil)) (wC (.int 1))) (wgName 4))
  (wSeq (wIfS (wOr (wAnd (wB (wOp wEq (wCB wLen (wCons (wVar 2) wNil)) (wC (.int 2)))) (wB (wOp wEq (wVar 4) (wC (.int 1))))) (wB (wOp wNe (wCall sp_l_gcd (wCons (wVar 3) (wCons (wVar 4) wNil))) (wC (.int 1))))) (wRet (wC (.bl false))) wNext)
  (wSeq (wForL (wCall sp_l_primes (wCons (wCall sp_l_number_in (wCons (wOp wIx (wVar 1) (wC (.int 0))) wNil)) wNil)) (wgName 5) (wIfS (wAnd (wTruth (wCall sp_l_is_power (wCons (wVar 3) (wCons (wVar 5) wNil)))) (wTruth (wCall sp_l_is_power (wCons (wVar 4) (wCons (wVar 5) wNil))))) (wRet (wC (.bl false))) wNext))
  (wRet (wC (.bl true)))))))))))
theorem vc_l_is_root_text : ∀ ds μ Pd R, sp_l_is_root_text ds μ Pd R → W_l_is_root_text (fun _ C fs μ' => R C fs μ') { nx := fun _ μ' => Pd .non μ', rt := Pd } (startD 7 ds) μ := by
  intro ds μ Pd R h
  obtain ⟨p, rfl, hl, k⟩ := h
  have no : ∀ μ', Ext μ μ' → ¬ IsRT p → Pd (.bl false) μ' := fun μ' e h => k _ _ e ⟨fun z => (by cases z), fun z => absurd z h⟩
  have line : 1000000 ≤ sizeLine := by decide
  have e : W_l_is_root_text = wSeq _ (wSeq _ T2_l_is_root_text) := rfl
  rw [e]
  walk_at "hd"
  simp only [wSplitT]
  walk_at "hd"
  refine ⟨by decide +kernel, by omega, ?_⟩
  rw [space_is]
  have x1 := Ext.app μ [O.lst ((Txt.split p ⟨#[32]⟩).map D.str)]
  have l1 := lst_new μ ((Txt.split p ⟨#[32]⟩).map D.str)
  have three : ∀ n a b, LeastForm n a b → p = textR n a b → (Txt.split p ⟨#[32]⟩).length = 3 := fun n a b _ e => words_three e
  have lens : ∀ w0 w1 w2 : Str, Txt.split p ⟨#[32]⟩ = [w0, w1, w2] → w0.length ≤ p.length ∧ w2.length ≤ p.length := fun w0 w1 w2 h => by
    have j := StrLaws.join_split p ⟨#[32]⟩
    rw [h] at j
    have t := congrArg tL j
    rw [join3] at t
    have := congrArg List.length t
    rw [List.length_append, List.length_cons, List.length_append, List.length_cons, ← tL_len, ← tL_len, ← tL_len, ← tL_len] at this
    omega
  generalize hsw : Txt.split p ⟨#[32]⟩ = ws at x1 l1 three lens ⊢
  generalize hν : μ ++ [O.lst (ws.map D.str)] = ν at x1 l1 ⊢
  generalize hi : μ.length = i1 at l1 ⊢
  refine ⟨ws.length, by rw [l1]; simp, ?_⟩
  cases c1 : decide ((ws.length : Int) = 3) with
  | false =>
    simp only [Bool.not_false]
    refine no _ x1 fun ⟨n, a, b, lf, e⟩ => ?_
    have := three n a b lf e
    exact of_decide_eq_false c1 (by omega)
  | true =>
    have w3 : ws.length = 3 := by
      have := of_decide_eq_true c1
      omega
    simp only [Bool.not_true]
    match ws, w3 with
    | [w0, w1, w2], _ =>
      have l1' : lstAt ν i1 = some [.str w0, .str w1, .str w2] := l1
      obtain ⟨lw0, lw2⟩ := lens w0 w1 w2 rfl
      simp only [l1', at1]
      cases c2 : decide (w1 = Str.ofString "of") with
      | false =>
        simp only [Bool.not_false]
        refine no _ x1 fun ⟨n, a, b, lf, e⟩ => of_decide_eq_false c2 (words_of hsw e).2.1
      | true =>
        have e1 := of_decide_eq_true c2
        simp only [Bool.not_true]
        simp only [at0]
        refine ⟨w0, rfl, by omega, fun m μ2 e2 hm => ?_⟩
        have bad : ¬ (1 ≤ m ∧ m ≤ 60) → Pd (.bl false) μ2 := fun h => no _ (x1.trans e2) fun ⟨n, a, b, lf, e⟩ => by
          have q := (words_of hsw e).1
          rw [q] at hm
          have n1 := lf.n1
          have n60 := lf.n60
          have := hm.val n1 (by omega)
          omega
        simp only []
        cases c3 : decide ((1 : Int) ≤ (m : Int)) with
        | false =>
          have := of_decide_eq_false c3
          simp only [Bool.not_false]
          exact bad (by omega)
        | true =>
          have m1 := of_decide_eq_true c3
          simp only []
          cases c4 : decide ((m : Int) ≤ 60) with
          | false =>
            have := of_decide_eq_false c4
            simp only [Bool.not_false]
            exact bad (by omega)
          | true =>
            have m60 := of_decide_eq_true c4
            simp only [Bool.not_true]
            have e0 : tL w0 = numC m := by
              rcases hm with ⟨z, _⟩ | ⟨_, _, z⟩
              · omega
              · exact z
            exact rest2_l_is_root_text (e2.lst l1') hsw e0 e1 (by omega) (by omega) (by omega) (by omega) fun v μ' e => k v μ' ((x1.trans e2).trans e)

/-! a text with something otherwise -/
/-- words, joined -/
def joinL : List (List Nat) → List Nat
  | [] => []
  | [x] => x
  | x :: y :: r => x ++ 32 :: joinL (y :: r)
theorem join_is : ∀ ws : List Str, tL (Txt.join ⟨#[32]⟩ ws) = joinL (ws.map tL) := by
  have gen : ∀ ws : List Str, tL (Str.join ⟨#[32]⟩ ws) = joinL (ws.map tL) := fun ws => by
    induction ws with
    | nil => rfl
    | cons x r ih =>
      match r, ih with
      | [], _ => rfl
      | y :: r, ih =>
        show tL (x ++ ⟨#[32]⟩ ++ Str.join ⟨#[32]⟩ (y :: r)) = _
        rw [tL_app, tL_app, ih]
        show tL x ++ [32] ++ joinL _ = tL x ++ 32 :: joinL _
        simp
  intro ws
  unfold Txt.join
  rw [StrLaws.glued_eq_join]
  exact gen ws
def tot (ws : List Str) : Nat := (ws.map fun x => x.length).sum
theorem joinL_len : ∀ ws : List Str, (joinL (ws.map tL)).length ≤ tot ws + ws.length
  | [] => Nat.zero_le _
  | [x] => by
    show (tL x).length ≤ (x.length + 0) + 1
    rw [← tL_len]
    omega
  | x :: y :: r => by
    have := joinL_len (y :: r)
    show (tL x ++ 32 :: joinL ((y :: r).map tL)).length ≤ (x.length + tot (y :: r)) + ((y :: r).length + 1)
    rw [List.length_append, List.length_cons, ← tL_len]
    omega
theorem joinL_ge : ∀ ws : List Str, tot ws + ws.length ≤ (joinL (ws.map tL)).length + 1
  | [] => Nat.zero_le _
  | [x] => by
    show (x.length + 0) + 1 ≤ (tL x).length + 1
    rw [← tL_len]
    omega
  | x :: y :: r => by
    have := joinL_ge (y :: r)
    show (x.length + tot (y :: r)) + ((y :: r).length + 1) ≤ (tL x ++ 32 :: joinL ((y :: r).map tL)).length + 1
    have e1 : (tL x ++ 32 :: joinL ((y :: r).map tL)).length = (tL x).length + ((joinL ((y :: r).map tL)).length + 1) := by rw [List.length_append]; rfl
    rw [e1, ← tL_len]
    omega
theorem joinL_cnt : ∀ ws : List Str, (∀ x, x ∈ ws → 32 ∉ tL x) → cnt 32 (joinL (ws.map tL)) ≤ (ws.length : Int) - 1 ∨ ws = []
  | [], _ => .inr rfl
  | [x], h => .inl (by
    show cnt 32 (tL x) ≤ (1 : Int) - 1
    rw [cnt_none 32 _ (h x (by simp))]
    decide)
  | x :: y :: r, h => .inl (by
    have := (joinL_cnt (y :: r) fun z hz => h z (List.mem_cons_of_mem _ hz)).resolve_right (by simp)
    show cnt 32 (tL x ++ 32 :: joinL ((y :: r).map tL)) ≤ (((y :: r).length + 1 : Nat) : Int) - 1
    rw [cnt_two, cnt_none 32 _ (h x (by simp)), cnt_cons, if_pos rfl]
    omega)
theorem joinL_asc : ∀ ws : List Str, (∀ x, x ∈ ws → ∀ c ∈ tL x, c < 128) → ∀ c ∈ joinL (ws.map tL), c < 128
  | [], _ => fun c h => by cases h
  | [x], h => h x (by simp)
  | x :: y :: r, h => fun c hc => by
    rcases List.mem_append.mp (show c ∈ tL x ++ 32 :: joinL ((y :: r).map tL) from hc) with z | z
    · exact h x (by simp) c z
    · rcases List.mem_cons.mp z with q | q
      · omega
      · exact joinL_asc (y :: r) (fun z hz => h z (List.mem_cons_of_mem _ hz)) c q
theorem tot_app (a b : List Str) : tot (a ++ b) = tot a + tot b := by
  unfold tot
  rw [List.map_append, List.sum_append]
theorem tot_take (a : List Str) (n : Nat) : tot (a.take n) + tot (a.drop n) = tot a := by
  rw [← tot_app, List.take_append_drop]
theorem tot_drop (a : List Str) (n : Nat) : tot (a.drop (n + 1)) ≤ tot (a.drop n) := by
  have : a.drop (n + 1) = (a.drop n).drop 1 := by rw [List.drop_drop]
  rw [this]
  cases a.drop n with
  | nil => exact Nat.le_refl _
  | cons x r =>
    show tot r ≤ x.length + tot r
    omega
theorem sp_is : Str.ofString " " = ⟨#[32]⟩ := by decide +kernel
theorem cutS_to (x : Str) (k : Nat) : tL (cutS x none (some (k : Int))) = (tL x).take k ∧ tL (cutS x (some (k : Int)) none) = (tL x).drop k := by
  unfold cutS
  have e : x.cps.toList = tL x := rfl
  rw [tL_len, e]
  generalize tL x = l
  unfold tL
  simp only [HT.sIx_none, HT.sIx_nat, List.drop_zero, Nat.sub_zero]
  constructor
  · show l.take (min k l.length) = l.take k
    by_cases h : k ≤ l.length
    · rw [Nat.min_eq_left h]
    · rw [Nat.min_eq_right (by omega), List.take_length, List.take_of_length_le (by omega)]
  · show (l.drop (min k l.length)).take (l.length - min k l.length) = l.drop k
    by_cases h : k ≤ l.length
    · rw [Nat.min_eq_left h, List.take_of_length_le (by rw [List.length_drop]; omega)]
    · rw [Nat.min_eq_right (by omega), List.drop_length, List.take_nil, List.drop_of_length_le (by omega)]
theorem cutD_to (l : List D) (k : Nat) : HD.cutD l none (some (k : Int)) = l.take k ∧ HD.cutD l (some (k : Int)) none = l.drop k := by
  unfold HD.cutD
  simp only [HT.sIx_none, HT.sIx_nat, List.drop_zero, Nat.sub_zero]
  constructor
  · show l.take (min k l.length) = l.take k
    by_cases h : k ≤ l.length
    · rw [Nat.min_eq_left h]
    · rw [Nat.min_eq_right (by omega), List.take_length, List.take_of_length_le (by omega)]
  · show (l.drop (min k l.length)).take (l.length - min k l.length) = l.drop k
    by_cases h : k ≤ l.length
    · rw [Nat.min_eq_left h, List.take_of_length_le (by rw [List.length_drop]; omega)]
    · rw [Nat.min_eq_right (by omega), List.drop_length, List.take_nil, List.drop_of_length_le (by omega)]
def Asc (p : Str) : Prop := ∀ c ∈ tL p, c < 128
theorem asc_app {a b : Str} (h1 : Asc a) (h2 : Asc b) : Asc (a ++ b) := fun c hc => by
  rw [tL_app] at hc
  rcases List.mem_append.mp hc with z | z
  · exact h1 c z
  · exact h2 c z
theorem len_app (a b : Str) : (a ++ b).length = a.length + b.length := by rw [tL_len, tL_app, List.length_append, ← tL_len, ← tL_len]
theorem cnt_app (c : Nat) (a b : Str) : cnt c (tL (a ++ b)) = cnt c (tL a) + cnt c (tL b) := by rw [tL_app, cnt_two]
theorem cnt_pos (c : Nat) : ∀ l : List Nat, 0 ≤ cnt c l
  | [] => Int.le_refl _
  | x :: r => by
    have := cnt_pos c r
    rw [cnt_cons]
    split <;> omega
/-- the two parts of a text, and the second one without its first sign -/
theorem two_parts {p : Str} (hp : Asc p) (k : Nat) : Asc (cutS p none (some (k : Int))) ∧ Asc (cutS p (some (k : Int)) none) ∧ (cutS p none (some (k : Int))).length + (cutS p (some (k : Int)) none).length = p.length ∧ cnt 32 (tL (cutS p none (some (k : Int)))) + cnt 32 (tL (cutS p (some (k : Int)) none)) = cnt 32 (tL p) ∧
    Asc (cutS p (some ((k : Int) + 1)) none) ∧ (cutS p (some ((k : Int) + 1)) none).length ≤ (cutS p (some (k : Int)) none).length ∧ cnt 32 (tL (cutS p (some ((k : Int) + 1)) none)) ≤ cnt 32 (tL (cutS p (some (k : Int)) none)) := by
  have t1 := (cutS_to p k).1
  have t2 := (cutS_to p k).2
  have t3 : tL (cutS p (some ((k : Int) + 1)) none) = (tL p).drop (k + 1) := (cutS_to p (k + 1)).2
  have t4 : (tL p).drop (k + 1) = ((tL p).drop k).drop 1 := by rw [List.drop_drop]
  refine ⟨fun c hc => hp c (List.mem_of_mem_take (by rw [← t1]; exact hc)), fun c hc => hp c (List.mem_of_mem_drop (by rw [← t2]; exact hc)), ?_, ?_, fun c hc => hp c (List.mem_of_mem_drop (by rw [← t3]; exact hc)), ?_, ?_⟩
  · rw [tL_len, tL_len, tL_len, t1, t2, ← List.length_append, List.take_append_drop]
  · rw [t1, t2, ← cnt_two, List.take_append_drop]
  · rw [tL_len, tL_len, t3, t2, List.length_drop, List.length_drop]
    omega
  · rw [t3, t4, t2]
    cases (tL p).drop k with
    | nil => exact Int.le_refl _
    | cons x r =>
      show cnt 32 r ≤ cnt 32 (x :: r)
      rw [cnt_cons]
      split <;> omega
theorem sign_of {l : List Nat} {d : D} (h : d ∈ l.map fun c => D.str ⟨#[c]⟩) : ∃ c, c ∈ l ∧ d = .str ⟨#[c]⟩ := by
  obtain ⟨c, hc, e⟩ := List.mem_map.mp h
  exact ⟨c, hc, e.symm⟩
theorem sign_facts {c : Nat} (h : c < 128) : Asc ⟨#[c]⟩ ∧ (⟨#[c]⟩ : Str).length = 1 ∧ cnt 32 (tL ⟨#[c]⟩) ≤ 1 ∧ (c ≠ 32 → cnt 32 (tL ⟨#[c]⟩) = 0) := by
  have t : tL ⟨#[c]⟩ = [c] := rfl
  refine ⟨fun d hd => ?_, rfl, ?_, fun n => ?_⟩
  · rw [t] at hd
    have : d = c := by simpa using hd
    omega
  · rw [t, cnt_cons, cnt_nil]
    split <;> decide
  · rw [t, cnt_cons, cnt_nil, if_neg (fun z => n z)]
    rfl
/-- what comes out -/
def Bent (p q : Str) : Prop := q.length ≤ 2 * p.length + 8 ∧ Asc q ∧ cnt 32 (tL q) ≤ cnt 32 (tL p) + 1
/-- words of a text -/
structure Words (p : Str) (ws : List Str) : Prop where
  one : 1 ≤ ws.length
  num : (ws.length : Int) = 1 + cnt 32 (tL p)
  free : ∀ x, x ∈ ws → 32 ∉ tL x
  asc : ∀ x, x ∈ ws → Asc x
  len : tot ws + ws.length ≤ p.length + 1
theorem words_of_split {p : Str} (hp : Asc p) : Words p (Txt.split p ⟨#[32]⟩) := by
  have f := StrLaws.split_free p 32
  have l := split_len p 32
  have j := StrLaws.join_split p ⟨#[32]⟩
  have jj : joinL ((Txt.split p ⟨#[32]⟩).map tL) = tL p := by
    rw [← join_is]
    unfold Txt.join
    rw [StrLaws.glued_eq_join, j]
  refine ⟨by have := cnt_pos 32 p.cps.toList; omega, l, f, fun x hx c hc => ?_, ?_⟩
  · have mem : ∀ (ws : List Str) (x : Str), x ∈ ws → ∀ c ∈ tL x, c ∈ joinL (ws.map tL) := fun ws => by
      induction ws with
      | nil => intro x hx; cases hx
      | cons y r ih =>
        intro x hx c hc
        match r, ih, hx with
        | [], _, hx =>
          have : x = y := by simpa using hx
          rw [← this]
          exact hc
        | z :: r, ih, hx =>
          show c ∈ tL y ++ 32 :: joinL ((z :: r).map tL)
          rcases List.mem_cons.mp hx with q | q
          · rw [q] at hc
            exact List.mem_append_left _ hc
          · exact List.mem_append_right _ (List.mem_cons_of_mem _ (ih x q c hc))
    have := mem _ x hx c hc
    rw [jj] at this
    exact hp c this
  · have := joinL_ge (Txt.split p ⟨#[32]⟩)
    rw [jj, ← tL_len] at this
    exact this
/-- words joined again, one more at most -/
theorem bent_join {p : Str} {ws vs : List Str} (h : Words p ws) (hf : ∀ x, x ∈ vs → 32 ∉ tL x) (ha : ∀ x, x ∈ vs → Asc x) (hn : vs.length ≤ ws.length + 1) (ht : tot vs ≤ 2 * tot ws + 4) (hc : 0 ≤ cnt 32 (tL p)) : Bent p (Txt.join ⟨#[32]⟩ vs) := by
  have j := join_is vs
  have l := h.len
  have o := h.one
  have nn := h.num
  refine ⟨?_, fun c hc => ?_, ?_⟩
  · rw [tL_len, j]
    have := joinL_len vs
    omega
  · rw [j] at hc
    exact joinL_asc vs ha c hc
  · rw [j]
    rcases joinL_cnt vs hf with z | z
    · omega
    · rw [z]
      show cnt 32 [] ≤ _
      rw [cnt_nil]
      omega
abbrev KB (E : EndsD) (j : Nat) (B : Int) (μ : Sto) (p : Str) : Prop := ∀ q μ', Bent p q → Grow j μ μ' → Jar μ' j (B + 1) → E.rt (.str q) μ'
theorem way_0 {j i2 jj k : Nat} {p : Str} {B : Int} {ws : List Str} {x6 : Option D} {μ : Sto} {R : XD} {E : EndsD} (hj : Jar μ j B) (hB : B ≤ 950000) (hp : Asc p) (hl : p.length ≤ 100000) (hk : k ≤ p.length) (h2 : lstAt μ i2 = some (ws.map D.str)) (hw : Words p ws) (few : ws.length ≤ 200) (hjj : jj < ws.length) (kk : KB E j B μ p) : (wRet (wOp wAdd (wOp wAdd (wSlT (wVar 1) wNoPart (wPart (wVar 5))) (wCall sp_l_of (wCons (wVar 0) (wCons (wCB wListT (wCons (wC (.str " 0123456789/-of\n")) wNil)) wNil)))) (wSlT (wVar 1) (wPart (wVar 5)) wNoPart))) R E [some (.ref j), some (.str p), some (.ref i2), some (.int (jj : Int)), some (.int 0), some (.int (k : Int)), x6] μ := by
  have line : 1000000 ≤ sizeLine := by decide
  obtain ⟨a1, a2, l12, c12, a3, l3, c3⟩ := two_parts hp k
  have cp := cnt_pos 32 (tL p)
  unfold wRet
  walk_at "hd"
  simp only [wListT]
  refine ⟨by omega, by decide +kernel, ?_⟩
  have ex := Ext.app μ [O.lst ((Str.ofString " 0123456789/-of\n").cps.toList.map fun c => D.str ⟨#[c]⟩)]
  refine ⟨j, μ.length, B, _, rfl, hj.ext ex, by omega, lst_new _ _, Nat.ne_of_gt hj.lt, by decide +kernel, by decide +kernel, fun d μ3 hd g3 j3 => ?_⟩
  obtain ⟨c, hc, rfl⟩ := sign_of hd
  have al : ∀ c ∈ (Str.ofString " 0123456789/-of\n").cps.toList, c < 128 := by decide +kernel
  have c128 := al c hc
  obtain ⟨b1, b2, b3, b4⟩ := sign_facts c128
  simp only []
  refine ⟨by omega, by omega, ?_⟩
  have e1 := len_app (cutS p none (some (k : Int))) ⟨#[c]⟩
  have e2 := len_app (cutS p none (some (k : Int)) ++ ⟨#[c]⟩) (cutS p (some (k : Int)) none)
  refine ⟨by omega, kk _ _ ⟨by omega, asc_app (asc_app a1 b1) a2, ?_⟩ (ex.grow g3) j3⟩
  rw [cnt_app, cnt_app]
  omega
theorem way_2 {j i2 jj k : Nat} {p : Str} {B : Int} {ws : List Str} {x6 : Option D} {μ : Sto} {R : XD} {E : EndsD} (hj : Jar μ j B) (hB : B ≤ 950000) (hp : Asc p) (hl : p.length ≤ 100000) (hk : k ≤ p.length) (h2 : lstAt μ i2 = some (ws.map D.str)) (hw : Words p ws) (few : ws.length ≤ 200) (hjj : jj < ws.length) (kk : KB E j B μ p) : (wRet (wOp wAdd (wOp wAdd (wSlT (wVar 1) wNoPart (wPart (wVar 5))) (wCall sp_l_of (wCons (wVar 0) (wCons (wCB wListT (wCons (wC (.str "0123456789")) wNil)) wNil)))) (wSlT (wVar 1) (wPart (wOp wAdd (wVar 5) (wC (.int 1)))) wNoPart))) R E [some (.ref j), some (.str p), some (.ref i2), some (.int (jj : Int)), some (.int 2), some (.int (k : Int)), x6] μ := by
  have line : 1000000 ≤ sizeLine := by decide
  obtain ⟨a1, a2, l12, c12, a3, l3, c3⟩ := two_parts hp k
  have cp := cnt_pos 32 (tL p)
  unfold wRet
  walk_at "hd"
  simp only [wListT]
  refine ⟨by omega, by decide +kernel, ?_⟩
  have ex := Ext.app μ [O.lst ((Str.ofString "0123456789").cps.toList.map fun c => D.str ⟨#[c]⟩)]
  refine ⟨j, μ.length, B, _, rfl, hj.ext ex, by omega, lst_new _ _, Nat.ne_of_gt hj.lt, by decide +kernel, by decide +kernel, fun d μ3 hd g3 j3 => ?_⟩
  obtain ⟨c, hc, rfl⟩ := sign_of hd
  have al : ∀ c ∈ (Str.ofString "0123456789").cps.toList, c < 128 ∧ c ≠ 32 := by decide +kernel
  have c128 := al c hc
  obtain ⟨b1, b2, b3, b4⟩ := sign_facts c128.1
  simp only []
  refine ⟨by omega, by omega, ?_⟩
  have e1 := len_app (cutS p none (some (k : Int))) ⟨#[c]⟩
  have e2 := len_app (cutS p none (some (k : Int)) ++ ⟨#[c]⟩) (cutS p (some ((k : Int) + 1)) none)
  refine ⟨by omega, kk _ _ ⟨by omega, asc_app (asc_app a1 b1) a3, ?_⟩ (ex.grow g3) j3⟩
  rw [cnt_app, cnt_app]
  have := b4 c128.2
  omega
theorem way_1 {j i2 jj k : Nat} {p : Str} {B : Int} {ws : List Str} {x6 : Option D} {μ : Sto} {R : XD} {E : EndsD} (hj : Jar μ j B) (hB : B ≤ 950000) (hp : Asc p) (hl : p.length ≤ 100000) (hk : k ≤ p.length) (h2 : lstAt μ i2 = some (ws.map D.str)) (hw : Words p ws) (few : ws.length ≤ 200) (hjj : jj < ws.length) (kk : KB E j B μ p) : (wRet (wOp wAdd (wSlT (wVar 1) wNoPart (wPart (wVar 5))) (wSlT (wVar 1) (wPart (wOp wAdd (wVar 5) (wC (.int 1)))) wNoPart))) R E [some (.ref j), some (.str p), some (.ref i2), some (.int (jj : Int)), some (.int 1), some (.int (k : Int)), x6] μ := by
  have line : 1000000 ≤ sizeLine := by decide
  obtain ⟨a1, a2, l12, c12, a3, l3, c3⟩ := two_parts hp k
  have cp := cnt_pos 32 (tL p)
  unfold wRet
  walk_at "hd"
  have e1 := len_app (cutS p none (some (k : Int))) (cutS p (some ((k : Int) + 1)) none)
  refine ⟨by omega, by omega, by omega, kk _ _ ⟨by omega, asc_app a1 a3, ?_⟩ (Grow.refl _ _) (hj.mono (by omega))⟩
  rw [cnt_app]
  omega
theorem way_3 {j i2 jj k : Nat} {p : Str} {B : Int} {ws : List Str} {x6 : Option D} {μ : Sto} {R : XD} {E : EndsD} (hj : Jar μ j B) (hB : B ≤ 950000) (hp : Asc p) (hl : p.length ≤ 100000) (hk : k ≤ p.length) (h2 : lstAt μ i2 = some (ws.map D.str)) (hw : Words p ws) (few : ws.length ≤ 200) (hjj : jj < ws.length) (kk : KB E j B μ p) : (wRet (wJoinT (wC (.str " ")) (wOp wAdd (wSlL (wVar 2) wNoPart (wPart (wVar 3))) (wSlL (wVar 2) (wPart (wOp wAdd (wVar 3) (wC (.int 1)))) wNoPart)))) R E [some (.ref j), some (.str p), some (.ref i2), some (.int (jj : Int)), some (.int 3), some (.int (k : Int)), x6] μ := by
  have t1 : HD.cutD (ws.map D.str) none (some (jj : Int)) = (ws.take jj).map D.str := by rw [(cutD_to _ _).1, List.map_take]
  have t2 : HD.cutD (ws.map D.str) (some (jj : Int)) none = (ws.drop jj).map D.str := by rw [(cutD_to _ _).2, List.map_drop]
  have t3 : HD.cutD (ws.map D.str) (some ((jj : Int) + 1)) none = (ws.drop (jj + 1)).map D.str := by
    have := (cutD_to (ws.map D.str) (jj + 1)).2
    rw [List.map_drop]
    exact this
  have t4 : HD.cutD (ws.map D.str) none (some ((jj : Int) + 1)) = (ws.take (jj + 1)).map D.str := by
    have := (cutD_to (ws.map D.str) (jj + 1)).1
    rw [List.map_take]
    exact this
  have line : 1000000 ≤ sizeLine := by decide
  have cp := cnt_pos 32 (tL p)
  have wl := hw.len
  have q1 := tot_take ws jj
  have q2 := tot_drop ws jj
  have q3 := tot_take ws (jj + 1)
  have ltk : (ws.take jj).length ≤ ws.length := by rw [List.length_take]; omega
  have ltk1 : (ws.take (jj + 1)).length = jj + 1 := by rw [List.length_take]; omega
  have ltk0 : (ws.take jj).length = jj := by rw [List.length_take]; omega
  have ldr : (ws.drop jj).length = ws.length - jj := List.length_drop ..
  have ldr1 : (ws.drop (jj + 1)).length = ws.length - (jj + 1) := List.length_drop ..
  have inT : ∀ n x, x ∈ ws.take n → x ∈ ws := fun n x h => List.mem_of_mem_take h
  have inD : ∀ n x, x ∈ ws.drop n → x ∈ ws := fun n x h => List.mem_of_mem_drop h
  unfold wRet
  simp only [wJoinT]
  walk_at "hd"
  have e1 := Ext.app μ [O.lst ((ws.take jj).map D.str)]
  have e2 := Ext.app (μ ++ [O.lst ((ws.take jj).map D.str)]) [O.lst ((ws.drop (jj + 1)).map D.str)]
  have e3 := Ext.app (μ ++ [O.lst ((ws.take jj).map D.str)] ++ [O.lst ((ws.drop (jj + 1)).map D.str)]) [O.lst ((ws.take jj).map D.str ++ (ws.drop (jj + 1)).map D.str)]
  refine ⟨_, h2, ?_⟩
  rw [t1]
  refine ⟨_, e1.lst h2, ?_⟩
  rw [t3]
  refine ⟨_, _, e2.lst (lst_new _ _), lst_new _ _, by rw [List.length_map, List.length_map]; omega, ?_⟩
  refine ⟨ws.take jj ++ ws.drop (jj + 1), ?_, ?_, kk _ _ (bent_join hw ?_ ?_ ?_ ?_ cp) (((Grow.refl j μ).ext (e1.trans e2)).ext e3) ((hj.mono (by omega)).ext ((e1.trans e2).trans e3))⟩
  · rw [List.map_append]
    exact lst_new _ _
  · show tot (ws.take jj ++ ws.drop (jj + 1)) + (ws.take jj ++ ws.drop (jj + 1)).length * 1 ≤ 16777216
    rw [tot_app, List.length_append]
    omega
  · exact fun x hx => (List.mem_append.mp hx).elim (fun h => hw.free x (inT _ x h)) fun h => hw.free x (inD _ x h)
  · exact fun x hx => (List.mem_append.mp hx).elim (fun h => hw.asc x (inT _ x h)) fun h => hw.asc x (inD _ x h)
  · rw [List.length_append]
    omega
  · rw [tot_app]
    omega
theorem way_5 {j i2 jj k : Nat} {p : Str} {B : Int} {ws : List Str} {x6 : Option D} {μ : Sto} {R : XD} {E : EndsD} (hj : Jar μ j B) (hB : B ≤ 950000) (hp : Asc p) (hl : p.length ≤ 100000) (hk : k ≤ p.length) (h2 : lstAt μ i2 = some (ws.map D.str)) (hw : Words p ws) (few : ws.length ≤ 200) (hjj : jj < ws.length) (kk : KB E j B μ p) : (wRet (wJoinT (wC (.str " ")) (wOp wAdd (wSlL (wVar 2) wNoPart (wPart (wOp wAdd (wVar 3) (wC (.int 1))))) (wSlL (wVar 2) (wPart (wVar 3)) wNoPart)))) R E [some (.ref j), some (.str p), some (.ref i2), some (.int (jj : Int)), some (.int (5 : Int)), some (.int (k : Int)), x6] μ := by
  have t1 : HD.cutD (ws.map D.str) none (some (jj : Int)) = (ws.take jj).map D.str := by rw [(cutD_to _ _).1, List.map_take]
  have t2 : HD.cutD (ws.map D.str) (some (jj : Int)) none = (ws.drop jj).map D.str := by rw [(cutD_to _ _).2, List.map_drop]
  have t3 : HD.cutD (ws.map D.str) (some ((jj : Int) + 1)) none = (ws.drop (jj + 1)).map D.str := by
    have := (cutD_to (ws.map D.str) (jj + 1)).2
    rw [List.map_drop]
    exact this
  have t4 : HD.cutD (ws.map D.str) none (some ((jj : Int) + 1)) = (ws.take (jj + 1)).map D.str := by
    have := (cutD_to (ws.map D.str) (jj + 1)).1
    rw [List.map_take]
    exact this
  have line : 1000000 ≤ sizeLine := by decide
  have cp := cnt_pos 32 (tL p)
  have wl := hw.len
  have q1 := tot_take ws jj
  have q2 := tot_drop ws jj
  have q3 := tot_take ws (jj + 1)
  have ltk : (ws.take jj).length ≤ ws.length := by rw [List.length_take]; omega
  have ltk1 : (ws.take (jj + 1)).length = jj + 1 := by rw [List.length_take]; omega
  have ltk0 : (ws.take jj).length = jj := by rw [List.length_take]; omega
  have ldr : (ws.drop jj).length = ws.length - jj := List.length_drop ..
  have ldr1 : (ws.drop (jj + 1)).length = ws.length - (jj + 1) := List.length_drop ..
  have inT : ∀ n x, x ∈ ws.take n → x ∈ ws := fun n x h => List.mem_of_mem_take h
  have inD : ∀ n x, x ∈ ws.drop n → x ∈ ws := fun n x h => List.mem_of_mem_drop h
  unfold wRet
  simp only [wJoinT]
  walk_at "hd"
  have e1 := Ext.app μ [O.lst ((ws.take (jj + 1)).map D.str)]
  have e2 := Ext.app (μ ++ [O.lst ((ws.take (jj + 1)).map D.str)]) [O.lst ((ws.drop jj).map D.str)]
  have e3 := Ext.app (μ ++ [O.lst ((ws.take (jj + 1)).map D.str)] ++ [O.lst ((ws.drop jj).map D.str)]) [O.lst ((ws.take (jj + 1)).map D.str ++ (ws.drop jj).map D.str)]
  refine ⟨_, h2, ?_⟩
  rw [t4]
  refine ⟨_, e1.lst h2, ?_⟩
  rw [t2]
  refine ⟨_, _, e2.lst (lst_new _ _), lst_new _ _, by rw [List.length_map, List.length_map]; omega, ?_⟩
  refine ⟨ws.take (jj + 1) ++ ws.drop jj, ?_, ?_, kk _ _ (bent_join hw ?_ ?_ ?_ ?_ cp) (((Grow.refl j μ).ext (e1.trans e2)).ext e3) ((hj.mono (by omega)).ext ((e1.trans e2).trans e3))⟩
  · rw [List.map_append]
    exact lst_new _ _
  · show tot (ws.take (jj + 1) ++ ws.drop jj) + (ws.take (jj + 1) ++ ws.drop jj).length * 1 ≤ 16777216
    rw [tot_app, List.length_append]
    omega
  · exact fun x hx => (List.mem_append.mp hx).elim (fun h => hw.free x (inT _ x h)) fun h => hw.free x (inD _ x h)
  · exact fun x hx => (List.mem_append.mp hx).elim (fun h => hw.asc x (inT _ x h)) fun h => hw.asc x (inD _ x h)
  · rw [List.length_append]
    omega
  · rw [tot_app]
    omega
theorem way_4 {j i2 jj k : Nat} {p : Str} {B : Int} {ws : List Str} {x6 : Option D} {μ : Sto} {R : XD} {E : EndsD} (hj : Jar μ j B) (hB : B ≤ 950000) (hp : Asc p) (hl : p.length ≤ 100000) (hk : k ≤ p.length) (h2 : lstAt μ i2 = some (ws.map D.str)) (hw : Words p ws) (few : ws.length ≤ 200) (hjj : jj < ws.length) (kk : KB E j B μ p) : (wSeq (wAsg (wCall sp_l_of (wCons (wVar 0) (wCons (wLst (wCons (wC (.str "1")) (wCons (wC (.str "2")) (wCons (wC (.str "6")) (wCons (wC (.str "of")) (wCons (wC (.str "4")) (wCons (wC (.str "8/27")) (wCons (wC (.str "2/3")) (wCons (wC (.str "60")) (wCons (wC (.str "61")) (wCons (wC (.str "")) wNil))))))))))) wNil))) (wgName 6))
  (wRet (wJoinT (wC (.str " ")) (wOp wAdd (wOp wAdd (wSlL (wVar 2) wNoPart (wPart (wVar 3))) (wLst (wCons (wVar 6) wNil))) (wSlL (wVar 2) (wPart (wOp wAdd (wVar 3) (wC (.int 1)))) wNoPart))))) R E [some (.ref j), some (.str p), some (.ref i2), some (.int (jj : Int)), some (.int 4), some (.int (k : Int)), x6] μ := by
  have t1 : HD.cutD (ws.map D.str) none (some (jj : Int)) = (ws.take jj).map D.str := by rw [(cutD_to _ _).1, List.map_take]
  have t2 : HD.cutD (ws.map D.str) (some (jj : Int)) none = (ws.drop jj).map D.str := by rw [(cutD_to _ _).2, List.map_drop]
  have t3 : HD.cutD (ws.map D.str) (some ((jj : Int) + 1)) none = (ws.drop (jj + 1)).map D.str := by
    have := (cutD_to (ws.map D.str) (jj + 1)).2
    rw [List.map_drop]
    exact this
  have t4 : HD.cutD (ws.map D.str) none (some ((jj : Int) + 1)) = (ws.take (jj + 1)).map D.str := by
    have := (cutD_to (ws.map D.str) (jj + 1)).1
    rw [List.map_take]
    exact this
  have line : 1000000 ≤ sizeLine := by decide
  have cp := cnt_pos 32 (tL p)
  have wl := hw.len
  have q1 := tot_take ws jj
  have q2 := tot_drop ws jj
  have q3 := tot_take ws (jj + 1)
  have ltk : (ws.take jj).length ≤ ws.length := by rw [List.length_take]; omega
  have ltk1 : (ws.take (jj + 1)).length = jj + 1 := by rw [List.length_take]; omega
  have ltk0 : (ws.take jj).length = jj := by rw [List.length_take]; omega
  have ldr : (ws.drop jj).length = ws.length - jj := List.length_drop ..
  have ldr1 : (ws.drop (jj + 1)).length = ws.length - (jj + 1) := List.length_drop ..
  have inT : ∀ n x, x ∈ ws.take n → x ∈ ws := fun n x h => List.mem_of_mem_take h
  have inD : ∀ n x, x ∈ ws.drop n → x ∈ ws := fun n x h => List.mem_of_mem_drop h
  have e : (wSeq (wAsg (wCall sp_l_of (wCons (wVar 0) (wCons (wLst (wCons (wC (.str "1")) (wCons (wC (.str "2")) (wCons (wC (.str "6")) (wCons (wC (.str "of")) (wCons (wC (.str "4")) (wCons (wC (.str "8/27")) (wCons (wC (.str "2/3")) (wCons (wC (.str "60")) (wCons (wC (.str "61")) (wCons (wC (.str "")) wNil))))))))))) wNil))) (wgName 6))
  (wRet (wJoinT (wC (.str " ")) (wOp wAdd (wOp wAdd (wSlL (wVar 2) wNoPart (wPart (wVar 3))) (wLst (wCons (wVar 6) wNil))) (wSlL (wVar 2) (wPart (wOp wAdd (wVar 3) (wC (.int 1)))) wNoPart))))) = wSeq _ _ := rfl
  rw [e]
  walk_at "hd"
  refine ⟨by decide, ?_⟩
  have ex := Ext.app μ [O.lst [D.str (Str.ofString "1"), D.str (Str.ofString "2"), D.str (Str.ofString "6"), D.str (Str.ofString "of"), D.str (Str.ofString "4"), D.str (Str.ofString "8/27"), D.str (Str.ofString "2/3"), D.str (Str.ofString "60"), D.str (Str.ofString "61"), D.str (Str.ofString "")]]
  refine ⟨j, μ.length, B, _, rfl, hj.ext ex, by omega, lst_new _ _, Nat.ne_of_gt hj.lt, by simp, by simp, fun d μ3 hd g3 j3 => ?_⟩
  have hd2 : ∃ f : Str, d = .str f ∧ f.length ≤ 4 ∧ Asc f ∧ 32 ∉ tL f := by
    simp only [List.mem_cons, List.not_mem_nil, or_false] at hd
    have mk : ∀ f : Str, f.length ≤ 4 → (tL f).all (fun c => decide (c < 128) && decide (c ≠ 32)) = true → d = .str f → ∃ f : Str, d = .str f ∧ f.length ≤ 4 ∧ Asc f ∧ 32 ∉ tL f := fun f h1 h2 e => by
      rw [List.all_eq_true] at h2
      refine ⟨f, e, h1, fun c hc => ?_, fun z => ?_⟩
      · have := h2 c hc
        rw [Bool.and_eq_true, decide_eq_true_eq] at this
        exact this.1
      · have := h2 32 z
        exact absurd this (by decide)
    rcases hd with h | h | h | h | h | h | h | h | h | h <;> exact mk _ (by decide +kernel) (by decide +kernel) h
  obtain ⟨f, rfl, f4, fa, ff⟩ := hd2
  have nj : i2 ≠ j := fun z => by
    obtain ⟨a, m, c, hh, _⟩ := hj
    rw [z, hh] at h2
    have := Option.some.inj h2
    match ws, this with
    | x :: _, this => cases (List.cons.inj this).1
  have h3 := g3.lst nj (ex.lst h2)
  simp only [wJoinT]
  walk_at "hd"
  have e1 := Ext.app μ3 [O.lst ((ws.take jj).map D.str)]
  have e2 := Ext.app (μ3 ++ [O.lst ((ws.take jj).map D.str)]) [O.lst [D.str f]]
  have e3 := Ext.app (μ3 ++ [O.lst ((ws.take jj).map D.str)] ++ [O.lst [D.str f]]) [O.lst ((ws.take jj).map D.str ++ [D.str f])]
  have e4 := Ext.app (μ3 ++ [O.lst ((ws.take jj).map D.str)] ++ [O.lst [D.str f]] ++ [O.lst ((ws.take jj).map D.str ++ [D.str f])]) [O.lst ((ws.drop (jj + 1)).map D.str)]
  have e5 := Ext.app (μ3 ++ [O.lst ((ws.take jj).map D.str)] ++ [O.lst [D.str f]] ++ [O.lst ((ws.take jj).map D.str ++ [D.str f])] ++ [O.lst ((ws.drop (jj + 1)).map D.str)]) [O.lst ((ws.take jj).map D.str ++ [D.str f] ++ (ws.drop (jj + 1)).map D.str)]
  have e15 := (((e1.trans e2).trans e3).trans e4).trans e5
  refine ⟨_, h3, ?_⟩
  rw [t1]
  refine ⟨by decide, _, _, e2.lst (lst_new _ _), lst_new _ _, by rw [List.length_map, List.length_singleton]; omega, ?_⟩
  refine ⟨_, ((e1.trans e2).trans e3).lst h3, ?_⟩
  rw [t3]
  refine ⟨_, _, e4.lst (lst_new _ _), lst_new _ _, by rw [List.length_append, List.length_map, List.length_map, List.length_singleton]; omega, ?_⟩
  refine ⟨ws.take jj ++ [f] ++ ws.drop (jj + 1), ?_, ?_, kk _ _ (bent_join hw ?_ ?_ ?_ ?_ cp) ((ex.grow g3).ext e15) (j3.ext e15)⟩
  · rw [List.map_append, List.map_append]
    exact lst_new _ _
  · show tot (ws.take jj ++ [f] ++ ws.drop (jj + 1)) + (ws.take jj ++ [f] ++ ws.drop (jj + 1)).length * 1 ≤ 16777216
    rw [tot_app, tot_app, List.length_append, List.length_append, show tot [f] = f.length from by show f.length + 0 = _; omega, List.length_singleton]
    omega
  · intro x hx
    rcases List.mem_append.mp hx with h | h
    · rcases List.mem_append.mp h with h | h
      · exact hw.free x (inT _ x h)
      · have : x = f := by simpa using h
        rw [this]
        exact ff
    · exact hw.free x (inD _ x h)
  · intro x hx
    rcases List.mem_append.mp hx with h | h
    · rcases List.mem_append.mp h with h | h
      · exact hw.asc x (inT _ x h)
      · have : x = f := by simpa using h
        rw [this]
        exact fa
    · exact hw.asc x (inD _ x h)
  · rw [List.length_append, List.length_append, List.length_singleton]
    omega
  · rw [tot_app, tot_app, show tot [f] = f.length from by show f.length + 0 = _; omega]
    omega
theorem bt_no {way m : Int} {A rst : WS} {R : XD} {E : EndsD} {x0 x1 x2 x3 x5 x6 : Option D} {μ : Sto} (h : way ≠ m) (k : rst R E [x0, x1, x2, x3, some (.int way), x5, x6] μ) : wSeq (wIfS (wB (wOp wEq (wVar 4) (wC (.int m)))) A wNext) rst R E [x0, x1, x2, x3, some (.int way), x5, x6] μ := by
  unfold wSeq wIfS
  walk_at "hd"
  rw [decide_eq_false h]
  exact k
def T_l_bent_text : WS :=
  (wSeq (wIfS (wB (wOp wEq (wVar 4) (wC (.int 0)))) (wRet (wOp wAdd (wOp wAdd (wSlT (wVar 1) wNoPart (wPart (wVar 5))) (wCall sp_l_of (wCons (wVar 0) (wCons (wCB wListT (wCons (wC (.str " 0123456789/-of\n")) wNil)) wNil)))) (wSlT (wVar 1) (wPart (wVar 5)) wNoPart))) wNext)
  (wSeq (wIfS (wB (wOp wEq (wVar 4) (wC (.int 1)))) (wRet (wOp wAdd (wSlT (wVar 1) wNoPart (wPart (wVar 5))) (wSlT (wVar 1) (wPart (wOp wAdd (wVar 5) (wC (.int 1)))) wNoPart))) wNext)
  (wSeq (wIfS (wB (wOp wEq (wVar 4) (wC (.int 2)))) (wRet (wOp wAdd (wOp wAdd (wSlT (wVar 1) wNoPart (wPart (wVar 5))) (wCall sp_l_of (wCons (wVar 0) (wCons (wCB wListT (wCons (wC (.str "0123456789")) wNil)) wNil)))) (wSlT (wVar 1) (wPart (wOp wAdd (wVar 5) (wC (.int 1)))) wNoPart))) wNext)
  (wSeq (wIfS (wB (wOp wEq (wVar 4) (wC (.int 3)))) (wRet (wJoinT (wC (.str " ")) (wOp wAdd (wSlL (wVar 2) wNoPart (wPart (wVar 3))) (wSlL (wVar 2) (wPart (wOp wAdd (wVar 3) (wC (.int 1)))) wNoPart)))) wNext)
  (wSeq (wIfS (wB (wOp wEq (wVar 4) (wC (.int 4)))) (wSeq (wAsg (wCall sp_l_of (wCons (wVar 0) (wCons (wLst (wCons (wC (.str "1")) (wCons (wC (.str "2")) (wCons (wC (.str "6")) (wCons (wC (.str "of")) (wCons (wC (.str "4")) (wCons (wC (.str "8/27")) (wCons (wC (.str "2/3")) (wCons (wC (.str "60")) (wCons (wC (.str "61")) (wCons (wC (.str "")) wNil))))))))))) wNil))) (wgName 6))
  (wRet (wJoinT (wC (.str " ")) (wOp wAdd (wOp wAdd (wSlL (wVar 2) wNoPart (wPart (wVar 3))) (wLst (wCons (wVar 6) wNil))) (wSlL (wVar 2) (wPart (wOp wAdd (wVar 3) (wC (.int 1)))) wNoPart))))) wNext)
  (wRet (wJoinT (wC (.str " ")) (wOp wAdd (wSlL (wVar 2) wNoPart (wPart (wOp wAdd (wVar 3) (wC (.int 1))))) (wSlL (wVar 2) (wPart (wVar 3)) wNoPart)))))))))
theorem rest_l_bent_text {way : Int} (w0 : 0 ≤ way) (w6 : way < 6) {j i2 jj k : Nat} {p : Str} {B : Int} {ws : List Str} {x6 : Option D} {μ : Sto} {R : XD} {E : EndsD} (hj : Jar μ j B) (hB : B ≤ 950000) (hp : Asc p) (hl : p.length ≤ 100000) (hk : k ≤ p.length) (h2 : lstAt μ i2 = some (ws.map D.str)) (hw : Words p ws) (few : ws.length ≤ 200) (hjj : jj < ws.length) (kk : KB E j B μ p) : T_l_bent_text R E [some (.ref j), some (.str p), some (.ref i2), some (.int (jj : Int)), some (.int way), some (.int (k : Int)), x6] μ := by
  unfold T_l_bent_text
  by_cases z0 : way = 0
  · subst z0
    exact way_0 hj hB hp hl hk h2 hw few hjj kk
  refine bt_no (by omega) ?_
  by_cases z1 : way = 1
  · subst z1
    exact way_1 hj hB hp hl hk h2 hw few hjj kk
  refine bt_no (by omega) ?_
  by_cases z2 : way = 2
  · subst z2
    exact way_2 hj hB hp hl hk h2 hw few hjj kk
  refine bt_no (by omega) ?_
  by_cases z3 : way = 3
  · subst z3
    exact way_3 hj hB hp hl hk h2 hw few hjj kk
  refine bt_no (by omega) ?_
  by_cases z4 : way = 4
  · subst z4
    exact way_4 hj hB hp hl hk h2 hw few hjj kk
  refine bt_no (by omega) ?_
  have z5 : way = 5 := by omega
  subst z5
  exact way_5 hj hB hp hl hk h2 hw few hjj kk
def sp_l_bent_text : SpD := fun ds μ P _ => ∃ (j : Nat) (B : Int) (p : Str), ds = [.ref j, .str p] ∧ Jar μ j B ∧ B ≤ 900000 ∧ p.length ≤ 100000 ∧ Asc p ∧ cnt 32 (tL p) ≤ 100 ∧ ∀ q μ', Bent p q → Grow j μ μ' → Jar μ' j (B + 5) → P (.str q) μ'
theorem len_l_bent_text : ∀ ds μ Pd R, sp_l_bent_text ds μ Pd R → ds.length = 2 := fun ds μ Pd R ⟨i, _, _, e, _⟩ => by rw [e] <;> rfl
def W_l_bent_text : WS :=
  (wSeq (wPar 4 5 (wCons (wCall sp_l_tap (wCons (wVar 0) (wCons (wC (.int 6)) wNil))) (wCons (wCall sp_l_tap (wCons (wVar 0) (wCons (wOp wAdd (wCB wLen (wCons (wVar 1) wNil)) (wC (.int 1))) wNil))) wNil)))
  (wSeq (wAsg (wSplitT (wVar 1) (wC (.str " "))) (wgName 2))
  (wSeq (wAsg (wCall sp_l_tap (wCons (wVar 0) (wCons (wCB wLen (wCons (wVar 2) wNil)) wNil))) (wgName 3))
  (wSeq (wIfS (wB (wOp wEq (wVar 4) (wC (.int 0)))) (wRet (wOp wAdd (wOp wAdd (wSlT (wVar 1) wNoPart (wPart (wVar 5))) (wCall sp_l_of (wCons (wVar 0) (wCons (wCB wListT (wCons (wC (.str " 0123456789/-of\n")) wNil)) wNil)))) (wSlT (wVar 1) (wPart (wVar 5)) wNoPart))) wNext)
  (wSeq (wIfS (wB (wOp wEq (wVar 4) (wC (.int 1)))) (wRet (wOp wAdd (wSlT (wVar 1) wNoPart (wPart (wVar 5))) (wSlT (wVar 1) (wPart (wOp wAdd (wVar 5) (wC (.int 1)))) wNoPart))) wNext)
  (wSeq (wIfS (wB (wOp wEq (wVar 4) (wC (.int 2)))) (wRet (wOp wAdd (wOp wAdd (wSlT (wVar 1) wNoPart (wPart (wVar 5))) (wCall sp_l_of (wCons (wVar 0) (wCons (wCB wListT (wCons (wC (.str "0123456789")) wNil)) wNil)))) (wSlT (wVar 1) (wPart (wOp wAdd (wVar 5) (wC (.int 1)))) wNoPart))) wNext)
  (wSeq (wIfS (wB (wOp wEq (wVar 4) (wC (.int 3)))) (wRet (wJoinT (wC (.str " ")) (wOp wAdd (wSlL (wVar 2) wNoPart (wPart (wVar 3))) (wSlL (wVar 2) (wPart (wOp wAdd (wVar 3) (wC (.int 1)))) wNoPart)))) wNext)
  (wSeq (wIfS (wB (wOp wEq (wVar 4) (wC (.int 4)))) (wSeq (wAsg (wCall sp_l_of (wCons (wVar 0) (wCons (wLst (wCons (wC (.str "1")) (wCons (wC (.str "2")) (wCons (wC (.str "6")) (wCons (wC (.str "of")) (wCons (wC (.str "4")) (wCons (wC (.str "8/27")) (wCons (wC (.str "2/3")) (wCons (wC (.str "60")) (wCons (wC (.str "61")) (wCons (wC (.str "")) wNil))))))))))) wNil))) (wgName 6))
  (wRet (wJoinT (wC (.str " ")) (wOp wAdd (wOp wAdd (wSlL (wVar 2) wNoPart (wPart (wVar 3))) (wLst (wCons (wVar 6) wNil))) (wSlL (wVar 2) (wPart (wOp wAdd (wVar 3) (wC (.int 1)))) wNoPart))))) wNext)
  (wRet (wJoinT (wC (.str " ")) (wOp wAdd (wSlL (wVar 2) wNoPart (wPart (wOp wAdd (wVar 3) (wC (.int 1))))) (wSlL (wVar 2) (wPart (wVar 3)) wNoPart))))))))))))
theorem vc_l_bent_text : ∀ ds μ Pd R, sp_l_bent_text ds μ Pd R → W_l_bent_text (fun _ C fs μ' => R C fs μ') { nx := fun _ μ' => Pd .non μ', rt := Pd } (startD 7 ds) μ := by
  intro ds μ Pd R h
  obtain ⟨j, B, p, rfl, hj, hB, hl, hp, c100, k⟩ := h
  have line : 1000000 ≤ sizeLine := by decide
  have e : W_l_bent_text = wSeq _ (wSeq _ (wSeq _ T_l_bent_text)) := rfl
  rw [e]
  walk_at "hd"
  refine ⟨j, 6, B, rfl, hj, by omega, by decide, by decide, fun way μ1 w0 w6 g1 j1 => ?_⟩
  refine ⟨by omega, j, _, _, rfl, j1, by omega, by omega, by omega, fun k5 μ2 k0 k6 g2 j2 => ?_⟩
  obtain ⟨kn, rfl⟩ := Int.eq_ofNat_of_zero_le k0
  simp only [wSplitT]
  walk_at "hd"
  refine ⟨by decide +kernel, by omega, ?_⟩
  rw [sp_is]
  have hw := words_of_split hp
  have x3 := Ext.app μ2 [O.lst ((Txt.split p ⟨#[32]⟩).map D.str)]
  have h2 := lst_new μ2 ((Txt.split p ⟨#[32]⟩).map D.str)
  generalize Txt.split p ⟨#[32]⟩ = ws at hw x3 h2 ⊢
  generalize μ2.length = i2 at h2 ⊢
  generalize hν : μ2 ++ [O.lst (ws.map D.str)] = ν at x3 h2 ⊢
  have num := hw.num
  have one := hw.one
  refine ⟨ws.length, by rw [h2]; simp, ?_⟩
  refine ⟨j, _, _, rfl, j2.ext x3, by omega, by omega, by omega, fun jj μ3 j0 j6 g3 j3 => ?_⟩
  obtain ⟨jn, rfl⟩ := Int.eq_ofNat_of_zero_le j0
  have nj : i2 ≠ j := fun z => by
    obtain ⟨a, m, c, hh, _⟩ := j2.ext x3
    rw [z, hh] at h2
    have := Option.some.inj h2
    match ws, this with
    | x :: _, this => cases (List.cons.inj this).1
  have gg := ((g1.trans g2).ext x3).trans g3
  refine rest_l_bent_text w0 w6 j3 (by omega) hp hl (by omega) (g3.lst nj h2) hw (by omega) (by omega) fun q μ' b g jq => ?_
  exact k q μ' b (gg.trans g) (jq.mono (by omega))

/-! whether two roots are equal -/
def sp_Root_eq (Z : Cs) : SpD := fun ds μ P _ => ∃ (k n a b j m c d : Nat), ds = [.ref k, .ref j] ∧ cell μ k = some (rootO Z.c_Root n a b) ∧ cell μ j = some (rootO Z.c_Root m c d) ∧ P (.bl (decide (n = m) && (decide (a = c) && decide (b = d)))) μ
theorem len_Root_eq (Z : Cs) : ∀ ds μ Pd R, sp_Root_eq Z ds μ Pd R → ds.length = 2 := fun ds μ Pd R ⟨i, l, m, n, _, _, _, _, e, _⟩ => by rw [e] <;> rfl
def W_Root_eq (Z : Cs) : WS :=
  (wRet (wAndV (wCB (wIsiV Z.c_Root) (wCons (wVar 1) (wCons (wC (.adr Z.c_Root)) wNil))) (wAndV (wOp wEq (wFld Z.c_Root "_degree" (wVar 0)) (wFld Z.c_Root "_degree" (wVar 1))) (wOp wEq (wFld Z.c_Root "_number" (wVar 0)) (wFld Z.c_Root "_number" (wVar 1))))))
theorem vc_Root_eq (Z : Cs) : ∀ ds μ Pd R, sp_Root_eq Z ds μ Pd R → W_Root_eq Z (fun _ C fs μ' => R C fs μ') { nx := fun _ μ' => Pd .non μ', rt := Pd } (startD 2 ds) μ := by
  intro ds μ Pd R h
  obtain ⟨k, n, a, b, j, m, c, d, rfl, h1, h2, kk⟩ := h
  unfold W_Root_eq
  walk_at "hd"
  simp only [wIsiV]
  refine ⟨trivial, .inr ⟨j, _, rfl, h2, ?_⟩⟩
  refine fld_deg rfl h1 (fld_deg rfl h2 ?_)
  simp only []
  cases c0 : decide ((n : Int) = (m : Int)) with
  | false =>
    have c0' : ¬ n = m := fun z => of_decide_eq_false c0 (by omega)
    rw [decide_eq_false c0', Bool.false_and] at kk
    exact kk
  | true =>
    have c0' : n = m := by
      have := of_decide_eq_true c0
      omega
    rw [decide_eq_true c0', Bool.true_and] at kk
    simp only []
    refine fld_num rfl h1 (fld_num rfl h2 ?_)
    refine ⟨_, _, py_pair _ _, py_pair _ _, shaped_pair _ _, shaped_pair _ _, ?_⟩
    rw [eqv_pair]
    have e1 : decide ((a : Int) = (c : Int)) = decide (a = c) := by rw [decide_eq_decide]; omega
    have e2 : decide ((b : Int) = (d : Int)) = decide (b = d) := by rw [decide_eq_decide]; omega
    rw [e1, e2]
    exact kk

/-! texts of drawn roots, bent -/
theorem wseq_r {a b : WS} {R : XD} {E : EndsD} {δ : En} {μ : Sto} (h : a R { E with nx := fun δ' μ' => b R E δ' μ' } δ μ) : wSeq a b R E δ μ := h
abbrev XR := Addr → List (Str × D) → Sto → Prop
def errL (w s : Str) : List D := [.str "error", .str w, .str s]
theorem tell_txt (Z : Cs) {p : Addr} {q : Str} {μ : Sto} {δ : En} {R : XD} {P : D → Sto → Prop} {j : Nat} {we : WE} (hj : cell μ j = some (.tab p q)) {x : D} {xp : PyData} (hx : ShowsX μ x xp)
    (hact : ∀ (R' : XR) (P' : D → Sto → Prop), (∀ μ', Ext μ μ' → R' Z.c_InvalidText [("given", x)] μ') → we (fun _ C fs μ' => R' C fs μ') δ μ P')
    (k : ∀ i μ', Ext μ μ' → lstAt μ' i = some (errL "InvalidText" xp.shown) → P (.ref i) μ') : wLam p q 3 (W_l_tell Z) we R δ μ P := by
  unfold wLam
  refine ⟨⟨j, hj⟩, fun fa ca σ => ?_⟩
  unfold W_l_tell
  walk_at "hd"
  simp only [wTryAs3]
  walk_at "hd"
  simp only [wAct, slot, slotsOf_of]
  refine ⟨trivial, trivial, trivial, trivial, ?_⟩
  refine hact (fun C fs μ' => _) _ fun μ1 e1 => ?_
  refine ⟨true, Z.xm0_InvalidText, fun _ a' dx hd => ?_, fun z => Bool.noConfusion z⟩
  cases dx with
  | none => exact absurd (hd rfl) (by simp)
  | some dx => exact ⟨dx, x, xp, rfl, rfl, rfl, ⟨fun μ' e => hx.1 μ' (e1.trans e), hx.2⟩, fun i μ2 e2 h2 => k i μ2 (e1.trans e2) h2⟩
theorem tell_vs (Z : Cs) {p : Addr} {q : Str} {μ : Sto} {δ : En} {R : XD} {P : D → Sto → Prop} {j : Nat} {we : WE} (hj : cell μ j = some (.tab p q)) {Q : D → Sto → Prop}
    (hact : ∀ (R' : XR) (P' : D → Sto → Prop), (∀ d μ', Q d μ' → Ext μ μ' → P' d μ') → we (fun _ C fs μ' => R' C fs μ') δ μ P')
    (k : ∀ i d μ1 μ', Q d μ1 → Ext μ μ1 → Ext μ1 μ' → lstAt μ' i = some [.str "told", d] → P (.ref i) μ') : wLam p q 3 (W_l_tell Z) we R δ μ P := by
  unfold wLam
  refine ⟨⟨j, hj⟩, fun fa ca σ => ?_⟩
  unfold W_l_tell
  walk_at "hd"
  simp only [wTryAs3]
  walk_at "hd"
  simp only [wAct, slot, slotsOf_of]
  refine ⟨trivial, trivial, trivial, trivial, ?_⟩
  refine hact (fun C fs μ' => _) _ fun d μ1 hq e1 => ?_
  try simp only []
  exact ⟨by decide, k _ d _ _ hq e1 (Ext.app _ _) (lst_new _ _)⟩
def errP (w s : Str) : PyData := .list [.str "error", .str w, .str s]
theorem err_py {μ : Sto} {i : Nat} {w s : Str} (h : lstAt μ i = some (errL w s)) : Py μ (.ref i) (errP w s) := .ref h (.cons (.str _) (.cons (.str _) (.cons (.str _) .nil)))
theorem err_sh {w s : Str} (hw : PyData.strOk w = true) (hs : PyData.strOk s = true) : SeqAt.shaped (errP w s) = true := sh_strs3 _ _ _ (ok_ofString _) hw hs
theorem textR_same {n a b n' a' b' : Nat} (h : LeastForm n a b) (g : LeastForm n' a' b') (e : textR n a b = textR n' a' b') : n = n' ∧ a = a' ∧ b = b' := by
  have p1 := textR_part n a b
  have p2 := textR_part n' a' b'
  rw [e, p2] at p1
  have e1 : ofC (numC n') = ofC (numC n) := congrArg Prod.fst p1
  have e2 : ofC (textN (a' : Int) (b' : Int)) = ofC (textN (a : Int) (b : Int)) := congrArg (fun x => x.2.2) p1
  have f1 : numC n' = numC n := by rw [← tL_ofC (numC n'), e1, tL_ofC]
  have f2 : textN (a' : Int) (b' : Int) = textN (a : Int) (b : Int) := by rw [← tL_ofC (textN _ _), e2, tL_ofC]
  obtain ⟨q1, q2⟩ := text_one g.isn h.isn f2
  refine ⟨?_, by omega, by omega⟩
  rw [← numC_val n, ← f1, numC_val]
/-- a text that is shown -/
theorem shows_txt {μ : Sto} {p : Str} (h : ∀ c ∈ tL p, c < 128) (hl : p.length ≤ 100000) : ShowsX μ (.str p) (.str p) := by
  refine ⟨fun μ' _ => .inl (.str p), rfl, by simp [PyData.depth], ?_⟩
  have := StrLaws.reprText_len p fun c hc => by
    have := h c hc
    omega
  have big : 2000000 ≤ sizeLine := by decide
  show (reprText p).length ≤ _
  omega
theorem ok_txt {p : Str} (h : ∀ c ∈ tL p, c < 128) : PyData.strOk (PyData.str p).shown = true := ok_repr h
/-- a value that is refused by read -/
def NoRead (μ : Sto) (d : D) : Prop := (∃ p : Str, d = .str p ∧ p.length ≤ 100000 ∧ ¬ IsRT p) ∨ NoText μ d
theorem NoRead.ext {μ μ' : Sto} {d : D} (e : Ext μ μ') (h : NoRead μ d) : NoRead μ' d := h.elim .inl fun h => .inr (h.ext e)
theorem read_bad {Z : Cs} {μ : Sto} {d : D} {R' : XR} {P' : D → Sto → Prop} (h : NoRead μ d) (hr : ∀ μ', Ext μ μ' → R' Z.c_InvalidText [("given", d)] μ') : sp_Root_read Z [d] μ P' R' := by
  refine ⟨d, rfl, ?_⟩
  rcases h with ⟨p, rfl, hl, no⟩ | h
  · exact .inl ⟨p, rfl, hl, fun n a b k μ' lf e _ _ => absurd ⟨n, a, b, lf, e⟩ no, fun _ μ' e => hr μ' e⟩
  · exact .inr ⟨h, hr _ (Ext.refl _)⟩
theorem read_good {Z : Cs} {μ : Sto} {p : Str} {R' : XR} {P' : D → Sto → Prop} (h : IsRT p) (hl : p.length ≤ 100000) (hp : ∀ n a b k μ', LeastForm n a b → p = textR n a b → Ext μ μ' → cell μ' k = some (rootO Z.c_Root n a b) → P' (.ref k) μ') : sp_Root_read Z [.str p] μ P' R' := by
  obtain ⟨n, a, b, lf, e⟩ := h
  exact ⟨_, rfl, .inl ⟨p, rfl, hl, hp, fun no => absurd e (no n a b lf)⟩⟩
/-- what was told -/
def ToldAt (Z : Cs) (μ : Sto) (i : Nat) (p : Str) : Prop := (∃ n a b k, LeastForm n a b ∧ p = textR n a b ∧ lstAt μ i = some [.str "told", .ref k] ∧ cell μ k = some (rootO Z.c_Root n a b)) ∨ (¬ IsRT p ∧ lstAt μ i = some (errL "InvalidText" (PyData.str p).shown))
theorem rr_a (Z : Cs) {rst : WS} {j t : Nat} {p : Str} {R : XD} {E : EndsD} {μ : Sto} {x1 x3 x4 x5 : Option D} (ht : cell μ t = some (.tab Z.p_l_right q_l_right)) (hp : ∀ c ∈ tL p, c < 128) (hl : p.length ≤ 100000) (k : ∀ i μ', Ext μ μ' → ToldAt Z μ' i p → rst R E [some (.ref j), x1, some (.str p), x3, x4, some (.ref i)] μ') : wSeq (wAsg (wLam Z.p_l_right q_l_right 3 (W_l_tell Z) (wSta Z.c_Root (sp_Root_read Z) (wC (.adr Z.c_Root)) (wCons (wVar 2) wNil))) (wgName 5)) rst R E [some (.ref j), x1, some (.str p), x3, x4, x5] μ := by
  refine wseq_r ?_
  unfold wAsg
  by_cases c : IsRT p
  · refine tell_vs Z ht (Q := fun u ν => ∃ n a b kk, u = .ref kk ∧ LeastForm n a b ∧ p = textR n a b ∧ cell ν kk = some (rootO Z.c_Root n a b)) (fun R' P' hh => ?_) fun i u μ1 μ' ⟨n, a, b, kk, eu, lf, e, hc⟩ x1 x2 h => ?_
    · simp only [wSta]
      walk_at "hd"
      refine read_good c hl fun n a b kk μ' lf e x hc => hh _ _ ⟨n, a, b, kk, rfl, lf, e, hc⟩ x
    · subst eu
      exact k i μ' (x1.trans x2) (.inl ⟨n, a, b, kk, lf, e, h, x2.2 _ _ hc⟩)
  · refine tell_txt Z ht (shows_txt hp hl) (fun R' P' rr => ?_) fun i μ' e h => k i μ' e (.inr ⟨c, h⟩)
    simp only [wSta]
    walk_at "hd"
    exact read_bad (.inl ⟨p, rfl, hl, c⟩) rr
theorem rr_b (Z : Cs) {rst : WS} {j i : Nat} {p : Str} {R : XD} {E : EndsD} {μ : Sto} {x1 x3 x4 : Option D} (hp : ∀ c ∈ tL p, c < 128) (hl : p.length ≤ 100000) (told : ToldAt Z μ i p) (k : ∀ μ', Ext μ μ' → rst R E [some (.ref j), x1, some (.str p), x3, x4, some (.ref i)] μ') : wSeq (wIfS (wTruth (wCall sp_l_is_root_text (wCons (wVar 2) wNil))) (wIfS (wOr (wB (wOp wNe (wOp wIx (wVar 5) (wC (.int 0))) (wC (.str "told")))) (wOr (wB (wOp wNe (wCB (wStrO Z.c_Root (sp_Root_str Z)) (wCons (wOp wIx (wVar 5) (wC (.int 1))) wNil)) (wVar 2))) (wB (wOp (wEqI Z.c_Root true (sp_Root_eq Z)) (wStaK Z.c_Root 1 (sp_Root_read Z) g0_0 (wC (.adr Z.c_Root)) (wCons (wVar 2) wNil)) (wOp wIx (wVar 5) (wC (.int 1))))))) (wRet (wC (.bl false))) wNext) (wIfS (wB (wOp wNe (wVar 5) (wLst (wCons (wC (.str "error")) (wCons (wC (.str "InvalidText")) (wCons (wCB wRepr3 (wCons (wVar 2) wNil)) wNil)))))) (wRet (wC (.bl false))) wNext)) rst R E [some (.ref j), x1, some (.str p), x3, x4, some (.ref i)] μ := by
  refine wseq_r ?_
  unfold wIfS wTruth wCall wOr wB wOp
  walk_at "hd"
  refine ⟨p, rfl, hl, fun v μ1 e1 hv => ?_⟩
  rcases told with ⟨n, a, b, kk, lf, e, h5, hc⟩ | ⟨no, h5⟩
  · have ev : v = true := hv.mpr ⟨n, a, b, lf, e⟩
    subst ev
    simp only [e1.lst h5, at0, at1]
    try walk_at "hd"
    simp only [decide_true, Bool.not_true]
    have hc1 := e1.2 _ _ hc
    refine ⟨insAt_root hc1, kk, n, a, b, rfl, hc1, lf, ?_⟩
    simp only []
    rw [← e]
    simp only [decide_true, Bool.not_true]
    simp only [wStaK, wEqI]
    walk_at "hd"
    refine read_good ⟨n, a, b, lf, e⟩ hl fun n' a' b' k' μ2 lf' e' x2 hc' => ?_
    obtain ⟨rfl, rfl, rfl⟩ := textR_same lf lf' (e.symm.trans e')
    simp only [(e1.trans x2).lst h5, at1]
    have hc2 := x2.2 _ _ hc1
    refine ⟨insAt_root hc', insAt_root hc2, k', n, a, b, kk, n, a, b, rfl, hc', hc2, ?_⟩
    rw [decide_eq_true rfl, decide_eq_true rfl, decide_eq_true rfl]
    simp only [Bool.and_self, bne_self_eq_false]
    exact k _ (e1.trans x2)
  · have ev : v = false := by
      cases v with
      | false => rfl
      | true => exact absurd (hv.mp rfl) no
    subst ev
    simp only []
    try walk_at "hd"
    simp only [HD.wRepr3]
    have sx := shows_txt (μ := μ1) hp hl
    refine ⟨.str p, .inl (.str p), sx.2.1, sx.2.2.1, sx.2.2.2, by decide, ?_⟩
    have sh : SeqAt.shaped (errP (Str.ofString "InvalidText") (PyData.str p).shown) = true := err_sh (ok_ofString _) (ok_txt hp)
    have e2 := Ext.app μ1 [O.lst (errL "InvalidText" (PyData.str p).shown)]
    refine ⟨_, _, err_py (e2.lst (e1.lst h5)), err_py (lst_new _ _), sh, sh, ?_⟩
    rw [same_eqv sh]
    simp only [Bool.not_true]
    exact k _ (e1.trans e2)
theorem rr_c {j : Nat} {B : Int} {p : Str} {R : XD} {E : EndsD} {μ : Sto} {x1 x3 x4 x5 : Option D} (hj : Jar μ j B) (hB : B ≤ 800000) (hp : Asc p) (hl : p.length ≤ 90000) (hc : cnt 32 (tL p) ≤ 100) (k : ∀ q μ', Bent p q → Grow j μ μ' → Jar μ' j (B + 5) → E.nx [some (.ref j), x1, some (.str q), x3, x4, x5] μ') : (wAsg (wCall sp_l_bent_text (wCons (wVar 0) (wCons (wVar 2) wNil))) (wgName 2)) R E [some (.ref j), x1, some (.str p), x3, x4, x5] μ := by
  unfold wAsg
  walk_at "hd"
  exact ⟨j, B, p, rfl, hj, by omega, by omega, hp, hc, fun q μ' hb g jj => k q μ' hb g jj⟩
def IT_l_right (Z : Cs) : WS := (wSeq (wAsg (wLam Z.p_l_right q_l_right 3 (W_l_tell Z) (wSta Z.c_Root (sp_Root_read Z) (wC (.adr Z.c_Root)) (wCons (wVar 2) wNil))) (wgName 5))
  (wSeq (wIfS (wTruth (wCall sp_l_is_root_text (wCons (wVar 2) wNil))) (wIfS (wOr (wB (wOp wNe (wOp wIx (wVar 5) (wC (.int 0))) (wC (.str "told")))) (wOr (wB (wOp wNe (wCB (wStrO Z.c_Root (sp_Root_str Z)) (wCons (wOp wIx (wVar 5) (wC (.int 1))) wNil)) (wVar 2))) (wB (wOp (wEqI Z.c_Root true (sp_Root_eq Z)) (wStaK Z.c_Root 1 (sp_Root_read Z) g0_0 (wC (.adr Z.c_Root)) (wCons (wVar 2) wNil)) (wOp wIx (wVar 5) (wC (.int 1))))))) (wRet (wC (.bl false))) wNext) (wIfS (wB (wOp wNe (wVar 5) (wLst (wCons (wC (.str "error")) (wCons (wC (.str "InvalidText")) (wCons (wCB wRepr3 (wCons (wVar 2) wNil)) wNil)))))) (wRet (wC (.bl false))) wNext))
  (wAsg (wCall sp_l_bent_text (wCons (wVar 0) (wCons (wVar 2) wNil))) (wgName 2))))
theorem IT_ok (Z : Cs) {j t : Nat} {B : Int} {p : Str} {R : XD} {E : EndsD} {μ : Sto} {x1 x3 x4 x5 : Option D} (ht : cell μ t = some (.tab Z.p_l_right q_l_right)) (hj : Jar μ j B) (hB : B ≤ 800000) (hp : Asc p) (hl : p.length ≤ 90000) (hc : cnt 32 (tL p) ≤ 100) (k : ∀ q x5 μ', Bent p q → Grow j μ μ' → Jar μ' j (B + 5) → E.nx [some (.ref j), x1, some (.str q), x3, x4, x5] μ') : IT_l_right Z R E [some (.ref j), x1, some (.str p), x3, x4, x5] μ := by
  unfold IT_l_right
  refine rr_a Z ht hp (by omega) fun i μ1 e1 told => ?_
  refine rr_b Z hp (by omega) told fun μ2 e2 => ?_
  have e12 := e1.trans e2
  exact rr_c (hj.ext e12) hB hp hl hc fun q μ' hb g jj => k q _ μ' hb (e12.grow g) jj
theorem rr_i (Z : Cs) {rst : WS} {j t : Nat} {B : Int} {p : Str} {R : XD} {E : EndsD} {μ : Sto} {x1 x3 x4 x5 : Option D} (ht : cell μ t = some (.tab Z.p_l_right q_l_right)) (nt : t ≠ j) (hj : Jar μ j B) (hB : B ≤ 700000) (hp : Asc p) (hl : p.length ≤ 70) (hc : cnt 32 (tL p) ≤ 2) (k : ∀ y2 y3 y5 μ', Grow j μ μ' → Jar μ' j (B + 50) → rst R E [some (.ref j), x1, y2, y3, x4, y5] μ') : wSeq (wForR1 (wCons (wC (.int 10)) wNil) (wgName 3) (IT_l_right Z)) rst R E [some (.ref j), x1, some (.str p), x3, x4, x5] μ := by
  refine wseq_r ?_
  unfold wForR1 turnsR
  walk_at "hd"
  refine ⟨r62 (by decide), fun i δ' μ' => ∃ (q : Str) (y3 y5 : Option D), δ' = [some (.ref j), x1, some (.str q), y3, x4, y5] ∧ Asc q ∧ q.length + 8 ≤ 78 * 2 ^ i ∧ cnt 32 (tL q) ≤ 2 + (i : Int) ∧ Grow j μ μ' ∧ Jar μ' j (B + 5 * (i : Int)), ⟨p, _, _, rfl, hp, by rw [Nat.pow_zero]; omega, by omega, Grow.refl _ _, hj.mono (by omega)⟩, ?_, ?_⟩
  · rintro i δ' μ1 hi ⟨q, y3, y5, rfl, q1, q2, q3, g1, j1⟩
    have hi10 : i < 10 := hi
    have p2 : 2 ^ i ≤ 2 ^ 9 := Nat.pow_le_pow_right (by decide) (by omega)
    have p9 : (2 : Nat) ^ 9 = 512 := by decide
    refine IT_ok Z (g1.2 _ _ nt ht) j1 (by omega) q1 (by omega) (by omega) fun r z5 μ2 hb g2 j2 => ?_
    obtain ⟨b1, b2, b3⟩ := hb
    exact ⟨r, _, _, rfl, b2, by rw [Nat.pow_succ]; omega, by omega, g1.trans g2, j2.mono (by omega)⟩
  · rintro δ' μ1 ⟨q, y3, y5, rfl, _, _, _, g1, j1⟩
    exact k _ _ _ _ g1 (j1.mono (by omega))
/-- what is shown is at least as long -/
theorem char_one (q c : Nat) : 1 ≤ (Builtin.Str.reprChar q c).length := by
  unfold Builtin.Str.reprChar
  dsimp only
  repeat' split
  all_goals simp only [List.length_append, List.length_cons, List.length_nil]
  all_goals omega
theorem repr_ge (x : Str) : x.length ≤ (reprText x).length := by
  rw [← reprLen_eq x, ← Array.foldl_toList]
  have gen : ∀ (l : List Nat) (n : Nat), n + l.length ≤ l.foldl (fun n c => n + (Builtin.Str.reprChar (reprQuote x) c).length) n := fun l => by
    induction l with
    | nil => intro n; exact Nat.le_refl _
    | cons c r ih =>
      intro n
      have := ih (n + (Builtin.Str.reprChar (reprQuote x) c).length)
      have o := char_one (reprQuote x) c
      rw [List.foldl_cons, List.length_cons]
      omega
  have := gen x.cps.toList 2
  have e : x.cps.toList.length = x.length := by simp [Str.length]
  omega
theorem no_text {j : Nat} {μ : Sto} {b : Bool} {d : D} {p : PyData} (h : VA j μ b d p) (hs : isStrB d = false) : NoText μ d := by
  obtain ⟨t, ht, _, _, _, k⟩ := h.ty
  rw [hs] at k
  exact ⟨t, ht, k⟩
theorem rr_o {rst : WS} {j : Nat} {B : Int} {R : XD} {E : EndsD} {μ : Sto} {x1 x2 x3 x4 x5 : Option D} (hj : Jar μ j B) (hB : B ≤ 700000) (k : ∀ d μ', Odd j μ' d → Grow j μ μ' → Jar μ' j (B + 1) → rst R E [some (.ref j), x1, x2, x3, some d, x5] μ') : wSeq (wAsg (wCall sp_l_odd (wCons (wVar 0) wNil)) (wgName 4)) rst R E [some (.ref j), x1, x2, x3, x4, x5] μ := by
  refine wseq_r ?_
  unfold wAsg
  walk_at "hd"
  exact ⟨j, B, rfl, hj, by omega, fun d1 μ1 o1 g1 j1 => k d1 μ1 o1 g1 j1⟩
theorem rr_z (Z : Cs) {j t : Nat} {d : D} {bd : Bool} {pd : PyData} {R : XD} {E : EndsD} {μ : Sto} {x1 x2 x3 x5 : Option D} (ht : cell μ t = some (.tab Z.p_l_right q_l_right)) (no : NoRead μ d) (hd : VA j μ bd d pd) (sd : Sz 4 200 pd) (k : ∀ μ', Ext μ μ' → E.nx [some (.ref j), x1, x2, x3, some d, x5] μ') : (wIfS (wB (wOp wNe (wLam Z.p_l_right q_l_right 3 (W_l_tell Z) (wSta Z.c_Root (sp_Root_read Z) (wC (.adr Z.c_Root)) (wCons (wVar 4) wNil))) (wLst (wCons (wC (.str "error")) (wCons (wC (.str "InvalidText")) (wCons (wCB wRepr3 (wCons (wVar 4) wNil)) wNil)))))) (wRet (wC (.bl false))) wNext) R E [some (.ref j), x1, x2, x3, some d, x5] μ := by
  have line : 1000 ≤ sizeLine := by decide
  have sx : ShowsX μ d pd := ⟨fun μ' e => (hd.ext e).rep, sd.1, by have := sd.2.1; omega, by have := sd.2.2.1; omega⟩
  unfold wIfS wB wOp
  refine tell_txt Z ht sx (fun R' P' rr => ?_) fun i μ1 e1 h1 => ?_
  · simp only [wSta]
    walk_at "hd"
    exact read_bad no rr
  · walk_at "hd"
    simp only [HD.wRepr3]
    refine ⟨pd, (hd.ext e1).rep, sx.2.1, sx.2.2.1, sx.2.2.2, by decide, ?_⟩
    have sh : SeqAt.shaped (errP (Str.ofString "InvalidText") pd.shown) = true := err_sh (ok_ofString _) sd.2.2.2
    have e2 := Ext.app μ1 [O.lst (errL "InvalidText" pd.shown)]
    refine ⟨_, _, err_py (e2.lst h1), err_py (lst_new _ _), sh, sh, ?_⟩
    rw [same_eqv sh]
    simp only [Bool.not_true]
    exact k _ (e1.trans e2)
theorem rr_if {A : WS} {j : Nat} {d : D} {bd : Bool} {pd : PyData} {R : XD} {E : EndsD} {μ : Sto} {x1 x2 x3 x5 : Option D} (hd : VA j μ bd d pd) (sd : Sz 4 200 pd) (kA : ∀ μ', Ext μ μ' → NoRead μ' d → A R E [some (.ref j), x1, x2, x3, some d, x5] μ') (k : ∀ μ', Ext μ μ' → E.nx [some (.ref j), x1, x2, x3, some d, x5] μ') : wIfS (wNot (wAnd (wTruth (wCB (wIsi2 "str") (wCons (wVar 4) (wCons (wC (.ty "str")) wNil)))) (wTruth (wCall sp_l_is_root_text (wCons (wVar 4) wNil))))) A wNext R E [some (.ref j), x1, x2, x3, some d, x5] μ := by
  cases c : isStrB d with
  | false =>
    have nt := no_text hd c
    obtain ⟨t, h1, h2⟩ := id nt
    walk_at "hd"
    try simp only [wIsi2]
    try walk_at "hd"
    refine ⟨t, _, h1, h2, ?_⟩
    simp only [Bool.not_false]
    exact kA _ (Ext.refl _) (.inr nt)
  | true =>
    cases hd with
    | str x =>
      have kit_ss : kitB "str" "str" = some true := by decide +kernel
      have lx : x.length ≤ 200 := by
        have := repr_ge x
        have h3 : (reprText x).length ≤ 200 := sd.2.2.1
        omega
      walk_at "hd"
      try simp only [wIsi2]
      try walk_at "hd"
      refine ⟨_, _, rfl, kit_ss, ?_⟩
      simp only []
      refine ⟨x, rfl, by omega, fun v μ1 e1 hv => ?_⟩
      cases v with
      | true =>
        simp only [Bool.not_true]
        exact k _ e1
      | false =>
        simp only [Bool.not_false]
        refine kA _ e1 (.inl ⟨x, rfl, by omega, fun z => ?_⟩)
        have := hv.mpr z
        cases this
    | _ => cases c
def U_l_right (Z : Cs) : WS := (wSeq (wAsg (wCall sp_l_said (wCons (wCall sp_l_some_root (wCons (wVar 0) wNil)) wNil)) (wgName 2))
  (wSeq (wForR1 (wCons (wC (.int 10)) wNil) (wgName 3) (IT_l_right Z))
  (wSeq (wAsg (wCall sp_l_odd (wCons (wVar 0) wNil)) (wgName 4))
  (wIfS (wNot (wAnd (wTruth (wCB (wIsi2 "str") (wCons (wVar 4) (wCons (wC (.ty "str")) wNil)))) (wTruth (wCall sp_l_is_root_text (wCons (wVar 4) wNil))))) (wIfS (wB (wOp wNe (wLam Z.p_l_right q_l_right 3 (W_l_tell Z) (wSta Z.c_Root (sp_Root_read Z) (wC (.adr Z.c_Root)) (wCons (wVar 4) wNil))) (wLst (wCons (wC (.str "error")) (wCons (wC (.str "InvalidText")) (wCons (wCB wRepr3 (wCons (wVar 4) wNil)) wNil)))))) (wRet (wC (.bl false))) wNext) wNext))))
theorem rr_s {rst : WS} {j : Nat} {B : Int} {R : XD} {E : EndsD} {μ : Sto} {x1 x2 x3 x4 x5 : Option D} (hj : Jar μ j B) (hB : B ≤ 600000) (k : ∀ p μ', Asc p → p.length ≤ 70 → cnt 32 (tL p) ≤ 2 → Grow j μ μ' → Jar μ' j (B + 6) → rst R E [some (.ref j), x1, some (.str p), x3, x4, x5] μ') : wSeq (wAsg (wCall sp_l_said (wCons (wCall sp_l_some_root (wCons (wVar 0) wNil)) wNil)) (wgName 2)) rst R E [some (.ref j), x1, x2, x3, x4, x5] μ := by
  refine wseq_r ?_
  unfold wAsg
  walk_at "hd"
  refine ⟨j, B, rfl, hj, by omega, fun r es d μ2 hr g2 j2 => ?_⟩
  obtain ⟨i, l1, l2, h1, h2, hl, hs, d1, d60⟩ := id hr
  have q : ∀ e, e ∈ lowE d es → e.natAbs ≤ 12 := lowE_few fun e he => Nat.le_trans (hs e he) (by decide)
  have a30 : tpA (lowE d es) ≤ 1000000000000000000000000000000 := tp_size q
  have b30 : tpB (lowE d es) ≤ 1000000000000000000000000000000 := tp_size (neg_few q)
  refine ⟨r, i, d, es, rfl, h1, h2, hl, fun e he => Nat.le_trans (hs e he) (by decide), d1, by omega, a30, b30, fun μ3 e3 => ?_⟩
  have lenE : (lowE d es).length = 4 := by rw [lowE_len, hl]
  have pa := tpA_pos (lowE d es)
  have pb := tpB_pos (lowE d es)
  have cp := tp_cop lenE
  have n60 : d / lowG d es ≤ 60 := Nat.le_trans (Nat.div_le_self _ _) d60
  generalize d / lowG d es = n at *
  generalize tpA (lowE d es) = a at *
  generalize tpB (lowE d es) = bb at *
  have hn : IsNum (a : Int) (bb : Int) := ⟨by omega, by omega, cp, by omega, by omega⟩
  have lt := textN_short hn
  have l2' := numC_two (n := n) (by omega)
  refine k _ _ (fun c hc => ?_) ?_ ?_ (g2.ext e3) (j2.ext e3)
  · rw [textR_list, of_is] at hc
    rcases List.mem_append.mp hc with h | h
    · rcases List.mem_append.mp h with h | h
      · have := numC_digits n c h
        omega
      · have : c = 32 ∨ c = 111 ∨ c = 102 ∨ c = 32 := by simpa using h
        omega
    · unfold textN at h
      have s0 : signC (a : Int) = [] := if_neg (by omega)
      rw [s0, List.nil_append] at h
      rcases List.mem_append.mp h with h | h
      · have := numC_digits _ c h
        omega
      · split at h
        · cases h
        · rcases List.mem_cons.mp h with z | z
          · omega
          · have := numC_digits _ c z
            omega
  · rw [tL_len, textR_list, of_is, List.length_append, List.length_append]
    simp only [List.length_cons, List.length_nil]
    omega
  · rw [textR_list, of_is, cnt_two, cnt_two, cnt_none 32 _ (num_free n (by omega)), cnt_none 32 _ (textN_free a bb)]
    decide
theorem U_ok (Z : Cs) {j t : Nat} {B : Int} {R : XD} {E : EndsD} {μ : Sto} {x1 x2 x3 x4 x5 : Option D} (hj : Jar μ j B) (hB : B ≤ 500000) (ht : cell μ t = some (.tab Z.p_l_right q_l_right)) (nt : t ≠ j) (k : ∀ y2 y3 y4 y5 μ', Grow j μ μ' → Jar μ' j (B + 60) → E.nx [some (.ref j), x1, y2, y3, y4, y5] μ') : U_l_right Z R E [some (.ref j), x1, x2, x3, x4, x5] μ := by
  unfold U_l_right
  refine rr_s hj (by omega) fun p μ1 p1 p2 p3 g1 j1 => ?_
  refine rr_i Z (g1.2 _ _ nt ht) nt j1 (by omega) p1 p2 p3 fun y2 y3 y5 μ2 g2 j2 => ?_
  refine rr_o j2 (by omega) fun d μ3 od g3 j3 => ?_
  obtain ⟨bd, pd, vd, sd, _⟩ := od
  have gg := (g1.trans g2).trans g3
  refine rr_if vd sd (fun μ4 e4 no => ?_) fun μ4 e4 => k _ _ _ _ _ (gg.ext e4) ((j3.mono (by omega)).ext e4)
  exact rr_z Z (e4.2 _ _ (gg.2 _ _ nt ht)) no (vd.ext e4) sd fun μ5 e5 => k _ _ _ _ _ (gg.ext (e4.trans e5)) ((j3.mono (by omega)).ext (e4.trans e5))
def sp_l_right (Z : Cs) : SpD := fun ds μ P _ => ∃ (j : Nat) (B : Int) (i1 : Nat), ds = [.ref j] ∧ Jar μ j B ∧ B ≤ 100 ∧ cell μ i1 = some (.tab Z.p_l_right q_l_right) ∧ i1 ≠ j ∧ ∀ μ', Grow j μ μ' → P (.bl true) μ'
theorem len_l_right (Z : Cs) : ∀ ds μ Pd R, sp_l_right Z ds μ Pd R → ds.length = 1 := fun ds μ Pd R ⟨i, l, _, e, _⟩ => by rw [e] <;> rfl
def W_l_right (Z : Cs) : WS :=
  (wSeq (wForR1 (wCons (wC (.int 4)) wNil) (wgName 1) (wSeq (wAsg (wCall sp_l_said (wCons (wCall sp_l_some_root (wCons (wVar 0) wNil)) wNil)) (wgName 2))
  (wSeq (wForR1 (wCons (wC (.int 10)) wNil) (wgName 3) (wSeq (wAsg (wLam Z.p_l_right q_l_right 3 (W_l_tell Z) (wSta Z.c_Root (sp_Root_read Z) (wC (.adr Z.c_Root)) (wCons (wVar 2) wNil))) (wgName 5))
  (wSeq (wIfS (wTruth (wCall sp_l_is_root_text (wCons (wVar 2) wNil))) (wIfS (wOr (wB (wOp wNe (wOp wIx (wVar 5) (wC (.int 0))) (wC (.str "told")))) (wOr (wB (wOp wNe (wCB (wStrO Z.c_Root (sp_Root_str Z)) (wCons (wOp wIx (wVar 5) (wC (.int 1))) wNil)) (wVar 2))) (wB (wOp (wEqI Z.c_Root true (sp_Root_eq Z)) (wStaK Z.c_Root 1 (sp_Root_read Z) g0_0 (wC (.adr Z.c_Root)) (wCons (wVar 2) wNil)) (wOp wIx (wVar 5) (wC (.int 1))))))) (wRet (wC (.bl false))) wNext) (wIfS (wB (wOp wNe (wVar 5) (wLst (wCons (wC (.str "error")) (wCons (wC (.str "InvalidText")) (wCons (wCB wRepr3 (wCons (wVar 2) wNil)) wNil)))))) (wRet (wC (.bl false))) wNext))
  (wAsg (wCall sp_l_bent_text (wCons (wVar 0) (wCons (wVar 2) wNil))) (wgName 2)))))
  (wSeq (wAsg (wCall sp_l_odd (wCons (wVar 0) wNil)) (wgName 4))
  (wIfS (wNot (wAnd (wTruth (wCB (wIsi2 "str") (wCons (wVar 4) (wCons (wC (.ty "str")) wNil)))) (wTruth (wCall sp_l_is_root_text (wCons (wVar 4) wNil))))) (wIfS (wB (wOp wNe (wLam Z.p_l_right q_l_right 3 (W_l_tell Z) (wSta Z.c_Root (sp_Root_read Z) (wC (.adr Z.c_Root)) (wCons (wVar 4) wNil))) (wLst (wCons (wC (.str "error")) (wCons (wC (.str "InvalidText")) (wCons (wCB wRepr3 (wCons (wVar 4) wNil)) wNil)))))) (wRet (wC (.bl false))) wNext) wNext)))))
  (wRet (wC (.bl true))))
theorem vc_l_right (Z : Cs) : ∀ ds μ Pd R, sp_l_right Z ds μ Pd R → W_l_right Z (fun _ C fs μ' => R C fs μ') { nx := fun _ μ' => Pd .non μ', rt := Pd } (startD 6 ds) μ := by
  intro ds μ Pd R h
  obtain ⟨j, B, i1, rfl, hj, hB, c1, n1, k⟩ := h
  have e : W_l_right Z = wSeq (wForR1 (wCons (wC (.int 4)) wNil) (wgName 1) (U_l_right Z)) (wRet (wC (.bl true))) := rfl
  rw [e]
  refine wseq_r ?_
  unfold wForR1 turnsR
  walk_at "hd"
  refine ⟨r62 (by decide), fun i δ' μ' => ∃ (x1 x2 x3 x4 x5 : Option D), δ' = [some (.ref j), x1, x2, x3, x4, x5] ∧ Grow j μ μ' ∧ Jar μ' j (B + 60 * (i : Int)), ⟨_, _, _, _, _, rfl, Grow.refl _ _, hj.mono (by omega)⟩, ?_, ?_⟩
  · rintro i δ' μ1 hi ⟨x1, x2, x3, x4, x5, rfl, g1, j1⟩
    have hi4 : i < 4 := hi
    refine U_ok Z (x1 := some (.int (0 + (i : Int)))) j1 (by omega) (g1.2 _ _ n1 c1) n1 fun y2 y3 y4 y5 μ2 g2 j2 => ?_
    exact ⟨_, _, _, _, _, rfl, g1.trans g2, j2.mono (by omega)⟩
  · rintro δ' μ1 ⟨x1, x2, x3, x4, x5, rfl, g1, j1⟩
    exact k _ g1

/-! where draws come from, the other way -/
def T_l_open : WS :=
  (wSeq (wForL (wSlL (wVar 0) wNoPart (wPart (wC (.int 14)))) (wgName 4) (wAsg (wOp wMod (wCB wInt (wCons (wOp wAdd (wOp wMul (wVar 3) (wC (.int 60013))) (wCB wInt (wCons (wVar 4) wNil))) wNil)) (wC (.int 2147483323))) (wgName 3)))
  (wRet (wLst (wCons (wIf (wOr (wB (wOp wLt (wVar 2) (wC (.int 0)))) (wB (wOp wGe (wVar 2) (wOp wPow (wC (.int 10)) (wC (.int 17)))))) (wCB wAbs (wCons (wVar 2) wNil)) (wC (.int 0))) (wCons (wOp wMod (wCB wInt (wCons (wOp wAdd (wOp wMul (wVar 3) (wC (.int 44207))) (wVar 2)) wNil)) (wC (.int 2147483323))) (wCons (wC (.int 9)) wNil))))))
theorem p17 : (10 : Int) ^ ((17 : Int).toNat) = 100000000000000000 := by decide +kernel
def sp_l_open : SpD := fun ds μ P _ => ∃ (ns : List Int) (t : Nat), ds = [.ro (ns.map .int), .int (t : Int)] ∧ ns.length ≤ 63 ∧ t ≤ 100 ∧ ∀ (j : Nat) μ', Ext μ μ' → μ.length ≤ j → Jar μ' j 9 → P (.ref j) μ'
theorem len_l_open : ∀ ds μ Pd R, sp_l_open ds μ Pd R → ds.length = 2 := fun ds μ Pd R ⟨j, B, e, _⟩ => by rw [e] <;> rfl
theorem rest_l_open {ns : List Int} {t : Nat} {x : Int} {μ : Sto} {R : XD} {E : EndsD} (k : ∀ (j : Nat) μ', Ext μ μ' → μ.length ≤ j → Jar μ' j 9 → E.rt (.ref j) μ') (ht : t ≤ 100) (hl : ns.length ≤ 63) :
    T_l_open R E [some (.ro (ns.map .int)), some (.int (t : Int)), some (.int x), some (.int (43013 + 263 * (t : Int))), none] μ := by
  unfold T_l_open
  walk_at "hd"
  unfold wForL
  walk_at "hd"
  simp only [itemsOf]
  refine ⟨_, rfl, ?_⟩
  have hc : ∃ cs : List Int, HD.cutD (ns.map D.int) none (some 14) = cs.map .int ∧ cs.length ≤ 63 := by
    unfold HD.cutD
    rw [← List.map_drop, ← List.map_take]
    refine ⟨_, rfl, ?_⟩
    rw [List.length_take, List.length_drop]
    omega
  obtain ⟨cs, hc, hc5⟩ := hc
  rw [hc]
  refine ⟨cs.map .int, fun i δ' μ' => μ' = μ ++ [O.lst (cs.map D.int)] ∧ ∃ (m : Int) (y : Option D), δ' = [some (.ro (ns.map .int)), some (.int (t : Int)), some (.int x), some (.int m), y] ∧ 0 ≤ m ∧ m < 2147483648,
    ⟨rfl, _, _, rfl, by omega, by omega⟩, ?_, ?_, ?_⟩
  · rintro i δ' μ' hi ⟨rfl, m, y, rfl, hm, hm2⟩
    rw [lst_new]
  · rintro i z δ' μ' hi ⟨rfl, m, y, rfl, hm, hm2⟩
    rw [List.getElem?_map] at hi
    obtain ⟨n, hn, rfl⟩ := Option.map_eq_some_iff.mp hi
    walk_at "hd"
    refine ⟨mulS ⟨by omega, by omega⟩ ⟨by decide, by decide⟩, by decide, _, _, rfl, Int.emod_nonneg _ (by decide), ?_⟩
    have := Int.emod_lt_of_pos (m * 60013 + n) (show (0 : Int) < 2147483323 by decide)
    omega
  · rintro δ' μ' ⟨rfl, m, y, rfl, hm, hm2⟩
    walk_at "hd"
    simp only [p17]
    obtain ⟨m2, hm2'⟩ : ∃ m2 : Int, (m * 44207 + x) % 2147483323 = m2 := ⟨_, rfl⟩
    have m20 : 0 ≤ m2 := by rw [← hm2']; exact Int.emod_nonneg _ (by decide)
    have m21 : m2 < 2147483323 := by rw [← hm2']; exact Int.emod_lt_of_pos _ (by decide)
    have mm : MulOk m 44207 := mulS ⟨by omega, by omega⟩ ⟨by decide, by decide⟩
    rw [hm2']
    have ext : ∀ o, Ext μ (μ ++ [O.lst (cs.map D.int)] ++ [o]) := fun o => (Ext.app _ _).trans (Ext.app _ _)
    have len : μ.length ≤ (μ ++ [O.lst (cs.map D.int)]).length := by simp
    have fin : ∀ a : Int, 0 ≤ a → E.rt (.ref (μ ++ [O.lst (cs.map D.int)]).length) (μ ++ [O.lst (cs.map D.int)] ++ [O.lst [.int a, .int m2, .int 9]]) := fun a ha =>
      k _ _ (ext _) len ⟨a, m2, 9, lst_new _ _, ha, m20, by omega, by decide, by decide⟩
    have ab : 0 ≤ (if x < 0 then -x else x) := by split <;> omega
    cases c1 : decide (x < 0) with
    | true =>
      simp only []
      exact ⟨mm, by decide, by decide, fin _ ab⟩
    | false =>
      simp only []
      refine ⟨cpow10 (by decide), ?_⟩
      cases c2 : decide (100000000000000000 ≤ x) with
      | true =>
        simp only []
        exact ⟨mm, by decide, by decide, fin _ ab⟩
      | false =>
        simp only []
        exact ⟨mm, by decide, by decide, fin _ (by decide)⟩
def W_l_open : WS :=
  (wSeq (wAsg (wIf (wB (wOp wLt (wVar 1) (wCB wLen (wCons (wVar 0) wNil)))) (wCB wInt (wCons (wOp wIx (wVar 0) (wVar 1)) wNil)) (wOp wAdd (wOp wMul (wC (.int 823)) (wVar 1)) (wC (.int 71)))) (wgName 2))
  (wSeq (wAsg (wOp wAdd (wC (.int 43013)) (wOp wMul (wC (.int 263)) (wVar 1))) (wgName 3))
  (wSeq (wForL (wSlL (wVar 0) wNoPart (wPart (wC (.int 14)))) (wgName 4) (wAsg (wOp wMod (wCB wInt (wCons (wOp wAdd (wOp wMul (wVar 3) (wC (.int 60013))) (wCB wInt (wCons (wVar 4) wNil))) wNil)) (wC (.int 2147483323))) (wgName 3)))
  (wRet (wLst (wCons (wIf (wOr (wB (wOp wLt (wVar 2) (wC (.int 0)))) (wB (wOp wGe (wVar 2) (wOp wPow (wC (.int 10)) (wC (.int 17)))))) (wCB wAbs (wCons (wVar 2) wNil)) (wC (.int 0))) (wCons (wOp wMod (wCB wInt (wCons (wOp wAdd (wOp wMul (wVar 3) (wC (.int 44207))) (wVar 2)) wNil)) (wC (.int 2147483323))) (wCons (wC (.int 9)) wNil))))))))
theorem vc_l_open : ∀ ds μ Pd R, sp_l_open ds μ Pd R → W_l_open (fun _ C fs μ' => R C fs μ') { nx := fun _ μ' => Pd .non μ', rt := Pd } (startD 5 ds) μ := by
  intro ds μ Pd R h
  obtain ⟨ns, t, rfl, hl, ht, k⟩ := h
  have e : W_l_open = wSeq _ (wSeq _ T_l_open) := rfl
  rw [e]
  walk_at "hd"
  refine ⟨_, rfl, ?_⟩
  have m1 : MulOk 823 (t : Int) := mulS ⟨by decide, by decide⟩ ⟨by omega, by omega⟩
  have m2 : MulOk 263 (t : Int) := mulS ⟨by decide, by decide⟩ ⟨by omega, by omega⟩
  cases c1 : decide ((t : Int) < ((ns.map D.int).length : Int)) with
  | true =>
    simp only []
    have c1' := of_decide_eq_true c1
    rw [List.length_map] at c1'
    have tl : t < ns.length := by omega
    have e1 : (ns.map D.int)[t]? = some (.int ns[t]) := by rw [List.getElem?_map, List.getElem?_eq_getElem tl] <;> rfl
    rw [atI_nat (j := t) e1]
    exact ⟨m2, rest_l_open k ht hl⟩
  | false =>
    simp only []
    exact ⟨m1, m2, rest_l_open k ht hl⟩

/-! the law -/
def sp_law (Z : Cs) : SpD := spLawT 63 [(Z.p_l_right, q_l_right), (Z.p_l_by_hand, q_l_by_hand)]
theorem len_law (Z : Cs) : ∀ ds μ Pd R, sp_law Z ds μ Pd R → ds.length = 1 := fun ds μ Pd R ⟨i, e, _⟩ => by rw [e] <;> rfl
def W_law (Z : Cs) : WS :=
  (wSeq (wIfS (wNot (wTruth (wCall (sp_l_by_hand Z) wNil))) (wRet (wC (.bl false))) wNext)
  (wRet (wCB wAll (wCons (wLcR 1 (wCons (wCB wMax (wCons (wC (.int 2)) (wCons (wCB wMin (wCons (wCB wLen (wCons (wVar 0) wNil)) (wCons (wC (.int 5)) wNil))) wNil))) wNil) wYes (wCall (sp_l_right Z) (wCons (wCall sp_l_open (wCons (wVar 0) (wCons (wVar 1) wNil))) wNil))) wNil))))
theorem vc_law (Z : Cs) : ∀ ds μ Pd R, sp_law Z ds μ Pd R → W_law Z (fun _ C fs μ' => R C fs μ') { nx := fun _ μ' => Pd .non μ', rt := Pd } (startD 2 ds) μ := by
  intro ds μ Pd R h
  obtain ⟨ns, rfl, hl, rfl, k⟩ := h
  unfold W_law
  walk_at "hd"
  refine ⟨1, rfl, rfl, fun μ1 e1 => ?_⟩
  simp only [Bool.not_true]
  simp only [wLcR]
  walk_at "hd"
  refine ⟨_, rfl, ?_⟩
  rw [List.length_map]
  obtain ⟨N, hN, hN6⟩ : ∃ N : Nat, (if (if (5 : Int) < (ns.length : Int) then (5 : Int) else (ns.length : Int)) > 2 then (if (5 : Int) < (ns.length : Int) then (5 : Int) else (ns.length : Int)) else 2) = (N : Int) ∧ N ≤ 5 := ⟨max 2 (min ns.length 5), by (repeat' split) <;> omega, by omega⟩
  rw [hN]
  refine ⟨r62 (by omega), ?_⟩
  unfold lcAll
  rw [Int.toNat_natCast]
  have t0 : cell μ1 0 = some (.tab Z.p_l_right q_l_right) := e1.2 _ _ rfl
  have l0 : 0 < μ1.length := cell_lt t0
  refine ⟨fun j acc μ' => acc = List.replicate j (.bl true) ∧ cell μ' 0 = some (.tab Z.p_l_right q_l_right) ∧ μ1.length < μ'.length, ⟨rfl, (Ext.app _ _).2 _ _ t0, by rw [List.length_append]; exact Nat.lt_succ_self _⟩, ?_, ?_⟩
  · rintro j acc μ' hj hacc ⟨rfl, ht, hlen⟩
    refine ⟨trivial, ?_⟩
    unfold lcTurn
    walk_at "hd"
    simp only [wYes]
    refine ⟨ns, j, by rw [Int.zero_add], hl, by omega, fun i μ2 e2 hi jar => ?_⟩
    have c0 := e2.2 _ _ ht
    have c1 := e2.2 _ _ hacc
    refine ⟨i, 9, 0, rfl, jar, by decide, c0, by omega, fun μ3 g2 => ?_⟩
    have d0 := g2.2 _ _ (by omega : 0 ≠ i) c0
    have d1 := g2.2 _ _ (by omega : μ1.length ≠ i) c1
    refine ⟨⟨d1, by rw [List.length_replicate]; omega⟩, ?_, ?_, ?_⟩
    · rw [← List.replicate_succ, List.replicate_succ']
    · rw [cell_set_ne (by omega)]
      exact d0
    · have g1 := g2.1
      have e21 := e2.1
      rw [List.length_set]
      omega
  · rintro acc μ' hacc ⟨rfl, ht, hlen⟩
    refine ⟨trivial, ?_⟩
    simp only [wAll]
    refine ⟨List.replicate N true, ?_, ?_⟩
    · rw [List.map_replicate]
      exact lstAt_of hacc
    · have e : (List.replicate N true).all _root_.id = true := by simp
      rw [e]
      exact k _

section
variable {P : Program} {w : World} {K : PySem.W.Frag} {mg : Str → Option Value} {base : Heap}
theorem ok_l_kind (T : Tx K mg) (a : Addr) (oe : Obj) (cls : Value) (d : Option Addr) (hz : Zc cls d oe) (hf : ∃ vs, oe.data = .fields vs) : FnE a oe P w K mg base 1 T.f_l_kind.a T.f_l_kind.fd ["_law_e"] (spOf K (sp_l_kind (zOf T) a cls d)) :=
  defE (ws := W_l_kind (zOf T) a cls d) T.f_l_kind.fn sc_l_kind hf (len_l_kind (zOf T) a cls d) (fun cdv A outer s H E gd hr hat =>
    (qss_cons (qset 1 (q_lst (qa_cons (q_callB (qb_isE hz hf (fun _ _ _ _ I => hat.later rfl I)) (by rfl) T.b_isinstance bt_isinstance (qa_cons (qv 0) (qa_cons (q_globA (by rfl) T.n_InvalidText.g) qa_nil))) (qa_cons (q_callB (qb_isE hz hf (fun _ _ _ _ I => hat.later rfl I)) (by rfl) T.b_isinstance bt_isinstance (qa_cons (qv 0) (qa_cons (q_globA (by rfl) T.n_InvalidNumber.g) qa_nil))) (qa_cons (q_callB (qb_isE hz hf (fun _ _ _ _ I => hat.later rfl I)) (by rfl) T.b_isinstance bt_isinstance (qa_cons (qv 0) (qa_cons (q_globA (by rfl) T.n_InvalidDegree.g) qa_nil))) qa_nil)))) sc_l_kind.nd)
    (qss_cons (qset 1 (q_op qo_add (qv 1) (q_lst (qa_cons (q_callB (qb_isE hz hf (fun _ _ _ _ I => hat.later rfl I)) (by rfl) T.b_isinstance bt_isinstance (qa_cons (qv 0) (qa_cons (q_globA (by rfl) T.n_InvalidKind.g) qa_nil))) (qa_cons (q_callB (qb_isE hz hf (fun _ _ _ _ I => hat.later rfl I)) (by rfl) T.b_isinstance bt_isinstance (qa_cons (qv 0) (qa_cons (q_globA (by rfl) T.n_NotARoot.g) qa_nil))) (qa_cons (q_callB (qb_isE hz hf (fun _ _ _ _ I => hat.later rfl I)) (by rfl) T.b_isinstance bt_isinstance (qa_cons (qv 0) (qa_cons (q_globA (by rfl) T.n_InvalidLooks.g) qa_nil))) qa_nil))))) sc_l_kind.nd)
    (qss_cons (qset 1 (q_op qo_add (qv 1) (q_lst (qa_cons (q_callB (qb_isE hz hf (fun _ _ _ _ I => hat.later rfl I)) (by rfl) T.b_isinstance bt_isinstance (qa_cons (qv 0) (qa_cons (q_globA (by rfl) T.n_InvalidRoots.g) qa_nil))) (qa_cons (q_callB (qb_isE hz hf (fun _ _ _ _ I => hat.later rfl I)) (by rfl) T.b_isinstance bt_isinstance (qa_cons (qv 0) (qa_cons (q_globA (by rfl) T.n_NoNumber.g) qa_nil))) (qa_cons (q_callB (qb_isE hz hf (fun _ _ _ _ I => hat.later rfl I)) (by rfl) T.b_isinstance bt_isinstance (qa_cons (qv 0) (qa_cons (q_globA (by rfl) T.n_TooGreat.g) qa_nil))) qa_nil))))) sc_l_kind.nd)
    (qss_cons (qset 2 (q_lst (qa_cons q_str (qa_cons q_str (qa_cons q_str (qa_cons q_str (qa_cons q_str (qa_cons q_str qa_nil))))))) sc_l_kind.nd)
    (qss_cons (qset 2 (q_op qo_add (qv 2) (q_lst (qa_cons q_str (qa_cons q_str (qa_cons q_str qa_nil))))) sc_l_kind.nd)
    (qss_cons (qset 3 (q_lst (qa_cons (q_callB (qb_isE hz hf (fun _ _ _ _ I => hat.later rfl I)) (by rfl) T.b_isinstance bt_isinstance (qa_cons (qv 0) (qa_cons (q_globA (by rfl) T.n_WrongValue.g) qa_nil))) (qa_cons (q_callB (qb_isE hz hf (fun _ _ _ _ I => hat.later rfl I)) (by rfl) T.b_isinstance bt_isinstance (qa_cons (qv 0) (qa_cons (q_globA (by rfl) T.n_WrongName.g) qa_nil))) (qa_cons (q_callB (qb_isE hz hf (fun _ _ _ _ I => hat.later rfl I)) (by rfl) T.b_isinstance bt_isinstance (qa_cons (qv 0) (qa_cons (q_globA (by rfl) T.n_NoAnswer.g) qa_nil))) qa_nil)))) sc_l_kind.nd)
    (qss_cons (qset 4 (q_lst (qa_cons (q_callB (qb_isE hz hf (fun _ _ _ _ I => hat.later rfl I)) (by rfl) T.b_isinstance bt_isinstance (qa_cons (qv 0) (qa_cons (q_bltTy (by rfl) T.b_ValueError bt_ValueError) qa_nil))) (qa_cons (q_callB (qb_isE hz hf (fun _ _ _ _ I => hat.later rfl I)) (by rfl) T.b_isinstance bt_isinstance (qa_cons (qv 0) (qa_cons (q_bltTy (by rfl) T.b_LookupError bt_LookupError) qa_nil))) (qa_cons (q_callB (qb_isE hz hf (fun _ _ _ _ I => hat.later rfl I)) (by rfl) T.b_isinstance bt_isinstance (qa_cons (qv 0) (qa_cons (q_bltTy (by rfl) T.b_ArithmeticError bt_ArithmeticError) qa_nil))) qa_nil)))) sc_l_kind.nd)
    (qss_cons (qs_if (qt_bool (qw_or (qt_cmp (qo_ne hr.units) (q_cntB (qv 1) q_bl) q_int (nomark _)) (qw_or1 (qt_cmp (qo_ne hr.units) (qv 3) (qv 4) (nomark _))))) (qss_one (qs_ret (q_lst (qa_cons q_str (qa_cons q_str (qa_cons q_str qa_nil)))))) qss_nil)
    (qss_cons (qset 5 (q_idxB (qv 1) q_bl) sc_l_kind.nd)
    (qss_cons (qs_if (qt_cmp (qo_ne hr.units) (qv 3) (q_lst (qa_cons (q_cmp qo_lt (qv 5) q_int (nomark _)) (qa_cons q_bl (qa_cons (q_cmp qo_gt (qv 5) q_int (nomark _)) qa_nil)))) (nomark _)) (qss_one (qs_ret (q_lst (qa_cons q_str (qa_cons q_str (qa_cons q_str qa_nil)))))) qss_nil)
    (qss_cons (qs_if (qt_cmp (qo_eq hr.units) (qv 5) q_int (nomark _)) (qss_one (qs_ret (q_lst (qa_cons q_str (qa_cons (q_ix (qv 2) (qv 5) (fun _ _ => rfl)) (qa_cons q_str qa_nil)))))) qss_nil)
    (qss_one (qs_ret (q_lst (qa_cons q_str (qa_cons (q_ix (qv 2) (qv 5) (fun _ _ => rfl)) (qa_cons (q_callB (qb_repr3 gd hr.units) (by rfl) T.b_repr bt_repr (qa_cons (q_if (qt_cmp (qo_in (room65H hr)) (qv 5) (q_lst (qa_cons q_int (qa_cons q_int qa_nil))) (by rfl)) (q_fldE hz hf (fun _ _ _ _ I => hat.later rfl I) (qv 0)) (q_fldE hz hf (fun _ _ _ _ I => hat.later rfl I) (qv 0))) qa_nil)) qa_nil)))))))))))))))))) (vc_l_kind (zOf T) a cls d)
theorem hg_l_tell (T : Tx K mg) {A : Around} {outer : List Env} {s : Shared} {H : Hp} {E : XK} {cdg : Value} {wact : WE} (gd : A.guards = some []) (hr : Room 1 (A.deeper (envOfC "_law_tell" (defScope s_l_tell) s.heap.objs.size T.f_l_tell.a cdg)))
    (hact : ∀ (W' : WX) (pn : List (Addr × Obj)) (xe : Value → Shared → Prop) (p1 p2 : Pos), Takes ((cxOf (L2.CX P w) P w K mg base ["_law_act_now", "_law_e", "_law_found"]  "_law_tell" (defScope s_l_tell) T.f_l_tell.a cdg A outer s H E).tr pn xe) W' → QE ((cxOf (L2.CX P w) P w K mg base ["_law_act_now", "_law_e", "_law_found"]  "_law_tell" (defScope s_l_tell) T.f_l_tell.a cdg A outer s H E).tr pn xe) W' (.Call (.Name "_law_act_now" p1) [] [] p2) wact) :
    QSs (cxOf (L2.CX P w) P w K mg base ["_law_act_now", "_law_e", "_law_found"]  "_law_tell" (defScope s_l_tell) T.f_l_tell.a cdg A outer s H E) (fun cls d _ H => E cls d H) (defBody s_l_tell) (W_l_tell (zOf T) wact) :=
  (qss_cons (qs_tryAs3 (i := 1) rfl rfl sc_l_tell.nd rfl rfl ⟨by rfl, by decide, .inl T.n_WrongValue.g⟩ ⟨by rfl, by decide, .inl T.n_WrongName.g⟩ ⟨by rfl, by decide, .inl T.n_NoAnswer.g⟩ (takes_of rfl rfl rfl rfl) (fun W' pn xe tk' po => (qss_one (qset 2 (hact _ _ _ _ _ tk') sc_l_tell.nd))) (fun a oe cls d pn hz hf => (qss_one (qs_ret (q_callE (k := 1) (ok_l_kind (P := P) (w := w) (base := base) T a oe cls d hz hf) gd (roomH_suite (k := 1) (hr.mono (by decide)) _) (by rfl) T.f_l_kind.gl T.f_l_kind.fn.kp T.f_l_kind.bd (at_suite rfl rfl rfl) LamX.takes0 (qa_cons (qv 1) qa_nil))))))
    (qss_one (qs_ret (q_lst (qa_cons q_str (qa_cons (qv 2) qa_nil))))))
theorem ok_is_between (T : Tx K mg) : FnG P w K mg base 1 T.f_is_between.a T.f_is_between.fd ["value", "least", "most"] (spOf K sp_is_between) :=
  defD (ws := W_is_between) T.f_is_between.fn sc_is_between len_is_between (fun cdv A outer s H E gd hr =>
    (qss_cons (qs_if (qt_bool (qw_or (qt_not (qt_truth (q_callB (qb_isi2 "int") (by rfl) T.b_isinstance bt_isinstance (qa_cons (qv 0) (qa_cons (q_bltTy (by rfl) T.b_int bt_int) qa_nil))))) (qw_or1 (qt_truth (q_callB (qb_isi2 "bool") (by rfl) T.b_isinstance bt_isinstance (qa_cons (qv 0) (qa_cons (q_bltTy (by rfl) T.b_bool bt_bool) qa_nil))))))) (qss_one (qs_ret q_bl)) qss_nil)
    (qss_one (qs_ret (q_chain qo_le qo_le (qv 1) (qv 0) (qv 2)))))) vc_is_between
theorem ok_is_number (T : Tx K mg) : FnG P w K mg base 2 T.f_is_number.a T.f_is_number.fd ["value"] (spOf K sp_is_number) :=
  defD (ws := W_is_number) T.f_is_number.fn sc_is_number len_is_number (fun cdv A outer s H E gd hr =>
    (qss_cons (qs_if (qt_bool (qw_or (qt_not (qt_truth (q_callB (qb_isi2 "tuple") (by rfl) T.b_isinstance bt_isinstance (qa_cons (qv 0) (qa_cons (q_bltTy (by rfl) T.b_tuple bt_tuple) qa_nil))))) (qw_or1 (qt_cmp (qo_ne hr.units) (q_callB qb_len (by rfl) T.b_len bt_len (qa_cons (qv 0) qa_nil)) q_int (nomark _))))) (qss_one (qs_ret q_bl)) qss_nil)
    (qss_cons (qs_asg (qv 0) (qg_tup rfl (qgs_cons (qgn 1 sc_is_number.nd) (qgs_cons (qgn 2 sc_is_number.nd) qgs_nil))))
    (qss_cons (qs_if (qt_bool (qw_or (qt_not (qt_truth (q_call (ok_is_between (P := P) (w := w) (base := base) T) gd (hr.mono (by decide)) (by rfl) T.f_is_between.gl T.f_is_between.fn.kp T.f_is_between.bd (takes_of rfl rfl rfl rfl) (qa_cons (qv 1) (qa_cons (q_neg (q_globI (by rfl) T.c_MOST_SIZE)) (qa_cons (q_globI (by rfl) T.c_MOST_SIZE) qa_nil)))))) (qw_or1 (qt_not (qt_truth (q_call (ok_is_between (P := P) (w := w) (base := base) T) gd (hr.mono (by decide)) (by rfl) T.f_is_between.gl T.f_is_between.fn.kp T.f_is_between.bd (takes_of rfl rfl rfl rfl) (qa_cons (qv 2) (qa_cons q_int (qa_cons (q_globI (by rfl) T.c_MOST_SIZE) qa_nil))))))))) (qss_one (qs_ret q_bl)) qss_nil)
    (qss_one (qs_ret (q_and (q_cmp (qo_ne hr.units) (qv 1) q_int (nomark _)) (q_one (q_cmp (qo_eq hr.units) (q_callBf qb_gcd (by rfl) T.m_gcd (qa_cons (qv 1) (qa_cons (qv 2) qa_nil))) q_int (nomark _)))))))))) vc_is_number
theorem ok_check_number (T : Tx K mg) : FnG P w K mg base 3 T.f_check_number.a T.f_check_number.fd ["number"] (spOf K (sp_check_number (zOf T))) :=
  defD (ws := W_check_number (zOf T)) T.f_check_number.fn sc_check_number (len_check_number (zOf T)) (fun cdv A outer s H E gd hr =>
    (qss_one (qs_if (qt_not (qt_truth (q_call (ok_is_number (P := P) (w := w) (base := base) T) gd (hr.mono (by decide)) (by rfl) T.f_is_number.gl T.f_is_number.fn.kp T.f_is_number.bd (takes_of rfl rfl rfl rfl) (qa_cons (qv 0) qa_nil)))) (qss_one (qs_raise rfl T.e_InvalidNumber.t hr (takes_of rfl rfl rfl rfl) (qa_cons (qv 0) qa_nil) (by rfl))) qss_nil))) (vc_check_number (zOf T))
theorem ok_number_text (T : Tx K mg) : FnG P w K mg base 4 T.f_number_text.a T.f_number_text.fd ["number"] (spOf K (sp_number_text (zOf T))) :=
  defD (ws := W_number_text (zOf T)) T.f_number_text.fn sc_number_text (len_number_text (zOf T)) (fun cdv A outer s H E gd hr =>
    (qss_cons (qs_expr (q_call (ok_check_number (P := P) (w := w) (base := base) T) gd (hr.mono (by decide)) (by rfl) T.f_check_number.gl T.f_check_number.fn.kp T.f_check_number.bd (takes_of rfl rfl rfl rfl) (qa_cons (qv 0) qa_nil)))
    (qss_cons (qs_asg (qv 0) (qg_tup rfl (qgs_cons (qgn 1 sc_number_text.nd) (qgs_cons (qgn 2 sc_number_text.nd) qgs_nil))))
    (qss_cons (qs_if (qt_cmp (qo_eq hr.units) (qv 2) q_int (nomark _)) (qss_one (qs_ret (q_callTy qb_str (by rfl) T.b_str bt_str (qa_cons (qv 1) qa_nil)))) qss_nil)
    (qss_one (qs_ret (q_joined (QJ.cons (q_fmt (qv 1)) (QJ.cons q_str (QJ.cons (q_fmt (qv 2)) QJ.nil)))))))))) (vc_number_text (zOf T))
theorem ok_Root_str (T : Tx K mg) : FnG P w K mg base 5 T.f_Root_str.a T.f_Root_str.fd ["self"] (spOf K (sp_Root_str (zOf T))) :=
  defD (ws := W_Root_str (zOf T)) T.f_Root_str.fn sc_Root_str (len_Root_str (zOf T)) (fun cdv A outer s H E gd hr =>
    (qss_one (qs_ret (q_joined (QJ.cons (q_fmt (q_fld T.k_Root.cls T.na_Root__degree (qv 0))) (QJ.cons q_str (QJ.cons (q_fmt (q_call (ok_number_text (P := P) (w := w) (base := base) T) gd (hr.mono (by decide)) (by rfl) T.f_number_text.gl T.f_number_text.fn.kp T.f_number_text.bd (takes_of rfl rfl rfl rfl) (qa_cons (q_fld T.k_Root.cls T.na_Root__number (qv 0)) qa_nil))) QJ.nil))))))) (vc_Root_str (zOf T))
theorem ok_are_digits (T : Tx K mg) : FnG P w K mg base 1 T.f_are_digits.a T.f_are_digits.fd ["text"] (spOf K sp_are_digits) :=
  defD (ws := W_are_digits) T.f_are_digits.fn sc_are_digits len_are_digits (fun cdv A outer s H E gd hr =>
    (qss_one (qs_ret (q_and (q_ascii (qv 0)) (q_one (q_decimal (qv 0))))))) vc_are_digits
theorem ok_loosely_read_numbers (T : Tx K mg) : FnG P w K mg base 2 T.f_loosely_read_numbers.a T.f_loosely_read_numbers.fd ["text"] (spOf K sp_loosely_read_numbers) :=
  defD (ws := W_loosely_read_numbers) T.f_loosely_read_numbers.fn sc_loosely_read_numbers len_loosely_read_numbers (fun cdv A outer s H E gd hr =>
    (qss_cons (qs_asg (q_partT (qv 0) q_str) (qg_tup rfl (qgs_cons (qgn 2 sc_loosely_read_numbers.nd) (qgs_cons (qgn 3 sc_loosely_read_numbers.nd) (qgs_cons (qgn 4 sc_loosely_read_numbers.nd) qgs_nil)))))
    (qss_cons (qset 1 (q_unpre (qv 2) q_str) sc_loosely_read_numbers.nd)
    (qss_cons (qs_if (qt_not (qt_truth (qv 3))) (qss_one (qset 4 q_str sc_loosely_read_numbers.nd)) qss_nil)
    (qss_cons (qs_if (qt_bool (qw_or (qt_not (qt_truth (q_call (ok_are_digits (P := P) (w := w) (base := base) T) gd (hr.mono (by decide)) (by rfl) T.f_are_digits.gl T.f_are_digits.fn.kp T.f_are_digits.bd (takes_of rfl rfl rfl rfl) (qa_cons (qv 1) qa_nil)))) (qw_or1 (qt_not (qt_truth (q_call (ok_are_digits (P := P) (w := w) (base := base) T) gd (hr.mono (by decide)) (by rfl) T.f_are_digits.gl T.f_are_digits.fn.kp T.f_are_digits.bd (takes_of rfl rfl rfl rfl) (qa_cons (qv 4) qa_nil))))))) (qss_one (qs_ret q_non)) qss_nil)
    (qss_cons (qs_if (qt_cmp qo_gt (q_callB (qb_max rfl) (by rfl) T.b_max bt_max (qa_cons (q_callB qb_len (by rfl) T.b_len bt_len (qa_cons (qv 1) qa_nil)) (qa_cons (q_callB qb_len (by rfl) T.b_len bt_len (qa_cons (qv 4) qa_nil)) qa_nil))) (q_callB qb_len (by rfl) T.b_len bt_len (qa_cons (q_callTy qb_str (by rfl) T.b_str bt_str (qa_cons (q_globI (by rfl) T.c_MOST_SIZE) qa_nil)) qa_nil)) (nomark _)) (qss_one (qs_ret q_non)) qss_nil)
    (qss_one (qs_ret (q_tup (qa_cons (q_callTy qb_intT (by rfl) T.b_int bt_int (qa_cons (qv 2) qa_nil)) (qa_cons (q_callTy qb_intT (by rfl) T.b_int bt_int (qa_cons (qv 4) qa_nil)) qa_nil))))))))))) vc_loosely_read_numbers
theorem ok_read_number (T : Tx K mg) : FnG P w K mg base 5 T.f_read_number.a T.f_read_number.fd ["text"] (spOf K (sp_read_number (zOf T))) :=
  defD (ws := W_read_number (zOf T)) T.f_read_number.fn sc_read_number (len_read_number (zOf T)) (fun cdv A outer s H E gd hr =>
    (qss_cons (qs_if (qt_not (qt_truth (q_callB (qb_isi2 "str") (by rfl) T.b_isinstance bt_isinstance (qa_cons (qv 0) (qa_cons (q_bltTy (by rfl) T.b_str bt_str) qa_nil))))) (qss_one (qs_raise rfl T.e_InvalidText.t hr (takes_of rfl rfl rfl rfl) (qa_cons (qv 0) qa_nil) (by rfl))) qss_nil)
    (qss_cons (qset 1 (q_call (ok_loosely_read_numbers (P := P) (w := w) (base := base) T) gd (hr.mono (by decide)) (by rfl) T.f_loosely_read_numbers.gl T.f_loosely_read_numbers.fn.kp T.f_loosely_read_numbers.bd (takes_of rfl rfl rfl rfl) (qa_cons (qv 0) qa_nil)) sc_read_number.nd)
    (qss_cons (qs_if (qt_bool (qw_or (qt_not (qt_truth (q_call (ok_is_number (P := P) (w := w) (base := base) T) gd (hr.mono (by decide)) (by rfl) T.f_is_number.gl T.f_is_number.fn.kp T.f_is_number.bd (takes_of rfl rfl rfl rfl) (qa_cons (qv 1) qa_nil)))) (qw_or1 (qt_cmp (qo_ne hr.units) (q_call (ok_number_text (P := P) (w := w) (base := base) T) gd (hr.mono (by decide)) (by rfl) T.f_number_text.gl T.f_number_text.fn.kp T.f_number_text.bd (takes_of rfl rfl rfl rfl) (qa_cons (qv 1) qa_nil)) (qv 0) (nomark _))))) (qss_one (qs_raise rfl T.e_InvalidText.t hr (takes_of rfl rfl rfl rfl) (qa_cons (qv 0) qa_nil) (by rfl))) qss_nil)
    (qss_one (qs_ret (qv 1))))))) (vc_read_number (zOf T))
theorem ok_check_degree (T : Tx K mg) : FnG P w K mg base 2 T.f_check_degree.a T.f_check_degree.fd ["n", "least", "most"] (spOf K (sp_check_degree (zOf T))) :=
  defDf (ws := W_check_degree (zOf T)) T.f_check_degree.fn sc_check_degree (len_check_degree (zOf T)) (fun cdv A outer s H E gd hr =>
    (qss_one (qs_if (qt_not (qt_truth (q_call (ok_is_between (P := P) (w := w) (base := base) T) gd (hr.mono (by decide)) (by rfl) T.f_is_between.gl T.f_is_between.fn.kp T.f_is_between.bd (takes_of rfl rfl rfl rfl) (qa_cons (qv 0) (qa_cons (qv 1) (qa_cons (qv 2) qa_nil)))))) (qss_one (qs_raise rfl T.e_InvalidDegree.t hr (takes_of rfl rfl rfl rfl) (qa_cons (qv 0) qa_nil) (by rfl))) qss_nil))) (vc_check_degree (zOf T))
theorem ok_power_of (T : Tx K mg) : FnG P w K mg base 1 T.f_power_of.a T.f_power_of.fd ["value", "exponent"] (spOf K sp_power_of) :=
  defD (ws := W_power_of) T.f_power_of.fn sc_power_of len_power_of (fun cdv A outer s H E gd hr =>
    (qss_cons (qset 2 q_int sc_power_of.nd)
    (qss_cons (qs_while (passes_of rfl) (qt_cmp qo_gt (qv 1) q_int (nomark _)) (qss_cons (qs_if (qt_cmp (qo_eq hr.units) (q_op qo_mod (qv 1) q_int) q_int (nomark _)) (qss_one (qset 2 (q_op qo_mul (qv 2) (qv 0)) sc_power_of.nd)) qss_nil)
    (qss_cons (qset 0 (q_op qo_mul (qv 0) (qv 0)) sc_power_of.nd)
    (qss_one (qset 1 (q_op qo_div (qv 1) q_int) sc_power_of.nd)))))
    (qss_one (qs_ret (qv 2)))))) vc_power_of
theorem der_floor_root (T : Tx K mg) {rec : SpD} {j k : Nat} (okrec : FnG P w K mg base j T.f_floor_root.a T.f_floor_root.fd ["value", "n"] (spOf K rec)) (hj : j ≤ k) (hk : 1 ≤ k) {cdv : Value} {A : Around} {outer : List Env} {s : Shared} {H : Hp} {E : XK} (gd : A.guards = some []) (hr : Room k (A.deeper (envOfC "floor_root" (defScope s_floor_root) s.heap.objs.size T.f_floor_root.a cdv))) :
    QSs (cxOf (L2.CX P w) P w K mg base ["value", "n", "size", "root", "half", "lower"] "floor_root" (defScope s_floor_root) T.f_floor_root.a cdv A outer s H E) (fun cls d _ H => E cls d H) (defBody s_floor_root) (W_floor_root rec) :=
  (qss_cons (qs_if (qt_cmp (qo_eq hr.units) (qv 0) q_int (nomark _)) (qss_one (qs_ret q_int)) qss_nil)
    (qss_cons (qset 2 (q_op qo_div (q_op qo_sub (q_op qo_add (q_bits (qv 0)) (qv 1)) q_int) (qv 1)) sc_floor_root.nd)
    (qss_cons (qset 3 (q_op qo_shlW q_int (qv 2)) sc_floor_root.nd)
    (qss_cons (qs_if (qt_bool (qw_and (qt_cmp qo_gt (qv 1) q_int (nomark _)) (qw_and1 (qt_cmp qo_gt (qv 2) q_int (nomark _))))) (qss_cons (qset 4 (q_op qo_div (qv 2) q_int) sc_floor_root.nd)
    (qss_one (qset 3 (q_op qo_shlW (q_op qo_add (q_call okrec gd (hr.mono hj) (by rfl) T.f_floor_root.gl T.f_floor_root.fn.kp T.f_floor_root.bd (takes_of rfl rfl rfl rfl) (qa_cons (q_op qo_shr (qv 0) (q_op qo_mul (qv 1) (qv 4))) (qa_cons (qv 1) qa_nil))) q_int) (qv 4)) sc_floor_root.nd))) qss_nil)
    (qss_one (qs_while (passes_of rfl) (qt_truth q_bl) (qss_cons (qset 5 (q_op qo_div (q_op qo_add (q_op qo_mul (q_op qo_sub (qv 1) q_int) (qv 3)) (q_op qo_div (qv 0) (q_call (ok_power_of (P := P) (w := w) (base := base) T) gd (hr.mono (by omega)) (by rfl) T.f_power_of.gl T.f_power_of.fn.kp T.f_power_of.bd (takes_of rfl rfl rfl rfl) (qa_cons (qv 3) (qa_cons (q_op qo_sub (qv 1) q_int) qa_nil))))) (qv 1)) sc_floor_root.nd)
    (qss_cons (qs_if (qt_cmp qo_ge (qv 5) (qv 3) (nomark _)) (qss_one (qs_ret (qv 3))) qss_nil)
    (qss_one (qset 3 (qv 5) sc_floor_root.nd))))))))))
theorem okr_floor_root (T : Tx K mg) : ∀ d : Nat, FnG P w K mg base (2 + d) T.f_floor_root.a T.f_floor_root.fd ["value", "n"] (spOf K (spr_floor_root d))
  | 0 => defD (ws := W_floor_root spNone) T.f_floor_root.fn sc_floor_root (len_floor_root 0) (fun cdv A outer s H E gd hr => der_floor_root T (fnG_none (k := 1)) (Nat.le_refl _) (by omega) gd hr) (vc_floor_root 0)
  | d + 1 => defD (k := 2 + d) (ws := W_floor_root (spr_floor_root d)) T.f_floor_root.fn sc_floor_root (len_floor_root (d + 1)) (fun cdv A outer s H E gd hr => der_floor_root T (okr_floor_root T d) (Nat.le_refl _) (by omega) gd hr) (vc_floor_root (d + 1))
theorem ok_floor_root (T : Tx K mg) : FnG P w K mg base 12 T.f_floor_root.a T.f_floor_root.fd ["value", "n"] (spOf K sp_floor_root) := okr_floor_root T 10
theorem ok_exact_root (T : Tx K mg) : FnG P w K mg base 13 T.f_exact_root.a T.f_exact_root.fd ["value", "n"] (spOf K sp_exact_root) :=
  defD (ws := W_exact_root) T.f_exact_root.fn sc_exact_root len_exact_root (fun cdv A outer s H E gd hr =>
    (qss_cons (qs_while (passes_of rfl) (qt_cmp (qo_eq hr.units) (q_op qo_mod (qv 1) q_int) q_int (nomark _)) (qss_cons (qset 2 (q_callBf qb_isqrt (by rfl) T.m_isqrt (qa_cons (qv 0) qa_nil)) sc_exact_root.nd)
    (qss_cons (qs_if (qt_cmp (qo_ne hr.units) (q_op qo_mul (qv 2) (qv 2)) (qv 0) (nomark _)) (qss_one (qs_ret q_non)) qss_nil)
    (qss_one (qs_par (i := 0) (j := 1) rfl sc_exact_root.nd rfl rfl (by decide) rfl rfl (qa_cons (qv 2) (qa_cons (q_op qo_div (qv 1) q_int) qa_nil)) (by rfl))))))
    (qss_cons (qs_if (qt_cmp (qo_eq hr.units) (qv 1) q_int (nomark _)) (qss_one (qs_ret (qv 0))) qss_nil)
    (qss_cons (qset 2 (q_call (ok_floor_root (P := P) (w := w) (base := base) T) gd (hr.mono (by decide)) (by rfl) T.f_floor_root.gl T.f_floor_root.fn.kp T.f_floor_root.bd (takes_of rfl rfl rfl rfl) (qa_cons (qv 0) (qa_cons (qv 1) qa_nil))) sc_exact_root.nd)
    (qss_one (qs_ret (q_if (qt_cmp (qo_eq hr.units) (q_call (ok_power_of (P := P) (w := w) (base := base) T) gd (hr.mono (by decide)) (by rfl) T.f_power_of.gl T.f_power_of.fn.kp T.f_power_of.bd (takes_of rfl rfl rfl rfl) (qa_cons (qv 2) (qa_cons (qv 1) qa_nil))) (qv 0) (nomark _)) (qv 2) q_non))))))) vc_exact_root
theorem ok_rough_root_by (T : Tx K mg) : FnG P w K mg base 14 T.f_rough_root_by.a T.f_rough_root_by.fd ["value", "n"] (spOf K sp_rough_root_by) :=
  defD (ws := W_rough_root_by) T.f_rough_root_by.fn sc_rough_root_by len_rough_root_by (fun cdv A outer s H E gd hr =>
    (qss_cons (qs_if (qt_cmp (qo_eq hr.units) (qv 0) q_int (nomark _)) (qss_one (qs_ret (q_tup (qa_cons q_int (qa_cons (qv 1) qa_nil))))) qss_nil)
    (qss_cons (qset 2 q_int sc_rough_root_by.nd)
    (qss_cons (qs_forL (passes_of rfl) rfl (q_globD (by rfl) T.c_POWER_RESTS T.d_POWER_RESTS) (qg_tup rfl (qgs_cons (qgn 3 sc_rough_root_by.nd) (qgs_cons (qgn 4 sc_rough_root_by.nd) (qgs_cons (qgn 5 sc_rough_root_by.nd) qgs_nil)))) (qss_cons (qs_if (qt_cmp qo_le (q_bits (qv 0)) (q_op qo_mul q_int (qv 3)) (nomark _)) (qss_one qs_break) qss_nil)
    (qss_one (qs_while (passes_of rfl) (qt_bool (qw_and (qt_cmp (qo_eq hr.units) (q_op qo_mod (qv 1) (qv 3)) q_int (nomark _)) (qw_and1 (qt_cmp qo_inI (q_op qo_mod (qv 0) (qv 4)) (qv 5) (by rfl))))) (qss_cons (qset 6 (q_call (ok_exact_root (P := P) (w := w) (base := base) T) gd (hr.mono (by decide)) (by rfl) T.f_exact_root.gl T.f_exact_root.fn.kp T.f_exact_root.bd (takes_of rfl rfl rfl rfl) (qa_cons (qv 0) (qa_cons (qv 3) qa_nil))) sc_rough_root_by.nd)
    (qss_cons (qs_if (qt_cmp qo_isN (qv 6) q_non (nomark _)) (qss_one qs_break) qss_nil)
    (qss_one (qs_par3 (i := 0) (j := 1) (l := 2) rfl sc_rough_root_by.nd rfl rfl rfl (by decide) (by decide) (by decide) rfl rfl rfl (qa_cons (qv 6) (qa_cons (q_op qo_div (qv 1) (qv 3)) (qa_cons (q_op qo_mul (qv 2) (qv 3)) qa_nil))) (by rfl)))))))))
    (qss_one (qs_ret (q_tup (qa_cons (qv 0) (qa_cons (qv 2) qa_nil))))))))) vc_rough_root_by
theorem der_divided_out (T : Tx K mg) {rec : SpD} {j k : Nat} (okrec : FnG P w K mg base j T.f_divided_out.a T.f_divided_out.fd ["value", "divisor"] (spOf K rec)) (hj : j ≤ k) (hk : 0 ≤ k) {cdv : Value} {A : Around} {outer : List Env} {s : Shared} {H : Hp} {E : XK} (gd : A.guards = some []) (hr : Room k (A.deeper (envOfC "divided_out" (defScope s_divided_out) s.heap.objs.size T.f_divided_out.a cdv))) :
    QSs (cxOf (L2.CX P w) P w K mg base ["value", "divisor", "square", "times", "left"] "divided_out" (defScope s_divided_out) T.f_divided_out.a cdv A outer s H E) (fun cls d _ H => E cls d H) (defBody s_divided_out) (W_divided_out rec) :=
  (qss_cons (qset 2 (q_op qo_mul (qv 1) (qv 1)) sc_divided_out.nd)
    (qss_cons (qs_if (qt_cmp (qo_ne hr.units) (q_op qo_mod (qv 0) (qv 2)) q_int (nomark _)) (qss_one (qs_ret (q_tup (qa_cons q_int (qa_cons (q_op qo_div (qv 0) (qv 1)) qa_nil))))) qss_nil)
    (qss_cons (qs_asg (q_call okrec gd (hr.mono hj) (by rfl) T.f_divided_out.gl T.f_divided_out.fn.kp T.f_divided_out.bd (takes_of rfl rfl rfl rfl) (qa_cons (qv 0) (qa_cons (qv 2) qa_nil))) (qg_tup rfl (qgs_cons (qgn 3 sc_divided_out.nd) (qgs_cons (qgn 4 sc_divided_out.nd) qgs_nil))))
    (qss_cons (qs_if (qt_cmp (qo_ne hr.units) (q_op qo_mod (qv 4) (qv 1)) q_int (nomark _)) (qss_one (qs_ret (q_tup (qa_cons (q_op qo_mul q_int (qv 3)) (qa_cons (qv 4) qa_nil))))) qss_nil)
    (qss_one (qs_ret (q_tup (qa_cons (q_op qo_add (q_op qo_mul q_int (qv 3)) q_int) (qa_cons (q_op qo_div (qv 4) (qv 1)) qa_nil)))))))))
theorem okr_divided_out (T : Tx K mg) : ∀ d : Nat, FnG P w K mg base (1 + d) T.f_divided_out.a T.f_divided_out.fd ["value", "divisor"] (spOf K (spr_divided_out d))
  | 0 => defD (ws := W_divided_out spNone) T.f_divided_out.fn sc_divided_out (len_divided_out 0) (fun cdv A outer s H E gd hr => der_divided_out T (fnG_none (k := 0)) (Nat.le_refl _) (by omega) gd hr) (vc_divided_out 0)
  | d + 1 => defD (k := 1 + d) (ws := W_divided_out (spr_divided_out d)) T.f_divided_out.fn sc_divided_out (len_divided_out (d + 1)) (fun cdv A outer s H E gd hr => der_divided_out T (okr_divided_out T d) (Nat.le_refl _) (by omega) gd hr) (vc_divided_out (d + 1))
theorem ok_divided_out (T : Tx K mg) : FnG P w K mg base 9 T.f_divided_out.a T.f_divided_out.fd ["value", "divisor"] (spOf K sp_divided_out) := okr_divided_out T 8
theorem ok_integer_root_by (T : Tx K mg) : FnG P w K mg base 15 T.f_integer_root_by.a T.f_integer_root_by.fd ["value", "n"] (spOf K sp_integer_root_by) :=
  defDp (ws := W_integer_root_by) T.f_integer_root_by.fn sc_integer_root_by len_integer_root_by (fun cdv A outer s H E gd hr =>
    (qss_cons (qs_if (qt_cmp (qo_eq hr.units) (qv 0) q_int (nomark _)) (qss_one (qs_ret (q_tup (qa_cons q_int (qa_cons (qv 1) qa_nil))))) qss_nil)
    (qss_cons (qset 2 (q_callBf qb_gcd (by rfl) T.m_gcd (qa_cons (qv 0) (qa_cons (q_globI (by rfl) T.c_SMALL_PRIMES) qa_nil))) sc_integer_root_by.nd)
    (qss_cons (qs_if (qt_bool (qw_and (qt_cmp qo_gt (qv 2) q_int (nomark _)) (qw_and1 (qt_cmp (qo_ne hr.units) (q_op qo_mod (qv 0) (q_op qo_mul (qv 2) (qv 2))) q_int (nomark _))))) (qss_one (qs_ret (q_tup (qa_cons (qv 0) (qa_cons q_int qa_nil))))) qss_nil)
    (qss_cons (qset 3 (q_lst qa_nil) sc_integer_root_by.nd)
    (qss_cons (qset 4 (qv 0) sc_integer_root_by.nd)
    (qss_cons (qs_while (passes_of rfl) (qt_cmp qo_gt (qv 2) q_int (nomark _)) (qss_cons (qs_asg (q_call (ok_divided_out (P := P) (w := w) (base := base) T) gd (hr.mono (by decide)) (by rfl) T.f_divided_out.gl T.f_divided_out.fn.kp T.f_divided_out.bd (takes_of rfl rfl rfl rfl) (qa_cons (qv 4) (qa_cons (qv 2) qa_nil))) (qg_tup rfl (qgs_cons (qgn 7 sc_integer_root_by.nd) (qgs_cons (qgn 4 sc_integer_root_by.nd) qgs_nil))))
    (qss_cons (qset 1 (q_callBf qb_gcd (by rfl) T.m_gcd (qa_cons (qv 1) (qa_cons (qv 7) qa_nil))) sc_integer_root_by.nd)
    (qss_cons (qs_if (qt_cmp (qo_eq hr.units) (qv 1) q_int (nomark _)) (qss_one (qs_ret (q_tup (qa_cons (qv 0) (qa_cons q_int qa_nil))))) qss_nil)
    (qss_cons (qs_expr (q_app (qv 3) (q_tup (qa_cons (qv 2) (qa_cons (qv 7) qa_nil)))))
    (qss_one (qset 2 (q_callBf qb_gcd (by rfl) T.m_gcd (qa_cons (qv 4) (qa_cons (qv 2) qa_nil))) sc_integer_root_by.nd)))))))
    (qss_cons (qs_asg (q_call (ok_rough_root_by (P := P) (w := w) (base := base) T) gd (hr.mono (by decide)) (by rfl) T.f_rough_root_by.gl T.f_rough_root_by.fn.kp T.f_rough_root_by.bd (takes_of rfl rfl rfl rfl) (qa_cons (qv 4) (qa_cons (qv 1) qa_nil))) (qg_tup rfl (qgs_cons (qgn 5 sc_integer_root_by.nd) (qgs_cons (qgn 6 sc_integer_root_by.nd) qgs_nil))))
    (qss_cons (qs_if (qt_cmp (qo_eq hr.units) (qv 6) q_int (nomark _)) (qss_one (qs_ret (q_tup (qa_cons (qv 0) (qa_cons q_int qa_nil))))) qss_nil)
    (qss_cons (qs_forL (passes_of rfl) rfl (qv 3) (qg_tup rfl (qgs_cons (qgn 2 sc_integer_root_by.nd) (qgs_cons (qgn 7 sc_integer_root_by.nd) qgs_nil))) (qss_one (qset 5 (q_op qo_mul (qv 5) (q_call (ok_power_of (P := P) (w := w) (base := base) T) gd (hr.mono (by decide)) (by rfl) T.f_power_of.gl T.f_power_of.fn.kp T.f_power_of.bd (takes_of rfl rfl rfl rfl) (qa_cons (qv 2) (qa_cons (q_op qo_div (qv 7) (qv 6)) qa_nil)))) sc_integer_root_by.nd)))
    (qss_one (qs_ret (q_tup (qa_cons (qv 5) (qa_cons (qv 6) qa_nil))))))))))))))) vc_integer_root_by
theorem ok_fraction_root_by (T : Tx K mg) : FnG P w K mg base 16 T.f_fraction_root_by.a T.f_fraction_root_by.fd ["top", "bottom", "n"] (spOf K sp_fraction_root_by) :=
  defD (ws := W_fraction_root_by) T.f_fraction_root_by.fn sc_fraction_root_by len_fraction_root_by (fun cdv A outer s H E gd hr =>
    (qss_cons (qs_if (qt_cmp (qo_eq hr.units) (qv 0) (qv 1) (nomark _)) (qss_one (qs_ret (q_tup (qa_cons (q_tup (qa_cons q_int (qa_cons q_int qa_nil))) (qa_cons (qv 2) qa_nil))))) qss_nil)
    (qss_cons (qs_asg (q_call (ok_integer_root_by (P := P) (w := w) (base := base) T) gd (hr.mono (by decide)) (by rfl) T.f_integer_root_by.gl T.f_integer_root_by.fn.kp T.f_integer_root_by.bd (takes_of rfl rfl rfl rfl) (qa_cons (qv 0) (qa_cons (qv 2) qa_nil))) (qg_tup rfl (qgs_cons (qgn 3 sc_fraction_root_by.nd) (qgs_cons (qgn 4 sc_fraction_root_by.nd) qgs_nil))))
    (qss_cons (qs_if (qt_cmp (qo_eq hr.units) (qv 4) q_int (nomark _)) (qss_one (qs_ret (q_tup (qa_cons (q_tup (qa_cons (qv 0) (qa_cons (qv 1) qa_nil))) (qa_cons q_int qa_nil))))) qss_nil)
    (qss_cons (qs_asg (q_call (ok_integer_root_by (P := P) (w := w) (base := base) T) gd (hr.mono (by decide)) (by rfl) T.f_integer_root_by.gl T.f_integer_root_by.fn.kp T.f_integer_root_by.bd (takes_of rfl rfl rfl rfl) (qa_cons (qv 1) (qa_cons (qv 4) qa_nil))) (qg_tup rfl (qgs_cons (qgn 5 sc_fraction_root_by.nd) (qgs_cons (qgn 6 sc_fraction_root_by.nd) qgs_nil))))
    (qss_cons (qs_if (qt_cmp (qo_eq hr.units) (qv 6) q_int (nomark _)) (qss_one (qs_ret (q_tup (qa_cons (q_tup (qa_cons (qv 0) (qa_cons (qv 1) qa_nil))) (qa_cons q_int qa_nil))))) qss_nil)
    (qss_one (qs_ret (q_tup (qa_cons (q_tup (qa_cons (q_call (ok_power_of (P := P) (w := w) (base := base) T) gd (hr.mono (by decide)) (by rfl) T.f_power_of.gl T.f_power_of.fn.kp T.f_power_of.bd (takes_of rfl rfl rfl rfl) (qa_cons (qv 3) (qa_cons (q_op qo_div (qv 4) (qv 6)) qa_nil))) (qa_cons (qv 5) qa_nil))) (qa_cons (qv 6) qa_nil))))))))))) vc_fraction_root_by
theorem ok_Root_init (T : Tx K mg) : FnG P w K mg base 17 T.f_Root_init.a T.f_Root_init.fd ["self", "number", "n"] (spOf K (sp_Root_init (zOf T))) :=
  defD (ws := W_Root_init (zOf T)) T.f_Root_init.fn sc_Root_init (len_Root_init (zOf T)) (fun cdv A outer s H E gd hr =>
    (qss_cons (qs_if (qt_bool (qw_or (qt_not (qt_truth (q_call (ok_is_number (P := P) (w := w) (base := base) T) gd (hr.mono (by decide)) (by rfl) T.f_is_number.gl T.f_is_number.fn.kp T.f_is_number.bd (takes_of rfl rfl rfl rfl) (qa_cons (qv 1) qa_nil)))) (qw_or1 (qt_cmp qo_lt (q_ix (qv 1) q_int (fun _ _ => rfl)) q_int (nomark _))))) (qss_one (qs_raise rfl T.e_InvalidNumber.t hr (takes_of rfl rfl rfl rfl) (qa_cons (qv 1) qa_nil) (by rfl))) qss_nil)
    (qss_cons (qs_expr (q_callD (ok_check_degree (P := P) (w := w) (base := base) T) gd (hr.mono (by decide)) (by rfl) T.f_check_degree.gl T.f_check_degree.fn.kp (bd_check_degree_3 T.f_check_degree.fn) (takes_of rfl rfl rfl rfl) (qa_cons (qv 2) (qa_cons q_int (qa_cons (q_globI (by rfl) T.c_MOST_DEGREE) qa_nil)))))
    (qss_cons (qs_asg (q_call (ok_fraction_root_by (P := P) (w := w) (base := base) T) gd (hr.mono (by decide)) (by rfl) T.f_fraction_root_by.gl T.f_fraction_root_by.fn.kp T.f_fraction_root_by.bd (takes_of rfl rfl rfl rfl) (qa_cons (q_ix (qv 1) q_int (fun _ _ => rfl)) (qa_cons (q_ix (qv 1) q_int (fun _ _ => rfl)) (qa_cons (qv 2) qa_nil)))) (qg_tup rfl (qgs_cons (qgn 3 sc_Root_init.nd) (qgs_cons (qgn 4 sc_Root_init.nd) qgs_nil))))
    (qss_cons (qs_fld T.k_Root.cls T.na_Root__degree (qv 0) (q_op qo_div (qv 2) (qv 4)))
    (qss_one (qs_fld T.k_Root.cls T.na_Root__number (qv 0) (qv 3)))))))) (vc_Root_init (zOf T))
theorem ok_loosely_read_roots (T : Tx K mg) : FnG P w K mg base 19 T.f_loosely_read_roots.a T.f_loosely_read_roots.fd ["text"] (spOf K (sp_loosely_read_roots (zOf T))) :=
  defD (ws := W_loosely_read_roots (zOf T)) T.f_loosely_read_roots.fn sc_loosely_read_roots (len_loosely_read_roots (zOf T)) (fun cdv A outer s H E gd hr =>
    (qss_cons (qs_if (qt_not (qt_truth (q_callB (qb_isi2 "str") (by rfl) T.b_isinstance bt_isinstance (qa_cons (qv 0) (qa_cons (q_bltTy (by rfl) T.b_str bt_str) qa_nil))))) (qss_one (qs_ret q_non)) qss_nil)
    (qss_cons (qs_asg (q_partT (qv 0) q_str) (qg_tup rfl (qgs_cons (qgn 1 sc_loosely_read_roots.nd) (qgs_cons (qgn 2 sc_loosely_read_roots.nd) (qgs_cons (qgn 3 sc_loosely_read_roots.nd) qgs_nil)))))
    (qss_cons (qs_if (qt_bool (qw_or (qt_cmp qo_gt (q_callB qb_len (by rfl) T.b_len bt_len (qa_cons (qv 1) qa_nil)) q_int (nomark _)) (qw_or1 (qt_not (qt_truth (q_call (ok_are_digits (P := P) (w := w) (base := base) T) gd (hr.mono (by decide)) (by rfl) T.f_are_digits.gl T.f_are_digits.fn.kp T.f_are_digits.bd (takes_of rfl rfl rfl rfl) (qa_cons (qv 1) qa_nil))))))) (qss_one (qs_ret q_non)) qss_nil)
    (qss_one (qs_tryOnly3 rfl rfl ⟨by rfl, by decide, .inl T.n_InvalidText.g⟩ ⟨by rfl, by decide, .inl T.n_InvalidNumber.g⟩ ⟨by rfl, by decide, .inl T.n_InvalidDegree.g⟩ (takes_of rfl rfl rfl rfl) (fun W' pn xe tk' po => (qss_one (qs_ret (q_make (MthT.mkr T.k_Root T.f_Root_init rfl) (ok_Root_init (P := P) (w := w) (base := base) T) gd (hr.mono (by decide)) (by rfl) T.k_Root.gC T.f_Root_init.bd tk' (qa_cons (q_call (ok_read_number (P := P) (w := w) (base := base) T) gd (hr.mono (by decide)) (by rfl) T.f_read_number.gl T.f_read_number.fn.kp T.f_read_number.bd tk' (qa_cons (qv 3) qa_nil)) (qa_cons (q_callTy qb_intT (by rfl) T.b_int bt_int (qa_cons (qv 1) qa_nil)) qa_nil)))))) (fun a oe cls d pn hz hf => (qss_one (qs_ret q_non))))))))) (vc_loosely_read_roots (zOf T))
theorem ok_root_or_none (T : Tx K mg) : FnG P w K mg base 20 T.f_root_or_none.a T.f_root_or_none.fd ["text"] (spOf K (sp_root_or_none (zOf T))) :=
  defD (ws := W_root_or_none (zOf T)) T.f_root_or_none.fn sc_root_or_none (len_root_or_none (zOf T)) (fun cdv A outer s H E gd hr =>
    (qss_cons (qset 1 (q_call (ok_loosely_read_roots (P := P) (w := w) (base := base) T) gd (hr.mono (by decide)) (by rfl) T.f_loosely_read_roots.gl T.f_loosely_read_roots.fn.kp T.f_loosely_read_roots.bd (takes_of rfl rfl rfl rfl) (qa_cons (qv 0) qa_nil)) sc_root_or_none.nd)
    (qss_cons (qs_if (qt_bool (qw_or (qt_cmp qo_isN (qv 1) q_non (nomark _)) (qw_or1 (qt_cmp (qo_ne hr.units) (q_callTy (qb_strO (ok_Root_str (P := P) (w := w) (base := base) T) gd (hr.mono (by decide)) T.f_Root_str.me T.f_Root_str.bd) (by rfl) T.b_str bt_str (qa_cons (qv 1) qa_nil)) (qv 0) (nomark _))))) (qss_one (qs_ret q_non)) qss_nil)
    (qss_one (qs_ret (qv 1)))))) (vc_root_or_none (zOf T))
theorem ok_Root_read (T : Tx K mg) : FnG P w K mg base 21 T.f_Root_read.a T.f_Root_read.fd ["text"] (spOf K (sp_Root_read (zOf T))) :=
  defD (ws := W_Root_read (zOf T)) T.f_Root_read.fn sc_Root_read (len_Root_read (zOf T)) (fun cdv A outer s H E gd hr =>
    (qss_cons (qset 1 (q_call (ok_root_or_none (P := P) (w := w) (base := base) T) gd (hr.mono (by decide)) (by rfl) T.f_root_or_none.gl T.f_root_or_none.fn.kp T.f_root_or_none.bd (takes_of rfl rfl rfl rfl) (qa_cons (qv 0) qa_nil)) sc_Root_read.nd)
    (qss_cons (qs_if (qt_cmp qo_isN (qv 1) q_non (nomark _)) (qss_one (qs_raise rfl T.e_InvalidText.t hr (takes_of rfl rfl rfl rfl) (qa_cons (qv 0) qa_nil) (by rfl))) qss_nil)
    (qss_one (qs_ret (qv 1)))))) (vc_Root_read (zOf T))
theorem ok_l_by_hand (T : Tx K mg) (TB : ∀ m ∈ mks T, LamX.TabB base mg m.c m.p) : FnG P w K mg base 24 T.f_l_by_hand.a T.f_l_by_hand.fd [] (spOf K (sp_l_by_hand (zOf T))) :=
  defDc (ws := W_l_by_hand (zOf T)) T.m_l_by_hand.fc sc_l_by_hand (len_l_by_hand (zOf T)) (fun A outer s H E gd hr =>
    (qss_cons (qset 0 (q_lst (qa_cons q_str (qa_cons q_str (qa_cons q_str (qa_cons q_str (qa_cons q_str (qa_cons q_str (qa_cons q_str (qa_cons q_str (qa_cons q_str (qa_cons q_str qa_nil))))))))))) sc_l_by_hand.nd)
    (qss_cons (qset 0 (q_op qo_add (qv 0) (q_lst (qa_cons q_str (qa_cons q_str (qa_cons q_str (qa_cons q_str (qa_cons q_str (qa_cons q_str (qa_cons q_str (qa_cons q_str (qa_cons q_str qa_nil))))))))))) sc_l_by_hand.nd)
    (qss_cons (qset 0 (q_op qo_add (qv 0) (q_lst (qa_cons q_str (qa_cons (q_op qo_add (q_op qo_add q_str (q_op qo_mulS q_str q_int)) q_str) (qa_cons (q_op qo_add (q_op qo_add q_str (q_op qo_mulS q_str q_int)) q_str) (qa_cons q_str (qa_cons q_str (qa_cons q_str qa_nil)))))))) sc_l_by_hand.nd)
    (qss_cons (qset 0 (q_op qo_add (qv 0) (q_lst (qa_cons q_str (qa_cons q_str qa_nil)))) sc_l_by_hand.nd)
    (qss_cons (qs_forL (passes_of rfl) rfl (qv 0) (qgn 1 sc_l_by_hand.nd) (qss_one (qs_if (qt_cmp (qo_ne hr.units) (q_lam (k := 21) (Ng := ["_law_act_now", "_law_e", "_law_found"]) (wg := W_l_tell (zOf T)) T.f_l_tell.fn sc_l_tell gd (hr.mono (by decide)) (by rfl) T.f_l_tell.gl T.f_l_tell.bd (takes_of rfl rfl rfl rfl) (by rfl) (Or.inl rfl) (TB (T.m_l_by_hand.mk q_l_by_hand) (List.mem_cons_of_mem _ (List.mem_cons_self ..))) (by rfl) (LamX.lamS_by (sc := defScope s_l_by_hand) (by decide +kernel)) (by rfl) (fun _ _ _ _ _ => by rfl) (fun cdg s H E wact hr' hact => hg_l_tell T gd (hr'.mono (by decide)) hact) (fun A outer s H E f c' gd hr => (q_sta T.f_Root_read (ok_Root_read (P := P) (w := w) (base := base) T) gd (hr.mono (by decide)) (takes_of rfl rfl rfl rfl) (q_globA (by rfl) T.k_Root.gC) (qa_cons (qv 1) qa_nil)))) (q_lst (qa_cons q_str (qa_cons q_str (qa_cons (q_callB (qb_repr3 gd hr.units) (by rfl) T.b_repr bt_repr (qa_cons (qv 1) qa_nil)) qa_nil)))) (nomark _)) (qss_one (qs_ret q_bl)) qss_nil)))
    (qss_cons (qset 2 (q_lst (qa_cons q_str (qa_cons q_str (qa_cons q_str (qa_cons q_str (qa_cons q_str (qa_cons q_str (qa_cons (q_op qo_add q_str (q_op qo_mulS q_str q_int)) qa_nil)))))))) sc_l_by_hand.nd)
    (qss_cons (qs_expr (q_app (qv 2) (q_op qo_add q_str (q_op qo_mulS q_str q_int))))
    (qss_one (qs_ret (q_cmp (qo_eq hr.units) (qe_lcL (i := 1) rfl sc_l_by_hand.nd (qv 2) (blkOk_by (own := [("_law_each", 1)]) (N := ["_law_bad", "_law_each", "_law_good"]) (sc := defScope s_l_by_hand) (by decide +kernel)) (fun _ _ _ _ _ => pg_name (i := 1) sc_l_by_hand.nd rfl (by first | exact Or.inl rfl | exact Or.inr rfl)) (fun _ _ _ _ _ => qts_nil) (fun _ _ _ _ _ => (q_callTy (qb_strO (ok_Root_str (P := P) (w := w) (base := base) T) gd (hr.mono (by decide)) T.f_Root_str.me T.f_Root_str.bd) (by rfl) T.b_str bt_str (qa_cons (q_sta T.f_Root_read (ok_Root_read (P := P) (w := w) (base := base) T) gd (hr.mono (by decide)) takes0 (q_globA (by rfl) T.k_Root.gC) (qa_cons (qv 1) qa_nil)) qa_nil)))) (qv 2) (nomark _)))))))))))) (vc_l_by_hand (zOf T))
theorem ok_l_gcd (T : Tx K mg) : FnG P w K mg base 1 T.f_l_gcd.a T.f_l_gcd.fd ["_law_high", "_law_low_here"] (spOf K sp_l_gcd) :=
  defD (ws := W_l_gcd) T.f_l_gcd.fn sc_l_gcd len_l_gcd (fun cdv A outer s H E gd hr =>
    (qss_cons (qs_while (passes_of rfl) (qt_cmp qo_gt (qv 1) q_int (nomark _)) (qss_one (qs_par (i := 0) (j := 1) rfl sc_l_gcd.nd rfl rfl (by decide) rfl rfl (qa_cons (qv 1) (qa_cons (q_op qo_mod (q_callTy qb_int (by rfl) T.b_int bt_int (qa_cons (qv 0) qa_nil)) (qv 1)) qa_nil)) (by rfl))))
    (qss_one (qs_ret (qv 0))))) vc_l_gcd
theorem ok_l_low (T : Tx K mg) : FnG P w K mg base 2 T.f_l_low.a T.f_l_low.fd ["_law_exps_here", "_law_nth"] (spOf K sp_l_low) :=
  defD (ws := W_l_low) T.f_l_low.fn sc_l_low len_l_low (fun cdv A outer s H E gd hr =>
    (qss_cons (qset 2 (qv 1) sc_l_low.nd)
    (qss_cons (qs_forL (passes_of rfl) rfl (qv 0) (qgn 3 sc_l_low.nd) (qss_one (qset 2 (q_call (ok_l_gcd (P := P) (w := w) (base := base) T) gd (hr.mono (by decide)) (by rfl) T.f_l_gcd.gl T.f_l_gcd.fn.kp T.f_l_gcd.bd (takes_of rfl rfl rfl rfl) (qa_cons (qv 2) (qa_cons (q_callB qb_abs (by rfl) T.b_abs bt_abs (qa_cons (qv 3) qa_nil)) qa_nil))) sc_l_low.nd)))
    (qss_one (qs_ret (q_lst (qa_cons (qe_lcL (i := 3) rfl sc_l_low.nd (qv 0) (blkOk_by (own := [("_law_each", 3)]) (N := ["_law_exps_here", "_law_nth", "_law_both", "_law_each"]) (sc := defScope s_l_low) (by decide +kernel)) (fun _ _ _ _ _ => pg_name (i := 3) sc_l_low.nd rfl (by first | exact Or.inl rfl | exact Or.inr rfl)) (fun _ _ _ _ _ => qts_nil) (fun _ _ _ _ _ => (q_op qo_div (qv 3) (qv 2)))) (qa_cons (q_op qo_div (qv 1) (qv 2)) qa_nil)))))))) vc_l_low
theorem ok_l_text (T : Tx K mg) : FnG P w K mg base 1 T.f_l_text.a T.f_l_text.fd ["_law_fraction"] (spOf K sp_l_text) :=
  defD (ws := W_l_text) T.f_l_text.fn sc_l_text len_l_text (fun cdv A outer s H E gd hr =>
    (qss_one (qs_ret (q_if (qt_cmp (qo_eq hr.units) (q_ix (qv 0) q_int (fun _ _ => rfl)) q_int (nomark _)) (q_callTy qb_str (by rfl) T.b_str bt_str (qa_cons (q_ix (qv 0) q_int (fun _ _ => rfl)) qa_nil)) (q_op qo_add (q_op qo_add (q_callTy qb_str (by rfl) T.b_str bt_str (qa_cons (q_ix (qv 0) q_int (fun _ _ => rfl)) qa_nil)) q_str) (q_callTy qb_str (by rfl) T.b_str bt_str (qa_cons (q_ix (qv 0) q_int (fun _ _ => rfl)) qa_nil))))))) vc_l_text
theorem ok_l_to (T : Tx K mg) : FnG P w K mg base 1 T.f_l_to.a T.f_l_to.fd ["_law_base_now", "_law_count_now"] (spOf K sp_l_to) :=
  defD (ws := W_l_to) T.f_l_to.fn sc_l_to len_l_to (fun cdv A outer s H E gd hr =>
    (qss_cons (qset 2 q_int sc_l_to.nd)
    (qss_cons (qs_forR1 (passes_of rfl) rfl (by rfl) T.b_range (qa_cons (qv 1) qa_nil) (qgn 3 sc_l_to.nd) (qss_one (qset 2 (q_op qo_mul (qv 2) (qv 0)) sc_l_to.nd)))
    (qss_one (qs_ret (qv 2)))))) vc_l_to
theorem ok_l_value (T : Tx K mg) : FnG P w K mg base 2 T.f_l_value.a T.f_l_value.fd ["_law_exps_here"] (spOf K sp_l_value) :=
  defD (ws := W_l_value) T.f_l_value.fn sc_l_value len_l_value (fun cdv A outer s H E gd hr =>
    (qss_cons (qs_asg (q_tup (qa_cons q_int (qa_cons q_int qa_nil))) (qg_tup rfl (qgs_cons (qgn 1 sc_l_value.nd) (qgs_cons (qgn 2 sc_l_value.nd) qgs_nil))))
    (qss_cons (qs_forZ (passes_of rfl) rfl (by rfl) T.b_zip (qa_cons (q_lst (qa_cons q_int (qa_cons q_int (qa_cons q_int (qa_cons q_int qa_nil))))) (qa_cons (qv 0) qa_nil)) (qg_tup rfl (qgs_cons (qgn 3 sc_l_value.nd) (qgs_cons (qgn 4 sc_l_value.nd) qgs_nil))) (qss_one (qs_par (i := 1) (j := 2) rfl sc_l_value.nd rfl rfl (by decide) rfl rfl (qa_cons (q_op qo_mul (qv 1) (q_call (ok_l_to (P := P) (w := w) (base := base) T) gd (hr.mono (by decide)) (by rfl) T.f_l_to.gl T.f_l_to.fn.kp T.f_l_to.bd (takes_of rfl rfl rfl rfl) (qa_cons (qv 3) (qa_cons (q_callB (qb_max rfl) (by rfl) T.b_max bt_max (qa_cons (qv 4) (qa_cons q_int qa_nil))) qa_nil)))) (qa_cons (q_op qo_mul (qv 2) (q_call (ok_l_to (P := P) (w := w) (base := base) T) gd (hr.mono (by decide)) (by rfl) T.f_l_to.gl T.f_l_to.fn.kp T.f_l_to.bd (takes_of rfl rfl rfl rfl) (qa_cons (qv 3) (qa_cons (q_callB (qb_max rfl) (by rfl) T.b_max bt_max (qa_cons (q_neg (qv 4)) (qa_cons q_int qa_nil))) qa_nil)))) qa_nil)) (by rfl))))
    (qss_one (qs_ret (q_tup (qa_cons (qv 1) (qa_cons (qv 2) qa_nil)))))))) vc_l_value
theorem ok_l_said (T : Tx K mg) : FnG P w K mg base 3 T.f_l_said.a T.f_l_said.fd ["_law_rooted"] (spOf K sp_l_said) :=
  defD (ws := W_l_said) T.f_l_said.fn sc_l_said len_l_said (fun cdv A outer s H E gd hr =>
    (qss_cons (qs_asg (q_call (ok_l_low (P := P) (w := w) (base := base) T) gd (hr.mono (by decide)) (by rfl) T.f_l_low.gl T.f_l_low.fn.kp T.f_l_low.bd (takes_of rfl rfl rfl rfl) (qa_cons (q_ix (qv 0) q_int (fun _ _ => rfl)) (qa_cons (q_ix (qv 0) q_int (fun _ _ => rfl)) qa_nil))) (qg_tup rfl (qgs_cons (qgn 1 sc_l_said.nd) (qgs_cons (qgn 2 sc_l_said.nd) qgs_nil))))
    (qss_one (qs_ret (q_op qo_add (q_op qo_add (q_callTy qb_str (by rfl) T.b_str bt_str (qa_cons (qv 2) qa_nil)) q_str) (q_call (ok_l_text (P := P) (w := w) (base := base) T) gd (hr.mono (by decide)) (by rfl) T.f_l_text.gl T.f_l_text.fn.kp T.f_l_text.bd (takes_of rfl rfl rfl rfl) (qa_cons (q_call (ok_l_value (P := P) (w := w) (base := base) T) gd (hr.mono (by decide)) (by rfl) T.f_l_value.gl T.f_l_value.fn.kp T.f_l_value.bd (takes_of rfl rfl rfl rfl) (qa_cons (qv 1) qa_nil)) qa_nil))))))) vc_l_said
theorem ok_l_tap (T : Tx K mg) : FnG P w K mg base 1 T.f_l_tap.a T.f_l_tap.fd ["_law_keg", "_law_count_now"] (spOf K sp_l_tap) :=
  defD (ws := W_l_tap) T.f_l_tap.fn sc_l_tap len_l_tap (fun cdv A outer s H E gd hr =>
    (qss_cons (qs_asg (q_op qo_add (q_ix (qv 0) q_int (fun _ _ => rfl)) q_int) (qg_sub (qv 0) q_int))
    (qss_cons (qs_asg (q_op qo_mod (q_callTy qb_int (by rfl) T.b_int bt_int (qa_cons (q_op qo_add (q_op qo_add (q_op qo_mul (q_ix (qv 0) q_int (fun _ _ => rfl)) q_int) (q_op qo_mul q_int (q_ix (qv 0) q_int (fun _ _ => rfl)))) q_int) qa_nil)) q_int) (qg_sub (qv 0) q_int))
    (qss_cons (qs_if (qt_cmp qo_gt (q_ix (qv 0) q_int (fun _ _ => rfl)) q_int (nomark _)) (qss_cons (qs_asg (q_callB qb_divmod (by rfl) T.b_divmod bt_divmod (qa_cons (q_callTy qb_int (by rfl) T.b_int bt_int (qa_cons (q_ix (qv 0) q_int (fun _ _ => rfl)) qa_nil)) (qa_cons (qv 1) qa_nil))) (qg_tup rfl (qgs_cons (qg_sub (qv 0) q_int) (qgs_cons (qgn 3 sc_l_tap.nd) qgs_nil))))
    (qss_one (qs_ret (qv 3)))) qss_nil)
    (qss_cons (qset 2 (q_op qo_mod (q_callTy qb_int (by rfl) T.b_int bt_int (qa_cons (q_op qo_add (q_op qo_mul (q_ix (qv 0) q_int (fun _ _ => rfl)) (q_op qo_add (q_ix (qv 0) q_int (fun _ _ => rfl)) (q_op qo_mul q_int (q_ix (qv 0) q_int (fun _ _ => rfl))))) q_int) qa_nil)) q_int) sc_l_tap.nd)
    (qss_one (qs_ret (q_op qo_mod (q_callTy qb_int (by rfl) T.b_int bt_int (qa_cons (q_op qo_div (qv 2) q_int) qa_nil)) (qv 1))))))))) vc_l_tap
theorem ok_l_of (T : Tx K mg) : FnG P w K mg base 2 T.f_l_of.a T.f_l_of.fd ["_law_keg", "_law_some"] (spOf K sp_l_of) :=
  defD (ws := W_l_of) T.f_l_of.fn sc_l_of len_l_of (fun cdv A outer s H E gd hr =>
    (qss_one (qs_ret (q_ix (qv 1) (q_call (ok_l_tap (P := P) (w := w) (base := base) T) gd (hr.mono (by decide)) (by rfl) T.f_l_tap.gl T.f_l_tap.fn.kp T.f_l_tap.bd (takes_of rfl rfl rfl rfl) (qa_cons (qv 0) (qa_cons (q_callB qb_len (by rfl) T.b_len bt_len (qa_cons (qv 1) qa_nil)) qa_nil))) (fun _ _ => rfl))))) vc_l_of
theorem ok_l_odd (T : Tx K mg) : FnG P w K mg base 3 T.f_l_odd.a T.f_l_odd.fd ["_law_keg"] (spOf K sp_l_odd) :=
  defD (ws := W_l_odd) T.f_l_odd.fn sc_l_odd len_l_odd (fun cdv A outer s H E gd hr =>
    (qss_cons (qset 1 (q_lst (qa_cons q_non (qa_cons q_bl (qa_cons q_bl (qa_cons q_int (qa_cons q_int (qa_cons (q_neg q_int) (qa_cons q_int (qa_cons q_int (qa_cons q_int (qa_cons q_int (qa_cons q_int (qa_cons (q_op qo_add (q_op qo_pow q_int q_int) q_int) (qa_cons q_str (qa_cons q_str (qa_cons q_str (qa_cons q_str (qa_cons (q_tup qa_nil) (qa_cons (q_tup (qa_cons q_int qa_nil)) qa_nil))))))))))))))))))) sc_l_odd.nd)
    (qss_cons (qset 1 (q_op qo_add (qv 1) (q_lst (qa_cons (q_tup (qa_cons q_int (qa_cons q_int qa_nil))) (qa_cons (q_tup (qa_cons q_int (qa_cons q_int qa_nil))) (qa_cons (q_tup (qa_cons q_int (qa_cons q_int qa_nil))) (qa_cons (q_tup (qa_cons q_int (qa_cons q_int qa_nil))) (qa_cons (q_tup (qa_cons (q_neg q_int) (qa_cons q_int qa_nil))) (qa_cons (q_lst qa_nil) (qa_cons (q_lst (qa_cons q_int qa_nil)) (qa_cons q_dnew (qa_cons q_dOne (qa_cons (q_tup (qa_cons (q_tup qa_nil) qa_nil)) (qa_cons (q_tup (qa_cons (q_lst qa_nil) qa_nil)) (qa_cons (q_tup (qa_cons q_bl (qa_cons q_int qa_nil))) (qa_cons (q_tup (qa_cons q_int (qa_cons q_bl qa_nil))) qa_nil))))))))))))))) sc_l_odd.nd)
    (qss_one (qs_ret (q_call (ok_l_of (P := P) (w := w) (base := base) T) gd (hr.mono (by decide)) (by rfl) T.f_l_of.gl T.f_l_of.fn.kp T.f_l_of.bd (takes_of rfl rfl rfl rfl) (qa_cons (qv 0) (qa_cons (q_op qo_add (qv 1) (q_lst (qa_cons (q_tup (qa_cons (q_tup (qa_cons q_int (qa_cons q_int qa_nil))) (qa_cons q_int qa_nil))) (qa_cons (q_tup (qa_cons q_int (qa_cons (q_tup qa_nil) (qa_cons q_bl qa_nil)))) (qa_cons (q_tup (qa_cons (q_tup (qa_cons q_int (qa_cons q_bl qa_nil))) qa_nil)) (qa_cons (q_tup (qa_cons q_non (qa_cons q_non qa_nil))) qa_nil)))))) qa_nil)))))))) vc_l_odd
theorem ok_l_exps (T : Tx K mg) : FnG P w K mg base 3 T.f_l_exps.a T.f_l_exps.fd ["_law_keg", "_law_wide"] (spOf K sp_l_exps) :=
  defD (ws := W_l_exps) T.f_l_exps.fn sc_l_exps len_l_exps (fun cdv A outer s H E gd hr =>
    (qss_one (qs_ret (qe_lcR (i := 2) rfl sc_l_exps.nd (by rfl) T.b_range (qa_cons q_int qa_nil) (blkOk_by (own := [("_law_turn", 2)]) (N := ["_law_keg", "_law_wide", "_law_turn"]) (sc := defScope s_l_exps) (by decide +kernel)) (fun _ _ _ _ _ => pg_name (i := 2) sc_l_exps.nd rfl (by first | exact Or.inl rfl | exact Or.inr rfl)) (fun _ _ _ _ _ => qts_nil) (fun _ _ _ _ _ => (q_call (ok_l_of (P := P) (w := w) (base := base) T) gd (hr.mono (by decide)) (by rfl) T.f_l_of.gl T.f_l_of.fn.kp T.f_l_of.bd takes0 (qa_cons (qv 0) (qa_cons (q_lst (qa_cons q_int (qa_cons q_int (qa_cons q_int (qa_cons q_int (qa_cons (q_neg q_int) (qa_cons q_int (qa_cons (qv 1) (qa_cons (q_neg (qv 1)) qa_nil))))))))) qa_nil)))))))) vc_l_exps
theorem ok_l_some_root (T : Tx K mg) : FnG P w K mg base 4 T.f_l_some_root.a T.f_l_some_root.fd ["_law_keg"] (spOf K sp_l_some_root) :=
  defD (ws := W_l_some_root) T.f_l_some_root.fn sc_l_some_root len_l_some_root (fun cdv A outer s H E gd hr =>
    (qss_one (qs_ret (q_lst (qa_cons (q_call (ok_l_exps (P := P) (w := w) (base := base) T) gd (hr.mono (by decide)) (by rfl) T.f_l_exps.gl T.f_l_exps.fn.kp T.f_l_exps.bd (takes_of rfl rfl rfl rfl) (qa_cons (qv 0) (qa_cons (q_call (ok_l_of (P := P) (w := w) (base := base) T) gd (hr.mono (by decide)) (by rfl) T.f_l_of.gl T.f_l_of.fn.kp T.f_l_of.bd (takes_of rfl rfl rfl rfl) (qa_cons (qv 0) (qa_cons (q_lst (qa_cons q_int (qa_cons q_int (qa_cons q_int (qa_cons q_int qa_nil))))) qa_nil))) qa_nil))) (qa_cons (q_call (ok_l_of (P := P) (w := w) (base := base) T) gd (hr.mono (by decide)) (by rfl) T.f_l_of.gl T.f_l_of.fn.kp T.f_l_of.bd (takes_of rfl rfl rfl rfl) (qa_cons (qv 0) (qa_cons (q_lst (qa_cons q_int (qa_cons q_int (qa_cons q_int (qa_cons q_int (qa_cons q_int (qa_cons q_int (qa_cons q_int (qa_cons q_int (qa_cons q_int (qa_cons q_int qa_nil))))))))))) qa_nil))) qa_nil)))))) vc_l_some_root
theorem ok_l_number_in (T : Tx K mg) : FnG P w K mg base 1 T.f_l_number_in.a T.f_l_number_in.fd ["_law_said_here"] (spOf K sp_l_number_in) :=
  defD (ws := W_l_number_in) T.f_l_number_in.fn sc_l_number_in len_l_number_in (fun cdv A outer s H E gd hr =>
    (qss_cons (qs_if (qt_bool (qw_or (qt_not (qt_chain qo_le qo_le q_int (q_callB qb_len (by rfl) T.b_len bt_len (qa_cons (qv 0) qa_nil)) q_int)) (qw_or (qt_not (qt_truth (q_callB (qb_all rfl) (by rfl) T.b_all bt_all (qa_cons (qe_lcS (i := 1) rfl sc_l_number_in.nd (qv 0) (blkOk_by (own := [("_law_sign", 1)]) (N := ["_law_said_here", "_law_sign"]) (sc := defScope s_l_number_in) (by decide +kernel)) (fun _ _ _ _ _ => pg_name (i := 1) sc_l_number_in.nd rfl (by first | exact Or.inl rfl | exact Or.inr rfl)) (fun _ _ _ _ _ => qts_nil) (fun _ _ _ _ _ => (q_cmp qo_inS (qv 1) q_str (by rfl)))) qa_nil)))) (qw_or1 (qt_cmp (qo_eq hr.units) (q_ix (qv 0) q_int (fun _ _ => rfl)) q_str (nomark _)))))) (qss_one (qs_ret q_int)) qss_nil)
    (qss_one (qs_ret (q_callTy qb_intT (by rfl) T.b_int bt_int (qa_cons (qv 0) qa_nil)))))) vc_l_number_in
theorem ok_l_primes (T : Tx K mg) : FnG P w K mg base 1 T.f_l_primes.a T.f_l_primes.fd ["_law_value_now"] (spOf K sp_l_primes) :=
  defD (ws := W_l_primes) T.f_l_primes.fn sc_l_primes len_l_primes (fun cdv A outer s H E gd hr =>
    (qss_cons (qs_par3 (i := 1) (j := 2) (l := 3) rfl sc_l_primes.nd rfl rfl rfl (by decide) (by decide) (by decide) rfl rfl rfl (qa_cons (q_lst qa_nil) (qa_cons (qv 0) (qa_cons q_int qa_nil))) (by rfl))
    (qss_cons (qs_while (passes_of rfl) (qt_cmp qo_le (q_op qo_mul (qv 3) (qv 3)) (qv 2) (nomark _)) (qss_one (qs_if (qt_cmp (qo_eq hr.units) (q_op qo_mod (qv 2) (qv 3)) q_int (nomark _)) (qss_cons (qs_expr (q_app (qv 1) (qv 3)))
    (qss_one (qset 2 (q_op qo_div (qv 2) (qv 3)) sc_l_primes.nd))) (qss_one (qset 3 (q_op qo_add (qv 3) q_int) sc_l_primes.nd)))))
    (qss_one (qs_ret (q_sortSet rfl (by rfl) T.b_sorted (by rfl) T.b_set bt_sorted bt_set (q_op qo_add (qv 1) (q_if (qt_cmp qo_gt (qv 2) q_int (nomark _)) (q_lst (qa_cons (qv 2) qa_nil)) (q_lst qa_nil))))))))) vc_l_primes
theorem ok_l_floor (T : Tx K mg) : FnG P w K mg base 2 T.f_l_floor.a T.f_l_floor.fd ["_law_value_now", "_law_count_now"] (spOf K sp_l_floor) :=
  defD (ws := W_l_floor) T.f_l_floor.fn sc_l_floor len_l_floor (fun cdv A outer s H E gd hr =>
    (qss_cons (qs_asg (q_tup (qa_cons q_int (qa_cons q_int qa_nil))) (qg_tup rfl (qgs_cons (qgn 2 sc_l_floor.nd) (qgs_cons (qgn 3 sc_l_floor.nd) qgs_nil))))
    (qss_cons (qs_while (passes_of rfl) (qt_cmp qo_le (q_call (ok_l_to (P := P) (w := w) (base := base) T) gd (hr.mono (by decide)) (by rfl) T.f_l_to.gl T.f_l_to.fn.kp T.f_l_to.bd (takes_of rfl rfl rfl rfl) (qa_cons (qv 3) (qa_cons (qv 1) qa_nil))) (qv 0) (nomark _)) (qss_one (qset 3 (q_op qo_mul q_int (qv 3)) sc_l_floor.nd)))
    (qss_cons (qs_while (passes_of rfl) (qt_cmp qo_gt (q_op qo_sub (qv 3) (qv 2)) q_int (nomark _)) (qss_cons (qset 4 (q_op qo_div (q_op qo_add (qv 2) (qv 3)) q_int) sc_l_floor.nd)
    (qss_one (qs_if (qt_cmp qo_le (q_call (ok_l_to (P := P) (w := w) (base := base) T) gd (hr.mono (by decide)) (by rfl) T.f_l_to.gl T.f_l_to.fn.kp T.f_l_to.bd (takes_of rfl rfl rfl rfl) (qa_cons (qv 4) (qa_cons (qv 1) qa_nil))) (qv 0) (nomark _)) (qss_one (qset 2 (qv 4) sc_l_floor.nd)) (qss_one (qset 3 (qv 4) sc_l_floor.nd))))))
    (qss_one (qs_ret (qv 2))))))) vc_l_floor
theorem ok_l_is_power (T : Tx K mg) : FnG P w K mg base 3 T.f_l_is_power.a T.f_l_is_power.fd ["_law_value_now", "_law_count_now"] (spOf K sp_l_is_power) :=
  defD (ws := W_l_is_power) T.f_l_is_power.fn sc_l_is_power len_l_is_power (fun cdv A outer s H E gd hr =>
    (qss_one (qs_ret (q_cmp (qo_eq hr.units) (q_call (ok_l_to (P := P) (w := w) (base := base) T) gd (hr.mono (by decide)) (by rfl) T.f_l_to.gl T.f_l_to.fn.kp T.f_l_to.bd (takes_of rfl rfl rfl rfl) (qa_cons (q_call (ok_l_floor (P := P) (w := w) (base := base) T) gd (hr.mono (by decide)) (by rfl) T.f_l_floor.gl T.f_l_floor.fn.kp T.f_l_floor.bd (takes_of rfl rfl rfl rfl) (qa_cons (qv 0) (qa_cons (qv 1) qa_nil))) (qa_cons (qv 1) qa_nil))) (qv 0) (nomark _))))) vc_l_is_power
theorem ok_l_is_root_text (T : Tx K mg) : FnG P w K mg base 4 T.f_l_is_root_text.a T.f_l_is_root_text.fd ["_law_said_here"] (spOf K sp_l_is_root_text) :=
  defD (ws := W_l_is_root_text) T.f_l_is_root_text.fn sc_l_is_root_text len_l_is_root_text (fun cdv A outer s H E gd hr =>
    (qss_cons (qset 1 (q_splitT (qv 0) q_str) sc_l_is_root_text.nd)
    (qss_cons (qs_if (qt_bool (qw_or (qt_cmp (qo_ne hr.units) (q_callB qb_len (by rfl) T.b_len bt_len (qa_cons (qv 1) qa_nil)) q_int (nomark _)) (qw_or (qt_cmp (qo_ne hr.units) (q_ix (qv 1) q_int (fun _ _ => rfl)) q_str (nomark _)) (qw_or1 (qt_not (qt_chain qo_le qo_le q_int (q_call (ok_l_number_in (P := P) (w := w) (base := base) T) gd (hr.mono (by decide)) (by rfl) T.f_l_number_in.gl T.f_l_number_in.fn.kp T.f_l_number_in.bd (takes_of rfl rfl rfl rfl) (qa_cons (q_ix (qv 1) q_int (fun _ _ => rfl)) qa_nil)) q_int)))))) (qss_one (qs_ret q_bl)) qss_nil)
    (qss_cons (qset 2 (q_splitT (q_ix (qv 1) q_int (fun _ _ => rfl)) q_str) sc_l_is_root_text.nd)
    (qss_cons (qs_if (qt_bool (qw_or (qt_cmp qo_gt (q_callB qb_len (by rfl) T.b_len bt_len (qa_cons (qv 2) qa_nil)) q_int (nomark _)) (qw_or1 (qt_not (qt_truth (q_callB (qb_all rfl) (by rfl) T.b_all bt_all (qa_cons (qe_lcL (i := 6) rfl sc_l_is_root_text.nd (qv 2) (blkOk_by (own := [("_law_each", 6)]) (N := ["_law_said_here", "_law_words", "_law_halves", "_law_top", "_law_bottom", "_law_prime", "_law_each"]) (sc := defScope s_l_is_root_text) (by decide +kernel)) (fun _ _ _ _ _ => pg_name (i := 6) sc_l_is_root_text.nd rfl (by first | exact Or.inl rfl | exact Or.inr rfl)) (fun _ _ _ _ _ => qts_nil) (fun _ _ _ _ _ => (q_chain qo_lt qo_le q_int (q_call (ok_l_number_in (P := P) (w := w) (base := base) T) gd (hr.mono (by decide)) (by rfl) T.f_l_number_in.gl T.f_l_number_in.fn.kp T.f_l_number_in.bd takes0 (qa_cons (qv 6) qa_nil)) (q_op qo_pow q_int q_int)))) qa_nil))))))) (qss_one (qs_ret q_bl)) qss_nil)
    (qss_cons (qset 3 (q_call (ok_l_number_in (P := P) (w := w) (base := base) T) gd (hr.mono (by decide)) (by rfl) T.f_l_number_in.gl T.f_l_number_in.fn.kp T.f_l_number_in.bd (takes_of rfl rfl rfl rfl) (qa_cons (q_ix (qv 2) q_int (fun _ _ => rfl)) qa_nil)) sc_l_is_root_text.nd)
    (qss_cons (qset 4 (q_if (qt_cmp (qo_eq hr.units) (q_callB qb_len (by rfl) T.b_len bt_len (qa_cons (qv 2) qa_nil)) q_int (nomark _)) (q_call (ok_l_number_in (P := P) (w := w) (base := base) T) gd (hr.mono (by decide)) (by rfl) T.f_l_number_in.gl T.f_l_number_in.fn.kp T.f_l_number_in.bd (takes_of rfl rfl rfl rfl) (qa_cons (q_ix (qv 2) (q_neg q_int) (fun _ _ => rfl)) qa_nil)) q_int) sc_l_is_root_text.nd)
    (qss_cons (qs_if (qt_bool (qw_or (qt_bool (qw_and (qt_cmp (qo_eq hr.units) (q_callB qb_len (by rfl) T.b_len bt_len (qa_cons (qv 2) qa_nil)) q_int (nomark _)) (qw_and1 (qt_cmp (qo_eq hr.units) (qv 4) q_int (nomark _))))) (qw_or1 (qt_cmp (qo_ne hr.units) (q_call (ok_l_gcd (P := P) (w := w) (base := base) T) gd (hr.mono (by decide)) (by rfl) T.f_l_gcd.gl T.f_l_gcd.fn.kp T.f_l_gcd.bd (takes_of rfl rfl rfl rfl) (qa_cons (qv 3) (qa_cons (qv 4) qa_nil))) q_int (nomark _))))) (qss_one (qs_ret q_bl)) qss_nil)
    (qss_cons (qs_forL (passes_of rfl) rfl (q_call (ok_l_primes (P := P) (w := w) (base := base) T) gd (hr.mono (by decide)) (by rfl) T.f_l_primes.gl T.f_l_primes.fn.kp T.f_l_primes.bd (takes_of rfl rfl rfl rfl) (qa_cons (q_call (ok_l_number_in (P := P) (w := w) (base := base) T) gd (hr.mono (by decide)) (by rfl) T.f_l_number_in.gl T.f_l_number_in.fn.kp T.f_l_number_in.bd (takes_of rfl rfl rfl rfl) (qa_cons (q_ix (qv 1) q_int (fun _ _ => rfl)) qa_nil)) qa_nil)) (qgn 5 sc_l_is_root_text.nd) (qss_one (qs_if (qt_bool (qw_and (qt_truth (q_call (ok_l_is_power (P := P) (w := w) (base := base) T) gd (hr.mono (by decide)) (by rfl) T.f_l_is_power.gl T.f_l_is_power.fn.kp T.f_l_is_power.bd (takes_of rfl rfl rfl rfl) (qa_cons (qv 3) (qa_cons (qv 5) qa_nil)))) (qw_and1 (qt_truth (q_call (ok_l_is_power (P := P) (w := w) (base := base) T) gd (hr.mono (by decide)) (by rfl) T.f_l_is_power.gl T.f_l_is_power.fn.kp T.f_l_is_power.bd (takes_of rfl rfl rfl rfl) (qa_cons (qv 4) (qa_cons (qv 5) qa_nil))))))) (qss_one (qs_ret q_bl)) qss_nil)))
    (qss_one (qs_ret q_bl))))))))))) vc_l_is_root_text
theorem ok_l_bent_text (T : Tx K mg) : FnG P w K mg base 3 T.f_l_bent_text.a T.f_l_bent_text.fd ["_law_keg", "_law_said_here"] (spOf K sp_l_bent_text) :=
  defD (ws := W_l_bent_text) T.f_l_bent_text.fn sc_l_bent_text len_l_bent_text (fun cdv A outer s H E gd hr =>
    (qss_cons (qs_par (i := 4) (j := 5) rfl sc_l_bent_text.nd rfl rfl (by decide) rfl rfl (qa_cons (q_call (ok_l_tap (P := P) (w := w) (base := base) T) gd (hr.mono (by decide)) (by rfl) T.f_l_tap.gl T.f_l_tap.fn.kp T.f_l_tap.bd (takes_of rfl rfl rfl rfl) (qa_cons (qv 0) (qa_cons q_int qa_nil))) (qa_cons (q_call (ok_l_tap (P := P) (w := w) (base := base) T) gd (hr.mono (by decide)) (by rfl) T.f_l_tap.gl T.f_l_tap.fn.kp T.f_l_tap.bd (takes_of rfl rfl rfl rfl) (qa_cons (qv 0) (qa_cons (q_op qo_add (q_callB qb_len (by rfl) T.b_len bt_len (qa_cons (qv 1) qa_nil)) q_int) qa_nil))) qa_nil)) (by rfl))
    (qss_cons (qset 2 (q_splitT (qv 1) q_str) sc_l_bent_text.nd)
    (qss_cons (qset 3 (q_call (ok_l_tap (P := P) (w := w) (base := base) T) gd (hr.mono (by decide)) (by rfl) T.f_l_tap.gl T.f_l_tap.fn.kp T.f_l_tap.bd (takes_of rfl rfl rfl rfl) (qa_cons (qv 0) (qa_cons (q_callB qb_len (by rfl) T.b_len bt_len (qa_cons (qv 2) qa_nil)) qa_nil))) sc_l_bent_text.nd)
    (qss_cons (qs_if (qt_cmp (qo_eq hr.units) (qv 4) q_int (nomark _)) (qss_one (qs_ret (q_op qo_add (q_op qo_add (q_sliceT (qv 1) qp_none (qp_some (qv 5))) (q_call (ok_l_of (P := P) (w := w) (base := base) T) gd (hr.mono (by decide)) (by rfl) T.f_l_of.gl T.f_l_of.fn.kp T.f_l_of.bd (takes_of rfl rfl rfl rfl) (qa_cons (qv 0) (qa_cons (q_callTy (qb_listT rfl) (by rfl) T.b_list bt_list (qa_cons q_str qa_nil)) qa_nil)))) (q_sliceT (qv 1) (qp_some (qv 5)) qp_none)))) qss_nil)
    (qss_cons (qs_if (qt_cmp (qo_eq hr.units) (qv 4) q_int (nomark _)) (qss_one (qs_ret (q_op qo_add (q_sliceT (qv 1) qp_none (qp_some (qv 5))) (q_sliceT (qv 1) (qp_some (q_op qo_add (qv 5) q_int)) qp_none)))) qss_nil)
    (qss_cons (qs_if (qt_cmp (qo_eq hr.units) (qv 4) q_int (nomark _)) (qss_one (qs_ret (q_op qo_add (q_op qo_add (q_sliceT (qv 1) qp_none (qp_some (qv 5))) (q_call (ok_l_of (P := P) (w := w) (base := base) T) gd (hr.mono (by decide)) (by rfl) T.f_l_of.gl T.f_l_of.fn.kp T.f_l_of.bd (takes_of rfl rfl rfl rfl) (qa_cons (qv 0) (qa_cons (q_callTy (qb_listT rfl) (by rfl) T.b_list bt_list (qa_cons q_str qa_nil)) qa_nil)))) (q_sliceT (qv 1) (qp_some (q_op qo_add (qv 5) q_int)) qp_none)))) qss_nil)
    (qss_cons (qs_if (qt_cmp (qo_eq hr.units) (qv 4) q_int (nomark _)) (qss_one (qs_ret (q_joinT q_str (q_op qo_add (q_sliceL (qv 2) qp_none (qp_some (qv 3))) (q_sliceL (qv 2) (qp_some (q_op qo_add (qv 3) q_int)) qp_none))))) qss_nil)
    (qss_cons (qs_if (qt_cmp (qo_eq hr.units) (qv 4) q_int (nomark _)) (qss_cons (qset 6 (q_call (ok_l_of (P := P) (w := w) (base := base) T) gd (hr.mono (by decide)) (by rfl) T.f_l_of.gl T.f_l_of.fn.kp T.f_l_of.bd (takes_of rfl rfl rfl rfl) (qa_cons (qv 0) (qa_cons (q_lst (qa_cons q_str (qa_cons q_str (qa_cons q_str (qa_cons q_str (qa_cons q_str (qa_cons q_str (qa_cons q_str (qa_cons q_str (qa_cons q_str (qa_cons q_str qa_nil))))))))))) qa_nil))) sc_l_bent_text.nd)
    (qss_one (qs_ret (q_joinT q_str (q_op qo_add (q_op qo_add (q_sliceL (qv 2) qp_none (qp_some (qv 3))) (q_lst (qa_cons (qv 6) qa_nil))) (q_sliceL (qv 2) (qp_some (q_op qo_add (qv 3) q_int)) qp_none)))))) qss_nil)
    (qss_one (qs_ret (q_joinT q_str (q_op qo_add (q_sliceL (qv 2) qp_none (qp_some (q_op qo_add (qv 3) q_int))) (q_sliceL (qv 2) (qp_some (qv 3)) qp_none)))))))))))))) vc_l_bent_text
theorem ok_Root_eq (T : Tx K mg) : FnG P w K mg base 1 T.f_Root_eq.a T.f_Root_eq.fd ["self", "other"] (spOf K (sp_Root_eq (zOf T))) :=
  defD (ws := W_Root_eq (zOf T)) T.f_Root_eq.fn sc_Root_eq (len_Root_eq (zOf T)) (fun cdv A outer s H E gd hr =>
    (qss_one (qs_ret (q_and (q_callB (qb_isiV T.k_Root) (by rfl) T.b_isinstance bt_isinstance (qa_cons (qv 1) (qa_cons (q_globA (by rfl) T.k_Root.gC) qa_nil))) (q_and (q_cmp (qo_eq hr.units) (q_fld T.k_Root.cls T.na_Root__degree (qv 0)) (q_fld T.k_Root.cls T.na_Root__degree (qv 1)) (nomark _)) (q_one (q_cmp (qo_eq hr.units) (q_fld T.k_Root.cls T.na_Root__number (qv 0)) (q_fld T.k_Root.cls T.na_Root__number (qv 1)) (nomark _)))))))) (vc_Root_eq (zOf T))
theorem ok_l_right (T : Tx K mg) (TB : ∀ m ∈ mks T, LamX.TabB base mg m.c m.p) : FnG P w K mg base 24 T.f_l_right.a T.f_l_right.fd ["_law_keg"] (spOf K (sp_l_right (zOf T))) :=
  defDc (ws := W_l_right (zOf T)) T.m_l_right.fc sc_l_right (len_l_right (zOf T)) (fun A outer s H E gd hr =>
    (qss_cons (qs_forR1 (passes_of rfl) rfl (by rfl) T.b_range (qa_cons q_int qa_nil) (qgn 1 sc_l_right.nd) (qss_cons (qset 2 (q_call (ok_l_said (P := P) (w := w) (base := base) T) gd (hr.mono (by decide)) (by rfl) T.f_l_said.gl T.f_l_said.fn.kp T.f_l_said.bd (takes_of rfl rfl rfl rfl) (qa_cons (q_call (ok_l_some_root (P := P) (w := w) (base := base) T) gd (hr.mono (by decide)) (by rfl) T.f_l_some_root.gl T.f_l_some_root.fn.kp T.f_l_some_root.bd (takes_of rfl rfl rfl rfl) (qa_cons (qv 0) qa_nil)) qa_nil)) sc_l_right.nd)
    (qss_cons (qs_forR1 (passes_of rfl) rfl (by rfl) T.b_range (qa_cons q_int qa_nil) (qgn 3 sc_l_right.nd) (qss_cons (qset 5 (q_lam (k := 21) (Ng := ["_law_act_now", "_law_e", "_law_found"]) (wg := W_l_tell (zOf T)) T.f_l_tell.fn sc_l_tell gd (hr.mono (by decide)) (by rfl) T.f_l_tell.gl T.f_l_tell.bd (takes_of rfl rfl rfl rfl) (by rfl) (Or.inl rfl) (TB (T.m_l_right.mk q_l_right) (List.mem_cons_self ..)) (by rfl) (LamX.lamS_by (sc := defScope s_l_right) (by decide +kernel)) (by rfl) (fun _ _ _ _ _ => by rfl) (fun cdg s H E wact hr' hact => hg_l_tell T gd (hr'.mono (by decide)) hact) (fun A outer s H E f c' gd hr => (q_sta T.f_Root_read (ok_Root_read (P := P) (w := w) (base := base) T) gd (hr.mono (by decide)) (takes_of rfl rfl rfl rfl) (q_globA (by rfl) T.k_Root.gC) (qa_cons (qv 2) qa_nil)))) sc_l_right.nd)
    (qss_cons (qs_if (qt_truth (q_call (ok_l_is_root_text (P := P) (w := w) (base := base) T) gd (hr.mono (by decide)) (by rfl) T.f_l_is_root_text.gl T.f_l_is_root_text.fn.kp T.f_l_is_root_text.bd (takes_of rfl rfl rfl rfl) (qa_cons (qv 2) qa_nil))) (qss_one (qs_if (qt_bool (qw_or (qt_cmp (qo_ne hr.units) (q_ix (qv 5) q_int (fun _ _ => rfl)) q_str (nomark _)) (qw_or (qt_cmp (qo_ne hr.units) (q_callTy (qb_strO (ok_Root_str (P := P) (w := w) (base := base) T) gd (hr.mono (by decide)) T.f_Root_str.me T.f_Root_str.bd) (by rfl) T.b_str bt_str (qa_cons (q_ix (qv 5) q_int (fun _ _ => rfl)) qa_nil)) (qv 2) (nomark _)) (qw_or1 (qt_cmp (qo_neI (ok_Root_eq (P := P) (w := w) (base := base) T) gd (hr.mono (by decide)) T.f_Root_eq.me T.f_Root_eq.bd T.ne_Root T.k_Root.ob) (q_staK (ks := ["text"]) (g := g0_0) T.f_Root_read (ok_Root_read (P := P) (w := w) (base := base) T) gd (hr.mono (by decide)) (kb_Root_read_g0_0t T.f_Root_read.fn) gall_g0_0 (takes_of rfl rfl rfl rfl) (q_globA (by rfl) T.k_Root.gC) (qk_cons (qv 2) qk_nil)) (q_ix (qv 5) q_int (fun _ _ => rfl)) (nomark _)))))) (qss_one (qs_ret q_bl)) qss_nil)) (qss_one (qs_if (qt_cmp (qo_ne hr.units) (qv 5) (q_lst (qa_cons q_str (qa_cons q_str (qa_cons (q_callB (qb_repr3 gd hr.units) (by rfl) T.b_repr bt_repr (qa_cons (qv 2) qa_nil)) qa_nil)))) (nomark _)) (qss_one (qs_ret q_bl)) qss_nil)))
    (qss_one (qset 2 (q_call (ok_l_bent_text (P := P) (w := w) (base := base) T) gd (hr.mono (by decide)) (by rfl) T.f_l_bent_text.gl T.f_l_bent_text.fn.kp T.f_l_bent_text.bd (takes_of rfl rfl rfl rfl) (qa_cons (qv 0) (qa_cons (qv 2) qa_nil))) sc_l_right.nd)))))
    (qss_cons (qset 4 (q_call (ok_l_odd (P := P) (w := w) (base := base) T) gd (hr.mono (by decide)) (by rfl) T.f_l_odd.gl T.f_l_odd.fn.kp T.f_l_odd.bd (takes_of rfl rfl rfl rfl) (qa_cons (qv 0) qa_nil)) sc_l_right.nd)
    (qss_one (qs_if (qt_not (qt_bool (qw_and (qt_truth (q_callB (qb_isi2 "str") (by rfl) T.b_isinstance bt_isinstance (qa_cons (qv 4) (qa_cons (q_bltTy (by rfl) T.b_str bt_str) qa_nil)))) (qw_and1 (qt_truth (q_call (ok_l_is_root_text (P := P) (w := w) (base := base) T) gd (hr.mono (by decide)) (by rfl) T.f_l_is_root_text.gl T.f_l_is_root_text.fn.kp T.f_l_is_root_text.bd (takes_of rfl rfl rfl rfl) (qa_cons (qv 4) qa_nil))))))) (qss_one (qs_if (qt_cmp (qo_ne hr.units) (q_lam (k := 21) (Ng := ["_law_act_now", "_law_e", "_law_found"]) (wg := W_l_tell (zOf T)) T.f_l_tell.fn sc_l_tell gd (hr.mono (by decide)) (by rfl) T.f_l_tell.gl T.f_l_tell.bd (takes_of rfl rfl rfl rfl) (by rfl) (Or.inl rfl) (TB (T.m_l_right.mk q_l_right) (List.mem_cons_self ..)) (by rfl) (LamX.lamS_by (sc := defScope s_l_right) (by decide +kernel)) (by rfl) (fun _ _ _ _ _ => by rfl) (fun cdg s H E wact hr' hact => hg_l_tell T gd (hr'.mono (by decide)) hact) (fun A outer s H E f c' gd hr => (q_sta T.f_Root_read (ok_Root_read (P := P) (w := w) (base := base) T) gd (hr.mono (by decide)) (takes_of rfl rfl rfl rfl) (q_globA (by rfl) T.k_Root.gC) (qa_cons (qv 4) qa_nil)))) (q_lst (qa_cons q_str (qa_cons q_str (qa_cons (q_callB (qb_repr3 gd hr.units) (by rfl) T.b_repr bt_repr (qa_cons (qv 4) qa_nil)) qa_nil)))) (nomark _)) (qss_one (qs_ret q_bl)) qss_nil)) qss_nil))))))
    (qss_one (qs_ret q_bl)))) (vc_l_right (zOf T))
theorem ok_l_open (T : Tx K mg) : FnG P w K mg base 1 T.f_l_open.a T.f_l_open.fd ["_law_script", "_law_k"] (spOf K sp_l_open) :=
  defD (ws := W_l_open) T.f_l_open.fn sc_l_open len_l_open (fun cdv A outer s H E gd hr =>
    (qss_cons (qset 2 (q_if (qt_cmp qo_lt (qv 1) (q_callB qb_len (by rfl) T.b_len bt_len (qa_cons (qv 0) qa_nil)) (nomark _)) (q_callTy qb_int (by rfl) T.b_int bt_int (qa_cons (q_ix (qv 0) (qv 1) (fun _ _ => rfl)) qa_nil)) (q_op qo_add (q_op qo_mul q_int (qv 1)) q_int)) sc_l_open.nd)
    (qss_cons (qset 3 (q_op qo_add q_int (q_op qo_mul q_int (qv 1))) sc_l_open.nd)
    (qss_cons (qs_forL (passes_of rfl) rfl (q_sliceL (qv 0) qp_none (qp_some q_int)) (qgn 4 sc_l_open.nd) (qss_one (qset 3 (q_op qo_mod (q_callTy qb_int (by rfl) T.b_int bt_int (qa_cons (q_op qo_add (q_op qo_mul (qv 3) q_int) (q_callTy qb_int (by rfl) T.b_int bt_int (qa_cons (qv 4) qa_nil))) qa_nil)) q_int) sc_l_open.nd)))
    (qss_one (qs_ret (q_lst (qa_cons (q_if (qt_bool (qw_or (qt_cmp qo_lt (qv 2) q_int (nomark _)) (qw_or1 (qt_cmp qo_ge (qv 2) (q_op qo_pow q_int q_int) (nomark _))))) (q_callB qb_abs (by rfl) T.b_abs bt_abs (qa_cons (qv 2) qa_nil)) q_int) (qa_cons (q_op qo_mod (q_callTy qb_int (by rfl) T.b_int bt_int (qa_cons (q_op qo_add (q_op qo_mul (qv 3) q_int) (qv 2)) qa_nil)) q_int) (qa_cons q_int qa_nil)))))))))) vc_l_open
theorem ok_law (T : Tx K mg) (TB : ∀ m ∈ mks T, LamX.TabB base mg m.c m.p) : FnG P w K mg base 25 T.f_law.a T.f_law.fd ["_law_script"] (spOf K (sp_law (zOf T))) :=
  defD (ws := W_law (zOf T)) T.f_law.fn sc_law (len_law (zOf T)) (fun cdv A outer s H E gd hr =>
    (qss_cons (qs_if (qt_not (qt_truth (q_call0 (ok_l_by_hand (P := P) (w := w) (base := base) T TB) gd (hr.mono (by decide)) (by rfl) T.f_l_by_hand.gl T.f_l_by_hand.fn.kp T.f_l_by_hand.bd (takes_of rfl rfl rfl rfl)))) (qss_one (qs_ret q_bl)) qss_nil)
    (qss_one (qs_ret (q_callB (qb_all rfl) (by rfl) T.b_all bt_all (qa_cons (qe_lcR (i := 1) rfl sc_law.nd (by rfl) T.b_range (qa_cons (q_callB (qb_max rfl) (by rfl) T.b_max bt_max (qa_cons q_int (qa_cons (q_callB (qb_min rfl) (by rfl) T.b_min bt_min (qa_cons (q_callB qb_len (by rfl) T.b_len bt_len (qa_cons (qv 0) qa_nil)) (qa_cons q_int qa_nil))) qa_nil))) qa_nil) (blkOk_by (own := [("_law_k", 1)]) (N := ["_law_script", "_law_k"]) (sc := defScope s_law) (by decide +kernel)) (fun _ _ _ _ _ => pg_name (i := 1) sc_law.nd rfl (by first | exact Or.inl rfl | exact Or.inr rfl)) (fun _ _ _ _ _ => qts_nil) (fun _ _ _ _ _ => (q_call (ok_l_right (P := P) (w := w) (base := base) T TB) gd (hr.mono (by decide)) (by rfl) T.f_l_right.gl T.f_l_right.fn.kp T.f_l_right.bd takes0 (qa_cons (q_call (ok_l_open (P := P) (w := w) (base := base) T) gd (hr.mono (by decide)) (by rfl) T.f_l_open.gl T.f_l_open.fn.kp T.f_l_open.bd takes0 (qa_cons (qv 0) (qa_cons (qv 1) qa_nil))) qa_nil)))) qa_nil)))))) (vc_law (zOf T))
end
def tx_of {K : PySem.W.Frag} {h : Heap} {mg : Str → Option Value} (X : K.In h) (G : h.Ns mainGlobals mg) {f0 f1 f2 f3 f4 f5 f6 f7 f8 f9 f10 f11 f12 f13 f14 f15 f16 f17 f18 f19 f20 f21 f22 f23 f24 f25 f26 f27 f28 f29 f30 f31 f32 f33 f34 f35 f36 f37 f38 f39 f40 f41 f42 f43 : Addr}
    {od0 an0 od1 an1 od2 an2 od3 an3 od4 an4 od5 an5 od6 an6 od7 an7 od8 an8 od9 an9 od10 an10 od11 an11 od12 an12 od13 an13 od14 an14 od15 an15 od16 an16 od17 an17 od18 an18 od19 an19 od20 an20 od21 an21 od22 an22 od23 an23 od24 an24 od25 an25 od26 an26 od27 an27 od28 an28 od29 an29 od30 an30 od31 an31 od32 an32 od33 an33 od34 an34 od35 an35 od36 an36 od37 an37 od38 an38 od39 an39 od40 an40 od41 an41 od42 an42 od43 an43 : Option Addr} {sl0 sl1 sl2 sl3 sl4 sl5 sl6 sl7 sl8 sl9 sl10 sl11 sl12 sl13 sl14 sl15 sl16 sl17 sl18 sl19 sl20 sl21 sl22 sl23 sl24 sl25 sl26 sl27 sl28 sl29 sl30 sl31 sl32 sl33 sl34 sl35 sl36 sl37 sl38 sl39 sl40 sl41 sl42 sl43 : Array (Option Value)} {oc0 kV0 dc0 pm0 cd0 ct0 oc1 kV1 dc1 pm1 cd1 ct1 oc2 kV2 dc2 pm2 cd2 ct2 oc3 kV3 dc3 pm3 cd3 ct3 oc4 kV4 dc4 pm4 cd4 ct4 oc5 kV5 dc5 pm5 cd5 ct5 oc6 kV6 dc6 pm6 cd6 ct6 oc7 kV7 dc7 pm7 cd7 ct7 oc8 kV8 dc8 pm8 cd8 ct8 oc9 kV9 dc9 pm9 cd9 ct9 oc10 kV10 dc10 pm10 cd10 ct10 oc11 kV11 dc11 pm11 cd11 ct11 oc12 kV12 dc12 pm12 cd12 ct12 oc13 kV13 dc13 pm13 cd13 ct13 oc14 kV14 dc14 pm14 cd14 ct14 oc15 kV15 dc15 pm15 cd15 ct15 oc16 kV16 dc16 pm16 cd16 ct16 oc17 kV17 dc17 pm17 cd17 ct17 oc18 kV18 dc18 pm18 cd18 ct18 oc19 kV19 dc19 pm19 cd19 ct19 oc20 kV20 dc20 pm20 cd20 ct20 oc21 kV21 dc21 pm21 cd21 ct21 oc22 kV22 dc22 pm22 ct22 oc23 kV23 dc23 pm23 cd23 ct23 oc24 kV24 dc24 pm24 cd24 ct24 oc25 kV25 dc25 pm25 cd25 ct25 oc26 kV26 dc26 pm26 cd26 ct26 oc27 kV27 dc27 pm27 cd27 ct27 oc28 kV28 dc28 pm28 cd28 ct28 oc29 kV29 dc29 pm29 cd29 ct29 oc30 kV30 dc30 pm30 cd30 ct30 oc31 kV31 dc31 pm31 cd31 ct31 oc32 kV32 dc32 pm32 cd32 ct32 oc33 kV33 dc33 pm33 cd33 ct33 oc34 kV34 dc34 pm34 cd34 ct34 oc35 kV35 dc35 pm35 cd35 ct35 oc36 kV36 dc36 pm36 cd36 ct36 oc37 kV37 dc37 pm37 cd37 ct37 oc38 kV38 dc38 pm38 cd38 ct38 oc39 kV39 dc39 pm39 cd39 ct39 oc40 kV40 dc40 pm40 cd40 ct40 oc41 kV41 dc41 pm41 ct41 oc42 kV42 dc42 pm42 cd42 ct42 oc43 kV43 dc43 pm43 cd43 ct43 : Value} {t_MOST_SIZE t_MOST_DEGREE t_SMALL_PRIMES : Tok} {C_Root : Addr} {dV10 : Value} {p21 : Addr} {rs21 : List Value} {cc22 mp22 : Addr} {me22 : Value} {md22 : Option Addr} {mv22 : Array Value} {ms22 : Array (Option Value)} {cc41 mp41 : Addr} {me41 : Value} {md41 : Option Addr} {mv41 : Array Value} {ms41 : Array (Option Value)} {v_POWER_RESTS : Value} {EInvalidDegree_C EInvalidDegree_I EInvalidDegree_N : Addr} {EInvalidDegree_nm EInvalidDegree_q : Str} {EInvalidDegree_bs EInvalidDegree_bm EInvalidDegree_sub : List Value} {EInvalidDegree_sn : List Str} {EInvalidDegree_ab : Bool} {EInvalidDegree_col : Option Bool} {EInvalidDegree_dd EInvalidDegree_od EInvalidDegree_an : Option Addr} {EInvalidDegree_k0 EInvalidDegree_k1 EInvalidDegree_k2 EInvalidDegree_k3 EInvalidDegree_k5 : Option Value} {EInvalidDegree_oc EInvalidDegree_dc EInvalidDegree_pm EInvalidDegree_cd EInvalidDegree_ct : Value} {EInvalidDegree_sl : Array (Option Value)} {EInvalidDegree_p1 EInvalidDegree_p2 EInvalidDegree_q1 EInvalidDegree_q2 EInvalidDegree_q3 EInvalidDegree_q4 : Pos} {EInvalidNumber_C EInvalidNumber_I EInvalidNumber_N : Addr} {EInvalidNumber_nm EInvalidNumber_q : Str} {EInvalidNumber_bs EInvalidNumber_bm EInvalidNumber_sub : List Value} {EInvalidNumber_sn : List Str} {EInvalidNumber_ab : Bool} {EInvalidNumber_col : Option Bool} {EInvalidNumber_dd EInvalidNumber_od EInvalidNumber_an : Option Addr} {EInvalidNumber_k0 EInvalidNumber_k1 EInvalidNumber_k2 EInvalidNumber_k3 EInvalidNumber_k5 : Option Value} {EInvalidNumber_oc EInvalidNumber_dc EInvalidNumber_pm EInvalidNumber_cd EInvalidNumber_ct : Value} {EInvalidNumber_sl : Array (Option Value)} {EInvalidNumber_p1 EInvalidNumber_p2 EInvalidNumber_q1 EInvalidNumber_q2 EInvalidNumber_q3 EInvalidNumber_q4 : Pos} {EInvalidText_C EInvalidText_I EInvalidText_N : Addr} {EInvalidText_nm EInvalidText_q : Str} {EInvalidText_bs EInvalidText_bm EInvalidText_sub : List Value} {EInvalidText_sn : List Str} {EInvalidText_ab : Bool} {EInvalidText_col : Option Bool} {EInvalidText_dd EInvalidText_od EInvalidText_an : Option Addr} {EInvalidText_k0 EInvalidText_k1 EInvalidText_k2 EInvalidText_k3 EInvalidText_k5 : Option Value} {EInvalidText_oc EInvalidText_dc EInvalidText_pm EInvalidText_cd EInvalidText_ct : Value} {EInvalidText_sl : Array (Option Value)} {EInvalidText_p1 EInvalidText_p2 EInvalidText_q1 EInvalidText_q2 EInvalidText_q3 EInvalidText_q4 : Pos} {NInvalidDegree : Addr} {NInvalidKind : Addr} {NInvalidLooks : Addr} {NInvalidNumber : Addr} {NInvalidRoots : Addr} {NInvalidText : Addr} {NNoAnswer : Addr} {NNoNumber : Addr} {NNotARoot : Addr} {NTooGreat : Addr} {NWrongName : Addr} {NWrongValue : Addr}
    (gc_Root : PySem.W.nsIn K mainGlobals "Root" = some (some (.ref C_Root))) (pg_Root : PySem.W.plainGet K C_Root Str.empty = true) (hd_Root : PySem.W.hasDictIn K C_Root = true) (po_Root : PySem.W.plainOver K C_Root = true) (sa_Root : PySem.W.findIn K (.ref C_Root) "__setattr__" = some (some (.builtin "object.__setattr__"))) (mk_Root : PySem.W.makesIn K C_Root = true) (kc_Root : PySem.W.keepIn K (.ref C_Root) = true) (ob_Root : PySem.W.subIn K (.ref C_Root) (.type "object") = some true) (ca_Root : PySem.W.findIn K (.ref C_Root) "__class__" = some (some (.builtin "object.__class__"))) (cg_Root : PySem.W.specialIn K (.builtin "object.__class__") "__get__" = some (some (.builtin "getset_descriptor.__get__"))) (ct_Root : PySem.W.takesIn K (.builtin "object.__class__") = some true) (cm_Root : PySem.W.mroIn K C_Root (.type "object") = some true) (ty_Root : PySem.W.typeIn K (.ref C_Root) = some (.type "type")) (nt0_Root : PySem.W.subIn K (.type "int") (.ref C_Root) = some false) (nt1_Root : PySem.W.subIn K (.type "bool") (.ref C_Root) = some false) (nt2_Root : PySem.W.subIn K (.type "str") (.ref C_Root) = some false) (nt3_Root : PySem.W.subIn K (.type "NoneType") (.ref C_Root) = some false) (nt4_Root : PySem.W.subIn K (.type "tuple") (.ref C_Root) = some false) (nt5_Root : PySem.W.subIn K (.type "list") (.ref C_Root) = some false) (nt6_Root : PySem.W.subIn K (.type "dict") (.ref C_Root) = some false) (nn_Root : PySem.W.findIn K (.ref C_Root) "__ne__" = some (some (.builtin "object.__ne__"))) (nf_Root__degree : PySem.W.findIn K (.ref C_Root) "_degree" = some none) (nf_Root__number : PySem.W.findIn K (.ref C_Root) "_number" = some none)
    (a0 : PySem.W.nsIn K mainGlobals "_law_kind" = some (some (.ref f0))) (l0 : K.lookup f0 = some ⟨oc0, od0, .func (PySem.W.fnOf "_law_kind" "_law_kind" (defArgs s_l_kind) (defBody s_l_kind) (defScope s_l_kind) .none kV0 dc0 pm0 an0 cd0 ct0), sl0⟩) (c0 : PySem.W.codeIn K cd0 "_law_kind" = true) (k0 : PySem.W.keepIn K (.ref f0) = true)
    (a1 : PySem.W.nsIn K mainGlobals "_law_tell" = some (some (.ref f1))) (l1 : K.lookup f1 = some ⟨oc1, od1, .func (PySem.W.fnOf "_law_tell" "_law_tell" (defArgs s_l_tell) (defBody s_l_tell) (defScope s_l_tell) .none kV1 dc1 pm1 an1 cd1 ct1), sl1⟩) (c1 : PySem.W.codeIn K cd1 "_law_tell" = true) (k1 : PySem.W.keepIn K (.ref f1) = true)
    (a2 : PySem.W.nsIn K mainGlobals "is_between" = some (some (.ref f2))) (l2 : K.lookup f2 = some ⟨oc2, od2, .func (PySem.W.fnOf "is_between" "is_between" (defArgs s_is_between) (defBody s_is_between) (defScope s_is_between) .none kV2 dc2 pm2 an2 cd2 ct2), sl2⟩) (c2 : PySem.W.codeIn K cd2 "is_between" = true) (k2 : PySem.W.keepIn K (.ref f2) = true)
    (a3 : PySem.W.nsIn K mainGlobals "is_number" = some (some (.ref f3))) (l3 : K.lookup f3 = some ⟨oc3, od3, .func (PySem.W.fnOf "is_number" "is_number" (defArgs s_is_number) (defBody s_is_number) (defScope s_is_number) .none kV3 dc3 pm3 an3 cd3 ct3), sl3⟩) (c3 : PySem.W.codeIn K cd3 "is_number" = true) (k3 : PySem.W.keepIn K (.ref f3) = true)
    (a4 : PySem.W.nsIn K mainGlobals "check_number" = some (some (.ref f4))) (l4 : K.lookup f4 = some ⟨oc4, od4, .func (PySem.W.fnOf "check_number" "check_number" (defArgs s_check_number) (defBody s_check_number) (defScope s_check_number) .none kV4 dc4 pm4 an4 cd4 ct4), sl4⟩) (c4 : PySem.W.codeIn K cd4 "check_number" = true) (k4 : PySem.W.keepIn K (.ref f4) = true)
    (a5 : PySem.W.nsIn K mainGlobals "number_text" = some (some (.ref f5))) (l5 : K.lookup f5 = some ⟨oc5, od5, .func (PySem.W.fnOf "number_text" "number_text" (defArgs s_number_text) (defBody s_number_text) (defScope s_number_text) .none kV5 dc5 pm5 an5 cd5 ct5), sl5⟩) (c5 : PySem.W.codeIn K cd5 "number_text" = true) (k5 : PySem.W.keepIn K (.ref f5) = true)
    (m6 : PySem.W.findIn K (.ref C_Root) "__str__" = some (some (.ref f6))) (t6 : PySem.W.isFn K (.ref f6) = true) (l6 : K.lookup f6 = some ⟨oc6, od6, .func (PySem.W.fnOf "__str__" "Root.__str__" (defArgs s_Root_str) (defBody s_Root_str) (defScope s_Root_str) .none kV6 dc6 pm6 an6 cd6 ct6), sl6⟩) (c6 : PySem.W.codeIn K cd6 "Root.__str__" = true) (k6 : PySem.W.keepIn K (.ref f6) = true)
    (a7 : PySem.W.nsIn K mainGlobals "are_digits" = some (some (.ref f7))) (l7 : K.lookup f7 = some ⟨oc7, od7, .func (PySem.W.fnOf "are_digits" "are_digits" (defArgs s_are_digits) (defBody s_are_digits) (defScope s_are_digits) .none kV7 dc7 pm7 an7 cd7 ct7), sl7⟩) (c7 : PySem.W.codeIn K cd7 "are_digits" = true) (k7 : PySem.W.keepIn K (.ref f7) = true)
    (a8 : PySem.W.nsIn K mainGlobals "loosely_read_numbers" = some (some (.ref f8))) (l8 : K.lookup f8 = some ⟨oc8, od8, .func (PySem.W.fnOf "_loosely_read" "_loosely_read" (defArgs s_loosely_read_numbers) (defBody s_loosely_read_numbers) (defScope s_loosely_read_numbers) .none kV8 dc8 pm8 an8 cd8 ct8), sl8⟩) (c8 : PySem.W.codeIn K cd8 "_loosely_read" = true) (k8 : PySem.W.keepIn K (.ref f8) = true)
    (a9 : PySem.W.nsIn K mainGlobals "read_number" = some (some (.ref f9))) (l9 : K.lookup f9 = some ⟨oc9, od9, .func (PySem.W.fnOf "read_number" "read_number" (defArgs s_read_number) (defBody s_read_number) (defScope s_read_number) .none kV9 dc9 pm9 an9 cd9 ct9), sl9⟩) (c9 : PySem.W.codeIn K cd9 "read_number" = true) (k9 : PySem.W.keepIn K (.ref f9) = true)
    (a10 : PySem.W.nsIn K mainGlobals "check_degree" = some (some (.ref f10))) (l10 : K.lookup f10 = some ⟨oc10, od10, .func (PySem.W.fnOf "check_degree" "check_degree" (defArgs s_check_degree) (defBody s_check_degree) (defScope s_check_degree) dV10 kV10 dc10 pm10 an10 cd10 ct10), sl10⟩) (c10 : PySem.W.codeIn K cd10 "check_degree" = true) (k10 : PySem.W.keepIn K (.ref f10) = true) (df10 : kD K (.tup dd_check_degree) dV10 = true)
    (a11 : PySem.W.nsIn K mainGlobals "power_of" = some (some (.ref f11))) (l11 : K.lookup f11 = some ⟨oc11, od11, .func (PySem.W.fnOf "power_of" "power_of" (defArgs s_power_of) (defBody s_power_of) (defScope s_power_of) .none kV11 dc11 pm11 an11 cd11 ct11), sl11⟩) (c11 : PySem.W.codeIn K cd11 "power_of" = true) (k11 : PySem.W.keepIn K (.ref f11) = true)
    (a12 : PySem.W.nsIn K mainGlobals "floor_root" = some (some (.ref f12))) (l12 : K.lookup f12 = some ⟨oc12, od12, .func (PySem.W.fnOf "floor_root" "floor_root" (defArgs s_floor_root) (defBody s_floor_root) (defScope s_floor_root) .none kV12 dc12 pm12 an12 cd12 ct12), sl12⟩) (c12 : PySem.W.codeIn K cd12 "floor_root" = true) (k12 : PySem.W.keepIn K (.ref f12) = true)
    (a13 : PySem.W.nsIn K mainGlobals "exact_root" = some (some (.ref f13))) (l13 : K.lookup f13 = some ⟨oc13, od13, .func (PySem.W.fnOf "exact_root" "exact_root" (defArgs s_exact_root) (defBody s_exact_root) (defScope s_exact_root) .none kV13 dc13 pm13 an13 cd13 ct13), sl13⟩) (c13 : PySem.W.codeIn K cd13 "exact_root" = true) (k13 : PySem.W.keepIn K (.ref f13) = true)
    (a14 : PySem.W.nsIn K mainGlobals "_rough_root_by" = some (some (.ref f14))) (l14 : K.lookup f14 = some ⟨oc14, od14, .func (PySem.W.fnOf "_rough_root_by" "_rough_root_by" (defArgs s_rough_root_by) (defBody s_rough_root_by) (defScope s_rough_root_by) .none kV14 dc14 pm14 an14 cd14 ct14), sl14⟩) (c14 : PySem.W.codeIn K cd14 "_rough_root_by" = true) (k14 : PySem.W.keepIn K (.ref f14) = true)
    (a15 : PySem.W.nsIn K mainGlobals "divided_out" = some (some (.ref f15))) (l15 : K.lookup f15 = some ⟨oc15, od15, .func (PySem.W.fnOf "divided_out" "divided_out" (defArgs s_divided_out) (defBody s_divided_out) (defScope s_divided_out) .none kV15 dc15 pm15 an15 cd15 ct15), sl15⟩) (c15 : PySem.W.codeIn K cd15 "divided_out" = true) (k15 : PySem.W.keepIn K (.ref f15) = true)
    (a16 : PySem.W.nsIn K mainGlobals "integer_root_by" = some (some (.ref f16))) (l16 : K.lookup f16 = some ⟨oc16, od16, .func (PySem.W.fnOf "integer_root_by" "integer_root_by" (defArgs s_integer_root_by) (defBody s_integer_root_by) (defScope s_integer_root_by) .none kV16 dc16 pm16 an16 cd16 ct16), sl16⟩) (c16 : PySem.W.codeIn K cd16 "integer_root_by" = true) (k16 : PySem.W.keepIn K (.ref f16) = true)
    (a17 : PySem.W.nsIn K mainGlobals "fraction_root_by" = some (some (.ref f17))) (l17 : K.lookup f17 = some ⟨oc17, od17, .func (PySem.W.fnOf "fraction_root_by" "fraction_root_by" (defArgs s_fraction_root_by) (defBody s_fraction_root_by) (defScope s_fraction_root_by) .none kV17 dc17 pm17 an17 cd17 ct17), sl17⟩) (c17 : PySem.W.codeIn K cd17 "fraction_root_by" = true) (k17 : PySem.W.keepIn K (.ref f17) = true)
    (m18 : PySem.W.findIn K (.ref C_Root) "__init__" = some (some (.ref f18))) (t18 : PySem.W.isFn K (.ref f18) = true) (l18 : K.lookup f18 = some ⟨oc18, od18, .func (PySem.W.fnOf "__init__" "Root.__init__" (defArgs s_Root_init) (defBody s_Root_init) (defScope s_Root_init) .none kV18 dc18 pm18 an18 cd18 ct18), sl18⟩) (c18 : PySem.W.codeIn K cd18 "Root.__init__" = true) (k18 : PySem.W.keepIn K (.ref f18) = true)
    (a19 : PySem.W.nsIn K mainGlobals "loosely_read_roots" = some (some (.ref f19))) (l19 : K.lookup f19 = some ⟨oc19, od19, .func (PySem.W.fnOf "_loosely_read" "_loosely_read" (defArgs s_loosely_read_roots) (defBody s_loosely_read_roots) (defScope s_loosely_read_roots) .none kV19 dc19 pm19 an19 cd19 ct19), sl19⟩) (c19 : PySem.W.codeIn K cd19 "_loosely_read" = true) (k19 : PySem.W.keepIn K (.ref f19) = true)
    (a20 : PySem.W.nsIn K mainGlobals "root_or_none" = some (some (.ref f20))) (l20 : K.lookup f20 = some ⟨oc20, od20, .func (PySem.W.fnOf "root_or_none" "root_or_none" (defArgs s_root_or_none) (defBody s_root_or_none) (defScope s_root_or_none) .none kV20 dc20 pm20 an20 cd20 ct20), sl20⟩) (c20 : PySem.W.codeIn K cd20 "root_or_none" = true) (k20 : PySem.W.keepIn K (.ref f20) = true)
    (g21 : PySem.W.readsIn K C_Root (.type "type") = true) (t21 : PySem.W.specialIn K (.ref C_Root) "__getattribute__" = some (some (.builtin "type.__getattribute__"))) (m21 : PySem.W.findCls K (.ref C_Root) (.type "type") "read" = some (.get (.builtin "staticmethod.__get__") (.ref p21) .none (.ref C_Root))) (r21 : PySem.W.recIn K p21 "staticmethod" = some (.ref f21 :: rs21)) (l21 : K.lookup f21 = some ⟨oc21, od21, .func (PySem.W.fnOf "read" "Root.read" (defArgs s_Root_read) (defBody s_Root_read) (defScope s_Root_read) .none kV21 dc21 pm21 an21 cd21 ct21), sl21⟩) (c21 : PySem.W.codeIn K cd21 "Root.read" = true) (k21 : PySem.W.keepIn K (.ref f21) = true)
    (a22 : PySem.W.nsIn K mainGlobals "_law_by_hand" = some (some (.ref f22))) (l22 : K.lookup f22 = some ⟨oc22, od22, .func (PySem.W.fnOf "_law_by_hand" "_law_by_hand" (defArgs s_l_by_hand) (defBody s_l_by_hand) (defScope s_l_by_hand) .none kV22 dc22 pm22 an22 (.ref cc22) ct22), sl22⟩) (c22 : PySem.W.codeIn K (.ref cc22) "_law_by_hand" = true) (k22 : PySem.W.keepIn K (.ref f22) = true)
    (lc22 : K.lookup cc22 = some ⟨me22, md22, .fields mv22, ms22⟩) (v22 : mv22[11]? = some (.ref mp22)) (hd22 : PySem.W.codeHdIn K cc22 mp22 = true) (o22 : K.lookup mp22 = none)
    (a23 : PySem.W.nsIn K mainGlobals "_law_gcd" = some (some (.ref f23))) (l23 : K.lookup f23 = some ⟨oc23, od23, .func (PySem.W.fnOf "_law_gcd" "_law_gcd" (defArgs s_l_gcd) (defBody s_l_gcd) (defScope s_l_gcd) .none kV23 dc23 pm23 an23 cd23 ct23), sl23⟩) (c23 : PySem.W.codeIn K cd23 "_law_gcd" = true) (k23 : PySem.W.keepIn K (.ref f23) = true)
    (a24 : PySem.W.nsIn K mainGlobals "_law_low" = some (some (.ref f24))) (l24 : K.lookup f24 = some ⟨oc24, od24, .func (PySem.W.fnOf "_law_low" "_law_low" (defArgs s_l_low) (defBody s_l_low) (defScope s_l_low) .none kV24 dc24 pm24 an24 cd24 ct24), sl24⟩) (c24 : PySem.W.codeIn K cd24 "_law_low" = true) (k24 : PySem.W.keepIn K (.ref f24) = true)
    (a25 : PySem.W.nsIn K mainGlobals "_law_text" = some (some (.ref f25))) (l25 : K.lookup f25 = some ⟨oc25, od25, .func (PySem.W.fnOf "_law_text" "_law_text" (defArgs s_l_text) (defBody s_l_text) (defScope s_l_text) .none kV25 dc25 pm25 an25 cd25 ct25), sl25⟩) (c25 : PySem.W.codeIn K cd25 "_law_text" = true) (k25 : PySem.W.keepIn K (.ref f25) = true)
    (a26 : PySem.W.nsIn K mainGlobals "_law_to" = some (some (.ref f26))) (l26 : K.lookup f26 = some ⟨oc26, od26, .func (PySem.W.fnOf "_law_to" "_law_to" (defArgs s_l_to) (defBody s_l_to) (defScope s_l_to) .none kV26 dc26 pm26 an26 cd26 ct26), sl26⟩) (c26 : PySem.W.codeIn K cd26 "_law_to" = true) (k26 : PySem.W.keepIn K (.ref f26) = true)
    (a27 : PySem.W.nsIn K mainGlobals "_law_value" = some (some (.ref f27))) (l27 : K.lookup f27 = some ⟨oc27, od27, .func (PySem.W.fnOf "_law_value" "_law_value" (defArgs s_l_value) (defBody s_l_value) (defScope s_l_value) .none kV27 dc27 pm27 an27 cd27 ct27), sl27⟩) (c27 : PySem.W.codeIn K cd27 "_law_value" = true) (k27 : PySem.W.keepIn K (.ref f27) = true)
    (a28 : PySem.W.nsIn K mainGlobals "_law_said" = some (some (.ref f28))) (l28 : K.lookup f28 = some ⟨oc28, od28, .func (PySem.W.fnOf "_law_said" "_law_said" (defArgs s_l_said) (defBody s_l_said) (defScope s_l_said) .none kV28 dc28 pm28 an28 cd28 ct28), sl28⟩) (c28 : PySem.W.codeIn K cd28 "_law_said" = true) (k28 : PySem.W.keepIn K (.ref f28) = true)
    (a29 : PySem.W.nsIn K mainGlobals "_law_tap" = some (some (.ref f29))) (l29 : K.lookup f29 = some ⟨oc29, od29, .func (PySem.W.fnOf "_law_tap" "_law_tap" (defArgs s_l_tap) (defBody s_l_tap) (defScope s_l_tap) .none kV29 dc29 pm29 an29 cd29 ct29), sl29⟩) (c29 : PySem.W.codeIn K cd29 "_law_tap" = true) (k29 : PySem.W.keepIn K (.ref f29) = true)
    (a30 : PySem.W.nsIn K mainGlobals "_law_of" = some (some (.ref f30))) (l30 : K.lookup f30 = some ⟨oc30, od30, .func (PySem.W.fnOf "_law_of" "_law_of" (defArgs s_l_of) (defBody s_l_of) (defScope s_l_of) .none kV30 dc30 pm30 an30 cd30 ct30), sl30⟩) (c30 : PySem.W.codeIn K cd30 "_law_of" = true) (k30 : PySem.W.keepIn K (.ref f30) = true)
    (a31 : PySem.W.nsIn K mainGlobals "_law_odd" = some (some (.ref f31))) (l31 : K.lookup f31 = some ⟨oc31, od31, .func (PySem.W.fnOf "_law_odd" "_law_odd" (defArgs s_l_odd) (defBody s_l_odd) (defScope s_l_odd) .none kV31 dc31 pm31 an31 cd31 ct31), sl31⟩) (c31 : PySem.W.codeIn K cd31 "_law_odd" = true) (k31 : PySem.W.keepIn K (.ref f31) = true)
    (a32 : PySem.W.nsIn K mainGlobals "_law_exps" = some (some (.ref f32))) (l32 : K.lookup f32 = some ⟨oc32, od32, .func (PySem.W.fnOf "_law_exps" "_law_exps" (defArgs s_l_exps) (defBody s_l_exps) (defScope s_l_exps) .none kV32 dc32 pm32 an32 cd32 ct32), sl32⟩) (c32 : PySem.W.codeIn K cd32 "_law_exps" = true) (k32 : PySem.W.keepIn K (.ref f32) = true)
    (a33 : PySem.W.nsIn K mainGlobals "_law_some_root" = some (some (.ref f33))) (l33 : K.lookup f33 = some ⟨oc33, od33, .func (PySem.W.fnOf "_law_some_root" "_law_some_root" (defArgs s_l_some_root) (defBody s_l_some_root) (defScope s_l_some_root) .none kV33 dc33 pm33 an33 cd33 ct33), sl33⟩) (c33 : PySem.W.codeIn K cd33 "_law_some_root" = true) (k33 : PySem.W.keepIn K (.ref f33) = true)
    (a34 : PySem.W.nsIn K mainGlobals "_law_number_in" = some (some (.ref f34))) (l34 : K.lookup f34 = some ⟨oc34, od34, .func (PySem.W.fnOf "_law_number_in" "_law_number_in" (defArgs s_l_number_in) (defBody s_l_number_in) (defScope s_l_number_in) .none kV34 dc34 pm34 an34 cd34 ct34), sl34⟩) (c34 : PySem.W.codeIn K cd34 "_law_number_in" = true) (k34 : PySem.W.keepIn K (.ref f34) = true)
    (a35 : PySem.W.nsIn K mainGlobals "_law_primes" = some (some (.ref f35))) (l35 : K.lookup f35 = some ⟨oc35, od35, .func (PySem.W.fnOf "_law_primes" "_law_primes" (defArgs s_l_primes) (defBody s_l_primes) (defScope s_l_primes) .none kV35 dc35 pm35 an35 cd35 ct35), sl35⟩) (c35 : PySem.W.codeIn K cd35 "_law_primes" = true) (k35 : PySem.W.keepIn K (.ref f35) = true)
    (a36 : PySem.W.nsIn K mainGlobals "_law_floor" = some (some (.ref f36))) (l36 : K.lookup f36 = some ⟨oc36, od36, .func (PySem.W.fnOf "_law_floor" "_law_floor" (defArgs s_l_floor) (defBody s_l_floor) (defScope s_l_floor) .none kV36 dc36 pm36 an36 cd36 ct36), sl36⟩) (c36 : PySem.W.codeIn K cd36 "_law_floor" = true) (k36 : PySem.W.keepIn K (.ref f36) = true)
    (a37 : PySem.W.nsIn K mainGlobals "_law_is_power" = some (some (.ref f37))) (l37 : K.lookup f37 = some ⟨oc37, od37, .func (PySem.W.fnOf "_law_is_power" "_law_is_power" (defArgs s_l_is_power) (defBody s_l_is_power) (defScope s_l_is_power) .none kV37 dc37 pm37 an37 cd37 ct37), sl37⟩) (c37 : PySem.W.codeIn K cd37 "_law_is_power" = true) (k37 : PySem.W.keepIn K (.ref f37) = true)
    (a38 : PySem.W.nsIn K mainGlobals "_law_is_root_text" = some (some (.ref f38))) (l38 : K.lookup f38 = some ⟨oc38, od38, .func (PySem.W.fnOf "_law_is_root_text" "_law_is_root_text" (defArgs s_l_is_root_text) (defBody s_l_is_root_text) (defScope s_l_is_root_text) .none kV38 dc38 pm38 an38 cd38 ct38), sl38⟩) (c38 : PySem.W.codeIn K cd38 "_law_is_root_text" = true) (k38 : PySem.W.keepIn K (.ref f38) = true)
    (a39 : PySem.W.nsIn K mainGlobals "_law_bent_text" = some (some (.ref f39))) (l39 : K.lookup f39 = some ⟨oc39, od39, .func (PySem.W.fnOf "_law_bent_text" "_law_bent_text" (defArgs s_l_bent_text) (defBody s_l_bent_text) (defScope s_l_bent_text) .none kV39 dc39 pm39 an39 cd39 ct39), sl39⟩) (c39 : PySem.W.codeIn K cd39 "_law_bent_text" = true) (k39 : PySem.W.keepIn K (.ref f39) = true)
    (m40 : PySem.W.findIn K (.ref C_Root) "__eq__" = some (some (.ref f40))) (t40 : PySem.W.isFn K (.ref f40) = true) (l40 : K.lookup f40 = some ⟨oc40, od40, .func (PySem.W.fnOf "__eq__" "Root.__eq__" (defArgs s_Root_eq) (defBody s_Root_eq) (defScope s_Root_eq) .none kV40 dc40 pm40 an40 cd40 ct40), sl40⟩) (c40 : PySem.W.codeIn K cd40 "Root.__eq__" = true) (k40 : PySem.W.keepIn K (.ref f40) = true)
    (a41 : PySem.W.nsIn K mainGlobals "_law_right" = some (some (.ref f41))) (l41 : K.lookup f41 = some ⟨oc41, od41, .func (PySem.W.fnOf "_law_right" "_law_right" (defArgs s_l_right) (defBody s_l_right) (defScope s_l_right) .none kV41 dc41 pm41 an41 (.ref cc41) ct41), sl41⟩) (c41 : PySem.W.codeIn K (.ref cc41) "_law_right" = true) (k41 : PySem.W.keepIn K (.ref f41) = true)
    (lc41 : K.lookup cc41 = some ⟨me41, md41, .fields mv41, ms41⟩) (v41 : mv41[11]? = some (.ref mp41)) (hd41 : PySem.W.codeHdIn K cc41 mp41 = true) (o41 : K.lookup mp41 = none)
    (a42 : PySem.W.nsIn K mainGlobals "_law_open" = some (some (.ref f42))) (l42 : K.lookup f42 = some ⟨oc42, od42, .func (PySem.W.fnOf "_law_open" "_law_open" (defArgs s_l_open) (defBody s_l_open) (defScope s_l_open) .none kV42 dc42 pm42 an42 cd42 ct42), sl42⟩) (c42 : PySem.W.codeIn K cd42 "_law_open" = true) (k42 : PySem.W.keepIn K (.ref f42) = true)
    (a43 : PySem.W.nsIn K mainGlobals "law" = some (some (.ref f43))) (l43 : K.lookup f43 = some ⟨oc43, od43, .func (PySem.W.fnOf "law" "law" (defArgs s_law) (defBody s_law) (defScope s_law) .none kV43 dc43 pm43 an43 cd43 ct43), sl43⟩) (c43 : PySem.W.codeIn K cd43 "law" = true) (k43 : PySem.W.keepIn K (.ref f43) = true)
    (z_ArithmeticError : PySem.W.nsIn K mainGlobals "ArithmeticError" = some none)
    (z_LookupError : PySem.W.nsIn K mainGlobals "LookupError" = some none)
    (z_ValueError : PySem.W.nsIn K mainGlobals "ValueError" = some none)
    (z_abs : PySem.W.nsIn K mainGlobals "abs" = some none)
    (z_all : PySem.W.nsIn K mainGlobals "all" = some none)
    (z_bool : PySem.W.nsIn K mainGlobals "bool" = some none)
    (z_divmod : PySem.W.nsIn K mainGlobals "divmod" = some none)
    (z_int : PySem.W.nsIn K mainGlobals "int" = some none)
    (z_isinstance : PySem.W.nsIn K mainGlobals "isinstance" = some none)
    (z_len : PySem.W.nsIn K mainGlobals "len" = some none)
    (z_list : PySem.W.nsIn K mainGlobals "list" = some none)
    (z_max : PySem.W.nsIn K mainGlobals "max" = some none)
    (z_min : PySem.W.nsIn K mainGlobals "min" = some none)
    (z_range : PySem.W.nsIn K mainGlobals "range" = some none)
    (z_repr : PySem.W.nsIn K mainGlobals "repr" = some none)
    (z_set : PySem.W.nsIn K mainGlobals "set" = some none)
    (z_sorted : PySem.W.nsIn K mainGlobals "sorted" = some none)
    (z_str : PySem.W.nsIn K mainGlobals "str" = some none)
    (z_tuple : PySem.W.nsIn K mainGlobals "tuple" = some none)
    (z_zip : PySem.W.nsIn K mainGlobals "zip" = some none)
    (y_MOST_SIZE : PySem.W.nsIn K mainGlobals "MOST_SIZE" = some (some (.int c_MOST_SIZE t_MOST_SIZE)))
    (y_MOST_DEGREE : PySem.W.nsIn K mainGlobals "MOST_DEGREE" = some (some (.int c_MOST_DEGREE t_MOST_DEGREE)))
    (y_SMALL_PRIMES : PySem.W.nsIn K mainGlobals "SMALL_PRIMES" = some (some (.int c_SMALL_PRIMES t_SMALL_PRIMES)))
    (y_POWER_RESTS : PySem.W.nsIn K mainGlobals "POWER_RESTS" = some (some v_POWER_RESTS)) (dk_POWER_RESTS : kD K c_POWER_RESTS v_POWER_RESTS = true)
    (EInvalidDegree_a : PySem.W.nsIn K mainGlobals "InvalidDegree" = some (some (.ref EInvalidDegree_C))) (EInvalidDegree_l : K.lookup EInvalidDegree_C = some (PySem.excClassObj EInvalidDegree_nm EInvalidDegree_q EInvalidDegree_C EInvalidDegree_N EInvalidDegree_bs EInvalidDegree_bm true EInvalidDegree_sn EInvalidDegree_sub EInvalidDegree_ab EInvalidDegree_col EInvalidDegree_dd EInvalidDegree_k0 EInvalidDegree_k1 EInvalidDegree_k2 EInvalidDegree_k3 EInvalidDegree_k5 "ValueError.__new__")) (EInvalidDegree_sa : PySem.W.findIn K (.ref EInvalidDegree_C) "__setattr__" = some (some (.builtin "object.__setattr__"))) (EInvalidDegree_ga : PySem.W.findIn K (.ref EInvalidDegree_C) "__getattribute__" = some (some (.builtin "BaseException.__getattribute__"))) (EInvalidDegree_gg : PySem.W.findIn K (.ref EInvalidDegree_C) "__getattr__" = some none) (EInvalidDegree_nf : PySem.W.findIn K (.ref EInvalidDegree_C) "given" = some none) (EInvalidDegree_ic : PySem.W.findIn K (.ref EInvalidDegree_C) "__init__" = some (some (.ref EInvalidDegree_I))) (EInvalidDegree_tc : PySem.W.typeIn K (.ref EInvalidDegree_I) = some (.type "function")) (EInvalidDegree_kc : PySem.W.keepIn K (.ref EInvalidDegree_C) = true) (EInvalidDegree_ec : PySem.W.subIn K (.ref EInvalidDegree_C) (.type "BaseException") = some true) (EInvalidDegree_ty : PySem.W.typeIn K (.ref EInvalidDegree_C) = some (.type "type")) (EInvalidDegree_hd : PySem.W.hasDictIn K EInvalidDegree_C = true) (EInvalidDegree_is : PySem.W.isClsIn K EInvalidDegree_C = true) (EInvalidDegree_ss : PySem.W.subIn K (.ref EInvalidDegree_C) (.ref EInvalidDegree_C) = some true) (EInvalidDegree_li : K.lookup EInvalidDegree_I = some ⟨EInvalidDegree_oc, EInvalidDegree_od, .func (PySem.W.fnOf "__init__" "InvalidDegree.__init__" (errArgs "given" EInvalidDegree_p1 EInvalidDegree_p2) (errBody "given" EInvalidDegree_q1 EInvalidDegree_q2 EInvalidDegree_q3 EInvalidDegree_q4) (errScope "given") .none .none EInvalidDegree_dc EInvalidDegree_pm EInvalidDegree_an EInvalidDegree_cd EInvalidDegree_ct), EInvalidDegree_sl⟩) (EInvalidDegree_ci : PySem.W.codeIn K EInvalidDegree_cd "InvalidDegree.__init__" = true) (EInvalidDegree_un : dropRefs EInvalidDegree_bm = veTail)
    (EInvalidNumber_a : PySem.W.nsIn K mainGlobals "InvalidNumber" = some (some (.ref EInvalidNumber_C))) (EInvalidNumber_l : K.lookup EInvalidNumber_C = some (PySem.excClassObj EInvalidNumber_nm EInvalidNumber_q EInvalidNumber_C EInvalidNumber_N EInvalidNumber_bs EInvalidNumber_bm true EInvalidNumber_sn EInvalidNumber_sub EInvalidNumber_ab EInvalidNumber_col EInvalidNumber_dd EInvalidNumber_k0 EInvalidNumber_k1 EInvalidNumber_k2 EInvalidNumber_k3 EInvalidNumber_k5 "ValueError.__new__")) (EInvalidNumber_sa : PySem.W.findIn K (.ref EInvalidNumber_C) "__setattr__" = some (some (.builtin "object.__setattr__"))) (EInvalidNumber_ga : PySem.W.findIn K (.ref EInvalidNumber_C) "__getattribute__" = some (some (.builtin "BaseException.__getattribute__"))) (EInvalidNumber_gg : PySem.W.findIn K (.ref EInvalidNumber_C) "__getattr__" = some none) (EInvalidNumber_nf : PySem.W.findIn K (.ref EInvalidNumber_C) "given" = some none) (EInvalidNumber_ic : PySem.W.findIn K (.ref EInvalidNumber_C) "__init__" = some (some (.ref EInvalidNumber_I))) (EInvalidNumber_tc : PySem.W.typeIn K (.ref EInvalidNumber_I) = some (.type "function")) (EInvalidNumber_kc : PySem.W.keepIn K (.ref EInvalidNumber_C) = true) (EInvalidNumber_ec : PySem.W.subIn K (.ref EInvalidNumber_C) (.type "BaseException") = some true) (EInvalidNumber_ty : PySem.W.typeIn K (.ref EInvalidNumber_C) = some (.type "type")) (EInvalidNumber_hd : PySem.W.hasDictIn K EInvalidNumber_C = true) (EInvalidNumber_is : PySem.W.isClsIn K EInvalidNumber_C = true) (EInvalidNumber_ss : PySem.W.subIn K (.ref EInvalidNumber_C) (.ref EInvalidNumber_C) = some true) (EInvalidNumber_li : K.lookup EInvalidNumber_I = some ⟨EInvalidNumber_oc, EInvalidNumber_od, .func (PySem.W.fnOf "__init__" "InvalidNumber.__init__" (errArgs "given" EInvalidNumber_p1 EInvalidNumber_p2) (errBody "given" EInvalidNumber_q1 EInvalidNumber_q2 EInvalidNumber_q3 EInvalidNumber_q4) (errScope "given") .none .none EInvalidNumber_dc EInvalidNumber_pm EInvalidNumber_an EInvalidNumber_cd EInvalidNumber_ct), EInvalidNumber_sl⟩) (EInvalidNumber_ci : PySem.W.codeIn K EInvalidNumber_cd "InvalidNumber.__init__" = true) (EInvalidNumber_un : dropRefs EInvalidNumber_bm = veTail)
    (EInvalidText_a : PySem.W.nsIn K mainGlobals "InvalidText" = some (some (.ref EInvalidText_C))) (EInvalidText_l : K.lookup EInvalidText_C = some (PySem.excClassObj EInvalidText_nm EInvalidText_q EInvalidText_C EInvalidText_N EInvalidText_bs EInvalidText_bm true EInvalidText_sn EInvalidText_sub EInvalidText_ab EInvalidText_col EInvalidText_dd EInvalidText_k0 EInvalidText_k1 EInvalidText_k2 EInvalidText_k3 EInvalidText_k5 "ValueError.__new__")) (EInvalidText_sa : PySem.W.findIn K (.ref EInvalidText_C) "__setattr__" = some (some (.builtin "object.__setattr__"))) (EInvalidText_ga : PySem.W.findIn K (.ref EInvalidText_C) "__getattribute__" = some (some (.builtin "BaseException.__getattribute__"))) (EInvalidText_gg : PySem.W.findIn K (.ref EInvalidText_C) "__getattr__" = some none) (EInvalidText_nf : PySem.W.findIn K (.ref EInvalidText_C) "given" = some none) (EInvalidText_ic : PySem.W.findIn K (.ref EInvalidText_C) "__init__" = some (some (.ref EInvalidText_I))) (EInvalidText_tc : PySem.W.typeIn K (.ref EInvalidText_I) = some (.type "function")) (EInvalidText_kc : PySem.W.keepIn K (.ref EInvalidText_C) = true) (EInvalidText_ec : PySem.W.subIn K (.ref EInvalidText_C) (.type "BaseException") = some true) (EInvalidText_ty : PySem.W.typeIn K (.ref EInvalidText_C) = some (.type "type")) (EInvalidText_hd : PySem.W.hasDictIn K EInvalidText_C = true) (EInvalidText_is : PySem.W.isClsIn K EInvalidText_C = true) (EInvalidText_ss : PySem.W.subIn K (.ref EInvalidText_C) (.ref EInvalidText_C) = some true) (EInvalidText_li : K.lookup EInvalidText_I = some ⟨EInvalidText_oc, EInvalidText_od, .func (PySem.W.fnOf "__init__" "InvalidText.__init__" (errArgs "given" EInvalidText_p1 EInvalidText_p2) (errBody "given" EInvalidText_q1 EInvalidText_q2 EInvalidText_q3 EInvalidText_q4) (errScope "given") .none .none EInvalidText_dc EInvalidText_pm EInvalidText_an EInvalidText_cd EInvalidText_ct), EInvalidText_sl⟩) (EInvalidText_ci : PySem.W.codeIn K EInvalidText_cd "InvalidText.__init__" = true) (EInvalidText_un : dropRefs EInvalidText_bm = veTail)
    (gN_InvalidDegree : PySem.W.nsIn K mainGlobals "InvalidDegree" = some (some (.ref NInvalidDegree))) (hN_InvalidDegree : PySem.W.hasDictIn K NInvalidDegree = true) (tN_InvalidDegree : PySem.W.typeIn K (.ref NInvalidDegree) = some (.type "type")) (eN_InvalidDegree : PySem.W.subIn K (.ref NInvalidDegree) (.type "BaseException") = some true)
    (gN_InvalidKind : PySem.W.nsIn K mainGlobals "InvalidKind" = some (some (.ref NInvalidKind))) (hN_InvalidKind : PySem.W.hasDictIn K NInvalidKind = true) (tN_InvalidKind : PySem.W.typeIn K (.ref NInvalidKind) = some (.type "type")) (eN_InvalidKind : PySem.W.subIn K (.ref NInvalidKind) (.type "BaseException") = some true)
    (gN_InvalidLooks : PySem.W.nsIn K mainGlobals "InvalidLooks" = some (some (.ref NInvalidLooks))) (hN_InvalidLooks : PySem.W.hasDictIn K NInvalidLooks = true) (tN_InvalidLooks : PySem.W.typeIn K (.ref NInvalidLooks) = some (.type "type")) (eN_InvalidLooks : PySem.W.subIn K (.ref NInvalidLooks) (.type "BaseException") = some true)
    (gN_InvalidNumber : PySem.W.nsIn K mainGlobals "InvalidNumber" = some (some (.ref NInvalidNumber))) (hN_InvalidNumber : PySem.W.hasDictIn K NInvalidNumber = true) (tN_InvalidNumber : PySem.W.typeIn K (.ref NInvalidNumber) = some (.type "type")) (eN_InvalidNumber : PySem.W.subIn K (.ref NInvalidNumber) (.type "BaseException") = some true)
    (gN_InvalidRoots : PySem.W.nsIn K mainGlobals "InvalidRoots" = some (some (.ref NInvalidRoots))) (hN_InvalidRoots : PySem.W.hasDictIn K NInvalidRoots = true) (tN_InvalidRoots : PySem.W.typeIn K (.ref NInvalidRoots) = some (.type "type")) (eN_InvalidRoots : PySem.W.subIn K (.ref NInvalidRoots) (.type "BaseException") = some true)
    (gN_InvalidText : PySem.W.nsIn K mainGlobals "InvalidText" = some (some (.ref NInvalidText))) (hN_InvalidText : PySem.W.hasDictIn K NInvalidText = true) (tN_InvalidText : PySem.W.typeIn K (.ref NInvalidText) = some (.type "type")) (eN_InvalidText : PySem.W.subIn K (.ref NInvalidText) (.type "BaseException") = some true)
    (gN_NoAnswer : PySem.W.nsIn K mainGlobals "NoAnswer" = some (some (.ref NNoAnswer))) (hN_NoAnswer : PySem.W.hasDictIn K NNoAnswer = true) (tN_NoAnswer : PySem.W.typeIn K (.ref NNoAnswer) = some (.type "type")) (eN_NoAnswer : PySem.W.subIn K (.ref NNoAnswer) (.type "BaseException") = some true)
    (gN_NoNumber : PySem.W.nsIn K mainGlobals "NoNumber" = some (some (.ref NNoNumber))) (hN_NoNumber : PySem.W.hasDictIn K NNoNumber = true) (tN_NoNumber : PySem.W.typeIn K (.ref NNoNumber) = some (.type "type")) (eN_NoNumber : PySem.W.subIn K (.ref NNoNumber) (.type "BaseException") = some true)
    (gN_NotARoot : PySem.W.nsIn K mainGlobals "NotARoot" = some (some (.ref NNotARoot))) (hN_NotARoot : PySem.W.hasDictIn K NNotARoot = true) (tN_NotARoot : PySem.W.typeIn K (.ref NNotARoot) = some (.type "type")) (eN_NotARoot : PySem.W.subIn K (.ref NNotARoot) (.type "BaseException") = some true)
    (gN_TooGreat : PySem.W.nsIn K mainGlobals "TooGreat" = some (some (.ref NTooGreat))) (hN_TooGreat : PySem.W.hasDictIn K NTooGreat = true) (tN_TooGreat : PySem.W.typeIn K (.ref NTooGreat) = some (.type "type")) (eN_TooGreat : PySem.W.subIn K (.ref NTooGreat) (.type "BaseException") = some true)
    (gN_WrongName : PySem.W.nsIn K mainGlobals "WrongName" = some (some (.ref NWrongName))) (hN_WrongName : PySem.W.hasDictIn K NWrongName = true) (tN_WrongName : PySem.W.typeIn K (.ref NWrongName) = some (.type "type")) (eN_WrongName : PySem.W.subIn K (.ref NWrongName) (.type "BaseException") = some true)
    (gN_WrongValue : PySem.W.nsIn K mainGlobals "WrongValue" = some (some (.ref NWrongValue))) (hN_WrongValue : PySem.W.hasDictIn K NWrongValue = true) (tN_WrongValue : PySem.W.typeIn K (.ref NWrongValue) = some (.type "type")) (eN_WrongValue : PySem.W.subIn K (.ref NWrongValue) (.type "BaseException") = some true)
    (EInvalidDegree_ca : PySem.W.findIn K (.ref EInvalidDegree_C) "__class__" = some (some (.builtin "object.__class__"))) (EInvalidDegree_cg : PySem.W.specialIn K (.builtin "object.__class__") "__get__" = some (some (.builtin "getset_descriptor.__get__"))) (EInvalidDegree_ct : PySem.W.takesIn K (.builtin "object.__class__") = some true) (EInvalidDegree_cm : PySem.W.mroIn K EInvalidDegree_C (.type "object") = some true) (EInvalidDegree_s_ArithmeticError : PySem.W.subIn K (.ref EInvalidDegree_C) (.type "ArithmeticError") = some false) (EInvalidDegree_s_InvalidDegree : PySem.W.subIn K (.ref EInvalidDegree_C) (.ref NInvalidDegree) = some true) (EInvalidDegree_s_InvalidKind : PySem.W.subIn K (.ref EInvalidDegree_C) (.ref NInvalidKind) = some false) (EInvalidDegree_s_InvalidLooks : PySem.W.subIn K (.ref EInvalidDegree_C) (.ref NInvalidLooks) = some false) (EInvalidDegree_s_InvalidNumber : PySem.W.subIn K (.ref EInvalidDegree_C) (.ref NInvalidNumber) = some false) (EInvalidDegree_s_InvalidRoots : PySem.W.subIn K (.ref EInvalidDegree_C) (.ref NInvalidRoots) = some false) (EInvalidDegree_s_InvalidText : PySem.W.subIn K (.ref EInvalidDegree_C) (.ref NInvalidText) = some false) (EInvalidDegree_s_LookupError : PySem.W.subIn K (.ref EInvalidDegree_C) (.type "LookupError") = some false) (EInvalidDegree_s_NoAnswer : PySem.W.subIn K (.ref EInvalidDegree_C) (.ref NNoAnswer) = some false) (EInvalidDegree_s_NoNumber : PySem.W.subIn K (.ref EInvalidDegree_C) (.ref NNoNumber) = some false) (EInvalidDegree_s_NotARoot : PySem.W.subIn K (.ref EInvalidDegree_C) (.ref NNotARoot) = some false) (EInvalidDegree_s_TooGreat : PySem.W.subIn K (.ref EInvalidDegree_C) (.ref NTooGreat) = some false) (EInvalidDegree_s_ValueError : PySem.W.subIn K (.ref EInvalidDegree_C) (.type "ValueError") = some true) (EInvalidDegree_s_WrongName : PySem.W.subIn K (.ref EInvalidDegree_C) (.ref NWrongName) = some false) (EInvalidDegree_s_WrongValue : PySem.W.subIn K (.ref EInvalidDegree_C) (.ref NWrongValue) = some true)
    (EInvalidNumber_ca : PySem.W.findIn K (.ref EInvalidNumber_C) "__class__" = some (some (.builtin "object.__class__"))) (EInvalidNumber_cg : PySem.W.specialIn K (.builtin "object.__class__") "__get__" = some (some (.builtin "getset_descriptor.__get__"))) (EInvalidNumber_ct : PySem.W.takesIn K (.builtin "object.__class__") = some true) (EInvalidNumber_cm : PySem.W.mroIn K EInvalidNumber_C (.type "object") = some true) (EInvalidNumber_s_ArithmeticError : PySem.W.subIn K (.ref EInvalidNumber_C) (.type "ArithmeticError") = some false) (EInvalidNumber_s_InvalidDegree : PySem.W.subIn K (.ref EInvalidNumber_C) (.ref NInvalidDegree) = some false) (EInvalidNumber_s_InvalidKind : PySem.W.subIn K (.ref EInvalidNumber_C) (.ref NInvalidKind) = some false) (EInvalidNumber_s_InvalidLooks : PySem.W.subIn K (.ref EInvalidNumber_C) (.ref NInvalidLooks) = some false) (EInvalidNumber_s_InvalidNumber : PySem.W.subIn K (.ref EInvalidNumber_C) (.ref NInvalidNumber) = some true) (EInvalidNumber_s_InvalidRoots : PySem.W.subIn K (.ref EInvalidNumber_C) (.ref NInvalidRoots) = some false) (EInvalidNumber_s_InvalidText : PySem.W.subIn K (.ref EInvalidNumber_C) (.ref NInvalidText) = some false) (EInvalidNumber_s_LookupError : PySem.W.subIn K (.ref EInvalidNumber_C) (.type "LookupError") = some false) (EInvalidNumber_s_NoAnswer : PySem.W.subIn K (.ref EInvalidNumber_C) (.ref NNoAnswer) = some false) (EInvalidNumber_s_NoNumber : PySem.W.subIn K (.ref EInvalidNumber_C) (.ref NNoNumber) = some false) (EInvalidNumber_s_NotARoot : PySem.W.subIn K (.ref EInvalidNumber_C) (.ref NNotARoot) = some false) (EInvalidNumber_s_TooGreat : PySem.W.subIn K (.ref EInvalidNumber_C) (.ref NTooGreat) = some false) (EInvalidNumber_s_ValueError : PySem.W.subIn K (.ref EInvalidNumber_C) (.type "ValueError") = some true) (EInvalidNumber_s_WrongName : PySem.W.subIn K (.ref EInvalidNumber_C) (.ref NWrongName) = some false) (EInvalidNumber_s_WrongValue : PySem.W.subIn K (.ref EInvalidNumber_C) (.ref NWrongValue) = some true)
    (EInvalidText_ca : PySem.W.findIn K (.ref EInvalidText_C) "__class__" = some (some (.builtin "object.__class__"))) (EInvalidText_cg : PySem.W.specialIn K (.builtin "object.__class__") "__get__" = some (some (.builtin "getset_descriptor.__get__"))) (EInvalidText_ct : PySem.W.takesIn K (.builtin "object.__class__") = some true) (EInvalidText_cm : PySem.W.mroIn K EInvalidText_C (.type "object") = some true) (EInvalidText_s_ArithmeticError : PySem.W.subIn K (.ref EInvalidText_C) (.type "ArithmeticError") = some false) (EInvalidText_s_InvalidDegree : PySem.W.subIn K (.ref EInvalidText_C) (.ref NInvalidDegree) = some false) (EInvalidText_s_InvalidKind : PySem.W.subIn K (.ref EInvalidText_C) (.ref NInvalidKind) = some false) (EInvalidText_s_InvalidLooks : PySem.W.subIn K (.ref EInvalidText_C) (.ref NInvalidLooks) = some false) (EInvalidText_s_InvalidNumber : PySem.W.subIn K (.ref EInvalidText_C) (.ref NInvalidNumber) = some false) (EInvalidText_s_InvalidRoots : PySem.W.subIn K (.ref EInvalidText_C) (.ref NInvalidRoots) = some false) (EInvalidText_s_InvalidText : PySem.W.subIn K (.ref EInvalidText_C) (.ref NInvalidText) = some true) (EInvalidText_s_LookupError : PySem.W.subIn K (.ref EInvalidText_C) (.type "LookupError") = some false) (EInvalidText_s_NoAnswer : PySem.W.subIn K (.ref EInvalidText_C) (.ref NNoAnswer) = some false) (EInvalidText_s_NoNumber : PySem.W.subIn K (.ref EInvalidText_C) (.ref NNoNumber) = some false) (EInvalidText_s_NotARoot : PySem.W.subIn K (.ref EInvalidText_C) (.ref NNotARoot) = some false) (EInvalidText_s_TooGreat : PySem.W.subIn K (.ref EInvalidText_C) (.ref NTooGreat) = some false) (EInvalidText_s_ValueError : PySem.W.subIn K (.ref EInvalidText_C) (.type "ValueError") = some true) (EInvalidText_s_WrongName : PySem.W.subIn K (.ref EInvalidText_C) (.ref NWrongName) = some false) (EInvalidText_s_WrongValue : PySem.W.subIn K (.ref EInvalidText_C) (.ref NWrongValue) = some true)
    (x_gcd : PySem.W.nsIn K mainGlobals "gcd" = some (some (.builtin "math.gcd")))
    (x_isqrt : PySem.W.nsIn K mainGlobals "isqrt" = some (some (.builtin "math.isqrt")))
    (mneh : (mp41 == mp22) = false) : Tx K mg :=
  { k_Root := ⟨C_Root, PySem.W.mg_of X G gc_Root, ⟨pg_Root, hd_Root, po_Root, sa_Root⟩, mk_Root, kc_Root, ob_Root, ca_Root, cg_Root, ct_Root, cm_Root, kit_self, no7 (kit_no hd_Root ty_Root nt0_Root) (kit_no hd_Root ty_Root nt1_Root) (kit_no hd_Root ty_Root nt2_Root) (kit_no hd_Root ty_Root nt3_Root) (kit_no hd_Root ty_Root nt4_Root) (kit_no hd_Root ty_Root nt5_Root) (kit_no hd_Root ty_Root nt6_Root)⟩,
    ne_Root := nn_Root,
    na_Root__degree := nf_Root__degree,
    na_Root__number := nf_Root__number,
    f_l_kind := ⟨f0, _, fun_mk (st := s_l_kind) l0 c0 k0, PySem.W.mg_of X G a0, (fun_mk (st := s_l_kind) l0 c0 k0).binds (ps := ["_law_e"]) fun _ _ _ _ _ _ us hl => match us, hl with | [_], _ => rfl⟩,
    f_l_tell := ⟨f1, _, fun_mk (st := s_l_tell) l1 c1 k1, PySem.W.mg_of X G a1, (fun_mk (st := s_l_tell) l1 c1 k1).binds (ps := ["_law_act_now"]) fun _ _ _ _ _ _ us hl => match us, hl with | [_], _ => rfl⟩,
    f_is_between := ⟨f2, _, fun_mk (st := s_is_between) l2 c2 k2, PySem.W.mg_of X G a2, (fun_mk (st := s_is_between) l2 c2 k2).binds (ps := ["value", "least", "most"]) fun _ _ _ _ _ _ us hl => match us, hl with | [_, _, _], _ => rfl⟩,
    f_is_number := ⟨f3, _, fun_mk (st := s_is_number) l3 c3 k3, PySem.W.mg_of X G a3, (fun_mk (st := s_is_number) l3 c3 k3).binds (ps := ["value"]) fun _ _ _ _ _ _ us hl => match us, hl with | [_], _ => rfl⟩,
    f_check_number := ⟨f4, _, fun_mk (st := s_check_number) l4 c4 k4, PySem.W.mg_of X G a4, (fun_mk (st := s_check_number) l4 c4 k4).binds (ps := ["number"]) fun _ _ _ _ _ _ us hl => match us, hl with | [_], _ => rfl⟩,
    f_number_text := ⟨f5, _, fun_mk (st := s_number_text) l5 c5 k5, PySem.W.mg_of X G a5, (fun_mk (st := s_number_text) l5 c5 k5).binds (ps := ["number"]) fun _ _ _ _ _ _ us hl => match us, hl with | [_], _ => rfl⟩,
    f_Root_str := ⟨f6, _, fun_mk (st := s_Root_str) l6 c6 k6, ⟨m6, t6, k6⟩, (fun_mk (st := s_Root_str) l6 c6 k6).binds (ps := ["self"]) fun _ _ _ _ _ _ us hl => match us, hl with | [_], _ => rfl⟩,
    f_are_digits := ⟨f7, _, fun_mk (st := s_are_digits) l7 c7 k7, PySem.W.mg_of X G a7, (fun_mk (st := s_are_digits) l7 c7 k7).binds (ps := ["text"]) fun _ _ _ _ _ _ us hl => match us, hl with | [_], _ => rfl⟩,
    f_loosely_read_numbers := ⟨f8, _, fun_mk (st := s_loosely_read_numbers) l8 c8 k8, PySem.W.mg_of X G a8, (fun_mk (st := s_loosely_read_numbers) l8 c8 k8).binds (ps := ["text"]) fun _ _ _ _ _ _ us hl => match us, hl with | [_], _ => rfl⟩,
    f_read_number := ⟨f9, _, fun_mk (st := s_read_number) l9 c9 k9, PySem.W.mg_of X G a9, (fun_mk (st := s_read_number) l9 c9 k9).binds (ps := ["text"]) fun _ _ _ _ _ _ us hl => match us, hl with | [_], _ => rfl⟩,
    f_check_degree := ⟨f10, _, fundf_mk (st := s_check_degree) (dds := dd_check_degree) l10 c10 df10 k10, PySem.W.mg_of X G a10⟩,
    f_power_of := ⟨f11, _, fun_mk (st := s_power_of) l11 c11 k11, PySem.W.mg_of X G a11, (fun_mk (st := s_power_of) l11 c11 k11).binds (ps := ["value", "exponent"]) fun _ _ _ _ _ _ us hl => match us, hl with | [_, _], _ => rfl⟩,
    f_floor_root := ⟨f12, _, fun_mk (st := s_floor_root) l12 c12 k12, PySem.W.mg_of X G a12, (fun_mk (st := s_floor_root) l12 c12 k12).binds (ps := ["value", "n"]) fun _ _ _ _ _ _ us hl => match us, hl with | [_, _], _ => rfl⟩,
    f_exact_root := ⟨f13, _, fun_mk (st := s_exact_root) l13 c13 k13, PySem.W.mg_of X G a13, (fun_mk (st := s_exact_root) l13 c13 k13).binds (ps := ["value", "n"]) fun _ _ _ _ _ _ us hl => match us, hl with | [_, _], _ => rfl⟩,
    f_rough_root_by := ⟨f14, _, fun_mk (st := s_rough_root_by) l14 c14 k14, PySem.W.mg_of X G a14, (fun_mk (st := s_rough_root_by) l14 c14 k14).binds (ps := ["value", "n"]) fun _ _ _ _ _ _ us hl => match us, hl with | [_, _], _ => rfl⟩,
    f_divided_out := ⟨f15, _, fun_mk (st := s_divided_out) l15 c15 k15, PySem.W.mg_of X G a15, (fun_mk (st := s_divided_out) l15 c15 k15).binds (ps := ["value", "divisor"]) fun _ _ _ _ _ _ us hl => match us, hl with | [_, _], _ => rfl⟩,
    f_integer_root_by := ⟨f16, _, fun_mk (st := s_integer_root_by) l16 c16 k16, PySem.W.mg_of X G a16, (fun_mk (st := s_integer_root_by) l16 c16 k16).binds (ps := ["value", "n"]) fun _ _ _ _ _ _ us hl => match us, hl with | [_, _], _ => rfl⟩,
    f_fraction_root_by := ⟨f17, _, fun_mk (st := s_fraction_root_by) l17 c17 k17, PySem.W.mg_of X G a17, (fun_mk (st := s_fraction_root_by) l17 c17 k17).binds (ps := ["top", "bottom", "n"]) fun _ _ _ _ _ _ us hl => match us, hl with | [_, _, _], _ => rfl⟩,
    f_Root_init := ⟨f18, _, fun_mk (st := s_Root_init) l18 c18 k18, ⟨m18, t18, k18⟩, (fun_mk (st := s_Root_init) l18 c18 k18).binds (ps := ["self", "number", "n"]) fun _ _ _ _ _ _ us hl => match us, hl with | [_, _, _], _ => rfl⟩,
    f_loosely_read_roots := ⟨f19, _, fun_mk (st := s_loosely_read_roots) l19 c19 k19, PySem.W.mg_of X G a19, (fun_mk (st := s_loosely_read_roots) l19 c19 k19).binds (ps := ["text"]) fun _ _ _ _ _ _ us hl => match us, hl with | [_], _ => rfl⟩,
    f_root_or_none := ⟨f20, _, fun_mk (st := s_root_or_none) l20 c20 k20, PySem.W.mg_of X G a20, (fun_mk (st := s_root_or_none) l20 c20 k20).binds (ps := ["text"]) fun _ _ _ _ _ _ us hl => match us, hl with | [_], _ => rfl⟩,
    f_Root_read := ⟨f21, p21, _, fun_mk (st := s_Root_read) l21 c21 k21, g21, t21, m21, ⟨_, r21⟩, (fun_mk (st := s_Root_read) l21 c21 k21).binds (ps := ["text"]) fun _ _ _ _ _ _ us hl => match us, hl with | [_], _ => rfl⟩,
    m_l_by_hand := ⟨cc22, mp22, ⟨⟨_, _, _, _, _, _, _, _, rfl, l22, c22⟩, k22⟩, ⟨_, _, _, _, lc22, v22⟩, hd22, o22⟩,
    f_l_by_hand := ⟨f22, _, fun_mk (st := s_l_by_hand) l22 c22 k22, PySem.W.mg_of X G a22, (fun_mk (st := s_l_by_hand) l22 c22 k22).binds (ps := []) fun _ _ _ _ _ _ us hl => match us, hl with | [], _ => rfl⟩,
    f_l_gcd := ⟨f23, _, fun_mk (st := s_l_gcd) l23 c23 k23, PySem.W.mg_of X G a23, (fun_mk (st := s_l_gcd) l23 c23 k23).binds (ps := ["_law_high", "_law_low_here"]) fun _ _ _ _ _ _ us hl => match us, hl with | [_, _], _ => rfl⟩,
    f_l_low := ⟨f24, _, fun_mk (st := s_l_low) l24 c24 k24, PySem.W.mg_of X G a24, (fun_mk (st := s_l_low) l24 c24 k24).binds (ps := ["_law_exps_here", "_law_nth"]) fun _ _ _ _ _ _ us hl => match us, hl with | [_, _], _ => rfl⟩,
    f_l_text := ⟨f25, _, fun_mk (st := s_l_text) l25 c25 k25, PySem.W.mg_of X G a25, (fun_mk (st := s_l_text) l25 c25 k25).binds (ps := ["_law_fraction"]) fun _ _ _ _ _ _ us hl => match us, hl with | [_], _ => rfl⟩,
    f_l_to := ⟨f26, _, fun_mk (st := s_l_to) l26 c26 k26, PySem.W.mg_of X G a26, (fun_mk (st := s_l_to) l26 c26 k26).binds (ps := ["_law_base_now", "_law_count_now"]) fun _ _ _ _ _ _ us hl => match us, hl with | [_, _], _ => rfl⟩,
    f_l_value := ⟨f27, _, fun_mk (st := s_l_value) l27 c27 k27, PySem.W.mg_of X G a27, (fun_mk (st := s_l_value) l27 c27 k27).binds (ps := ["_law_exps_here"]) fun _ _ _ _ _ _ us hl => match us, hl with | [_], _ => rfl⟩,
    f_l_said := ⟨f28, _, fun_mk (st := s_l_said) l28 c28 k28, PySem.W.mg_of X G a28, (fun_mk (st := s_l_said) l28 c28 k28).binds (ps := ["_law_rooted"]) fun _ _ _ _ _ _ us hl => match us, hl with | [_], _ => rfl⟩,
    f_l_tap := ⟨f29, _, fun_mk (st := s_l_tap) l29 c29 k29, PySem.W.mg_of X G a29, (fun_mk (st := s_l_tap) l29 c29 k29).binds (ps := ["_law_keg", "_law_count_now"]) fun _ _ _ _ _ _ us hl => match us, hl with | [_, _], _ => rfl⟩,
    f_l_of := ⟨f30, _, fun_mk (st := s_l_of) l30 c30 k30, PySem.W.mg_of X G a30, (fun_mk (st := s_l_of) l30 c30 k30).binds (ps := ["_law_keg", "_law_some"]) fun _ _ _ _ _ _ us hl => match us, hl with | [_, _], _ => rfl⟩,
    f_l_odd := ⟨f31, _, fun_mk (st := s_l_odd) l31 c31 k31, PySem.W.mg_of X G a31, (fun_mk (st := s_l_odd) l31 c31 k31).binds (ps := ["_law_keg"]) fun _ _ _ _ _ _ us hl => match us, hl with | [_], _ => rfl⟩,
    f_l_exps := ⟨f32, _, fun_mk (st := s_l_exps) l32 c32 k32, PySem.W.mg_of X G a32, (fun_mk (st := s_l_exps) l32 c32 k32).binds (ps := ["_law_keg", "_law_wide"]) fun _ _ _ _ _ _ us hl => match us, hl with | [_, _], _ => rfl⟩,
    f_l_some_root := ⟨f33, _, fun_mk (st := s_l_some_root) l33 c33 k33, PySem.W.mg_of X G a33, (fun_mk (st := s_l_some_root) l33 c33 k33).binds (ps := ["_law_keg"]) fun _ _ _ _ _ _ us hl => match us, hl with | [_], _ => rfl⟩,
    f_l_number_in := ⟨f34, _, fun_mk (st := s_l_number_in) l34 c34 k34, PySem.W.mg_of X G a34, (fun_mk (st := s_l_number_in) l34 c34 k34).binds (ps := ["_law_said_here"]) fun _ _ _ _ _ _ us hl => match us, hl with | [_], _ => rfl⟩,
    f_l_primes := ⟨f35, _, fun_mk (st := s_l_primes) l35 c35 k35, PySem.W.mg_of X G a35, (fun_mk (st := s_l_primes) l35 c35 k35).binds (ps := ["_law_value_now"]) fun _ _ _ _ _ _ us hl => match us, hl with | [_], _ => rfl⟩,
    f_l_floor := ⟨f36, _, fun_mk (st := s_l_floor) l36 c36 k36, PySem.W.mg_of X G a36, (fun_mk (st := s_l_floor) l36 c36 k36).binds (ps := ["_law_value_now", "_law_count_now"]) fun _ _ _ _ _ _ us hl => match us, hl with | [_, _], _ => rfl⟩,
    f_l_is_power := ⟨f37, _, fun_mk (st := s_l_is_power) l37 c37 k37, PySem.W.mg_of X G a37, (fun_mk (st := s_l_is_power) l37 c37 k37).binds (ps := ["_law_value_now", "_law_count_now"]) fun _ _ _ _ _ _ us hl => match us, hl with | [_, _], _ => rfl⟩,
    f_l_is_root_text := ⟨f38, _, fun_mk (st := s_l_is_root_text) l38 c38 k38, PySem.W.mg_of X G a38, (fun_mk (st := s_l_is_root_text) l38 c38 k38).binds (ps := ["_law_said_here"]) fun _ _ _ _ _ _ us hl => match us, hl with | [_], _ => rfl⟩,
    f_l_bent_text := ⟨f39, _, fun_mk (st := s_l_bent_text) l39 c39 k39, PySem.W.mg_of X G a39, (fun_mk (st := s_l_bent_text) l39 c39 k39).binds (ps := ["_law_keg", "_law_said_here"]) fun _ _ _ _ _ _ us hl => match us, hl with | [_, _], _ => rfl⟩,
    f_Root_eq := ⟨f40, _, fun_mk (st := s_Root_eq) l40 c40 k40, ⟨m40, t40, k40⟩, (fun_mk (st := s_Root_eq) l40 c40 k40).binds (ps := ["self", "other"]) fun _ _ _ _ _ _ us hl => match us, hl with | [_, _], _ => rfl⟩,
    m_l_right := ⟨cc41, mp41, ⟨⟨_, _, _, _, _, _, _, _, rfl, l41, c41⟩, k41⟩, ⟨_, _, _, _, lc41, v41⟩, hd41, o41⟩,
    f_l_right := ⟨f41, _, fun_mk (st := s_l_right) l41 c41 k41, PySem.W.mg_of X G a41, (fun_mk (st := s_l_right) l41 c41 k41).binds (ps := ["_law_keg"]) fun _ _ _ _ _ _ us hl => match us, hl with | [_], _ => rfl⟩,
    f_l_open := ⟨f42, _, fun_mk (st := s_l_open) l42 c42 k42, PySem.W.mg_of X G a42, (fun_mk (st := s_l_open) l42 c42 k42).binds (ps := ["_law_script", "_law_k"]) fun _ _ _ _ _ _ us hl => match us, hl with | [_, _], _ => rfl⟩,
    f_law := ⟨f43, _, fun_mk (st := s_law) l43 c43 k43, PySem.W.mg_of X G a43, (fun_mk (st := s_law) l43 c43 k43).binds (ps := ["_law_script"]) fun _ _ _ _ _ _ us hl => match us, hl with | [_], _ => rfl⟩,
    b_ArithmeticError := PySem.W.mg_none_of X G z_ArithmeticError,
    b_LookupError := PySem.W.mg_none_of X G z_LookupError,
    b_ValueError := PySem.W.mg_none_of X G z_ValueError,
    b_abs := PySem.W.mg_none_of X G z_abs,
    b_all := PySem.W.mg_none_of X G z_all,
    b_bool := PySem.W.mg_none_of X G z_bool,
    b_divmod := PySem.W.mg_none_of X G z_divmod,
    b_int := PySem.W.mg_none_of X G z_int,
    b_isinstance := PySem.W.mg_none_of X G z_isinstance,
    b_len := PySem.W.mg_none_of X G z_len,
    b_list := PySem.W.mg_none_of X G z_list,
    b_max := PySem.W.mg_none_of X G z_max,
    b_min := PySem.W.mg_none_of X G z_min,
    b_range := PySem.W.mg_none_of X G z_range,
    b_repr := PySem.W.mg_none_of X G z_repr,
    b_set := PySem.W.mg_none_of X G z_set,
    b_sorted := PySem.W.mg_none_of X G z_sorted,
    b_str := PySem.W.mg_none_of X G z_str,
    b_tuple := PySem.W.mg_none_of X G z_tuple,
    b_zip := PySem.W.mg_none_of X G z_zip,
    c_MOST_SIZE := PySem.W.mg_of X G y_MOST_SIZE,
    c_MOST_DEGREE := PySem.W.mg_of X G y_MOST_DEGREE,
    c_SMALL_PRIMES := PySem.W.mg_of X G y_SMALL_PRIMES,
    c_POWER_RESTS := PySem.W.mg_of X G y_POWER_RESTS,
    d_POWER_RESTS := dk_POWER_RESTS,
    e_InvalidDegree := ⟨EInvalidDegree_C, EInvalidDegree_I, { gC := PySem.W.mg_of X G EInvalidDegree_a, cls := ⟨_, _, _, _, _, _, _, _, _, _, _, _, _, _, _, EInvalidDegree_l, under_ve EInvalidDegree_un⟩, sa := EInvalidDegree_sa, ga := EInvalidDegree_ga, gg := EInvalidDegree_gg, noF := EInvalidDegree_nf, iC := EInvalidDegree_ic, tC := EInvalidDegree_tc, kC := EInvalidDegree_kc, exC := EInvalidDegree_ec, tyC := EInvalidDegree_ty, hdC := EInvalidDegree_hd, is := by decide, fn := ⟨_, _, _, _, _, _, _, _, _, _, _, _, _, _, _, EInvalidDegree_li, EInvalidDegree_ci⟩ }, exm_refl EInvalidDegree_ec EInvalidDegree_is EInvalidDegree_ty EInvalidDegree_ss⟩,
    e_InvalidNumber := ⟨EInvalidNumber_C, EInvalidNumber_I, { gC := PySem.W.mg_of X G EInvalidNumber_a, cls := ⟨_, _, _, _, _, _, _, _, _, _, _, _, _, _, _, EInvalidNumber_l, under_ve EInvalidNumber_un⟩, sa := EInvalidNumber_sa, ga := EInvalidNumber_ga, gg := EInvalidNumber_gg, noF := EInvalidNumber_nf, iC := EInvalidNumber_ic, tC := EInvalidNumber_tc, kC := EInvalidNumber_kc, exC := EInvalidNumber_ec, tyC := EInvalidNumber_ty, hdC := EInvalidNumber_hd, is := by decide, fn := ⟨_, _, _, _, _, _, _, _, _, _, _, _, _, _, _, EInvalidNumber_li, EInvalidNumber_ci⟩ }, exm_refl EInvalidNumber_ec EInvalidNumber_is EInvalidNumber_ty EInvalidNumber_ss⟩,
    e_InvalidText := ⟨EInvalidText_C, EInvalidText_I, { gC := PySem.W.mg_of X G EInvalidText_a, cls := ⟨_, _, _, _, _, _, _, _, _, _, _, _, _, _, _, EInvalidText_l, under_ve EInvalidText_un⟩, sa := EInvalidText_sa, ga := EInvalidText_ga, gg := EInvalidText_gg, noF := EInvalidText_nf, iC := EInvalidText_ic, tC := EInvalidText_tc, kC := EInvalidText_kc, exC := EInvalidText_ec, tyC := EInvalidText_ty, hdC := EInvalidText_hd, is := by decide, fn := ⟨_, _, _, _, _, _, _, _, _, _, _, _, _, _, _, EInvalidText_li, EInvalidText_ci⟩ }, exm_refl EInvalidText_ec EInvalidText_is EInvalidText_ty EInvalidText_ss⟩,
    n_InvalidDegree := ⟨NInvalidDegree, PySem.W.mg_of X G gN_InvalidDegree⟩,
    n_InvalidKind := ⟨NInvalidKind, PySem.W.mg_of X G gN_InvalidKind⟩,
    n_InvalidLooks := ⟨NInvalidLooks, PySem.W.mg_of X G gN_InvalidLooks⟩,
    n_InvalidNumber := ⟨NInvalidNumber, PySem.W.mg_of X G gN_InvalidNumber⟩,
    n_InvalidRoots := ⟨NInvalidRoots, PySem.W.mg_of X G gN_InvalidRoots⟩,
    n_InvalidText := ⟨NInvalidText, PySem.W.mg_of X G gN_InvalidText⟩,
    n_NoAnswer := ⟨NNoAnswer, PySem.W.mg_of X G gN_NoAnswer⟩,
    n_NoNumber := ⟨NNoNumber, PySem.W.mg_of X G gN_NoNumber⟩,
    n_NotARoot := ⟨NNotARoot, PySem.W.mg_of X G gN_NotARoot⟩,
    n_TooGreat := ⟨NTooGreat, PySem.W.mg_of X G gN_TooGreat⟩,
    n_WrongName := ⟨NWrongName, PySem.W.mg_of X G gN_WrongName⟩,
    n_WrongValue := ⟨NWrongValue, PySem.W.mg_of X G gN_WrongValue⟩,
    xc_InvalidDegree := ⟨EInvalidDegree_ga, EInvalidDegree_gg, EInvalidDegree_ec, EInvalidDegree_hd, EInvalidDegree_ca, EInvalidDegree_cg, EInvalidDegree_ct, EInvalidDegree_cm⟩,
    fc_InvalidDegree := ⟨EInvalidDegree_ga, EInvalidDegree_gg, EInvalidDegree_ec, EInvalidDegree_hd, EInvalidDegree_nf⟩,
    xm0_InvalidDegree := exm_three (PySem.W.exm_ref eN_WrongValue hN_WrongValue tN_WrongValue EInvalidDegree_s_WrongValue) (PySem.W.exm_ref eN_WrongName hN_WrongName tN_WrongName EInvalidDegree_s_WrongName) (PySem.W.exm_ref eN_NoAnswer hN_NoAnswer tN_NoAnswer EInvalidDegree_s_NoAnswer),
    xm1_InvalidDegree := exm_three (PySem.W.exm_ref eN_InvalidText hN_InvalidText tN_InvalidText EInvalidDegree_s_InvalidText) (PySem.W.exm_ref eN_InvalidNumber hN_InvalidNumber tN_InvalidNumber EInvalidDegree_s_InvalidNumber) (PySem.W.exm_ref eN_InvalidDegree hN_InvalidDegree tN_InvalidDegree EInvalidDegree_s_InvalidDegree),
    k_InvalidDegree_ArithmeticError := kit_err_type (by decide) EInvalidDegree_s_ArithmeticError,
    k_InvalidDegree_InvalidDegree := kit_err_own hN_InvalidDegree tN_InvalidDegree EInvalidDegree_ss EInvalidDegree_s_InvalidDegree,
    k_InvalidDegree_InvalidKind := kit_err_own hN_InvalidKind tN_InvalidKind EInvalidDegree_ss EInvalidDegree_s_InvalidKind,
    k_InvalidDegree_InvalidLooks := kit_err_own hN_InvalidLooks tN_InvalidLooks EInvalidDegree_ss EInvalidDegree_s_InvalidLooks,
    k_InvalidDegree_InvalidNumber := kit_err_own hN_InvalidNumber tN_InvalidNumber EInvalidDegree_ss EInvalidDegree_s_InvalidNumber,
    k_InvalidDegree_InvalidRoots := kit_err_own hN_InvalidRoots tN_InvalidRoots EInvalidDegree_ss EInvalidDegree_s_InvalidRoots,
    k_InvalidDegree_InvalidText := kit_err_own hN_InvalidText tN_InvalidText EInvalidDegree_ss EInvalidDegree_s_InvalidText,
    k_InvalidDegree_LookupError := kit_err_type (by decide) EInvalidDegree_s_LookupError,
    k_InvalidDegree_NoAnswer := kit_err_own hN_NoAnswer tN_NoAnswer EInvalidDegree_ss EInvalidDegree_s_NoAnswer,
    k_InvalidDegree_NoNumber := kit_err_own hN_NoNumber tN_NoNumber EInvalidDegree_ss EInvalidDegree_s_NoNumber,
    k_InvalidDegree_NotARoot := kit_err_own hN_NotARoot tN_NotARoot EInvalidDegree_ss EInvalidDegree_s_NotARoot,
    k_InvalidDegree_TooGreat := kit_err_own hN_TooGreat tN_TooGreat EInvalidDegree_ss EInvalidDegree_s_TooGreat,
    k_InvalidDegree_ValueError := kit_err_type (by decide) EInvalidDegree_s_ValueError,
    k_InvalidDegree_WrongName := kit_err_own hN_WrongName tN_WrongName EInvalidDegree_ss EInvalidDegree_s_WrongName,
    k_InvalidDegree_WrongValue := kit_err_own hN_WrongValue tN_WrongValue EInvalidDegree_ss EInvalidDegree_s_WrongValue,
    xc_InvalidNumber := ⟨EInvalidNumber_ga, EInvalidNumber_gg, EInvalidNumber_ec, EInvalidNumber_hd, EInvalidNumber_ca, EInvalidNumber_cg, EInvalidNumber_ct, EInvalidNumber_cm⟩,
    fc_InvalidNumber := ⟨EInvalidNumber_ga, EInvalidNumber_gg, EInvalidNumber_ec, EInvalidNumber_hd, EInvalidNumber_nf⟩,
    xm0_InvalidNumber := exm_three (PySem.W.exm_ref eN_WrongValue hN_WrongValue tN_WrongValue EInvalidNumber_s_WrongValue) (PySem.W.exm_ref eN_WrongName hN_WrongName tN_WrongName EInvalidNumber_s_WrongName) (PySem.W.exm_ref eN_NoAnswer hN_NoAnswer tN_NoAnswer EInvalidNumber_s_NoAnswer),
    xm1_InvalidNumber := exm_three (PySem.W.exm_ref eN_InvalidText hN_InvalidText tN_InvalidText EInvalidNumber_s_InvalidText) (PySem.W.exm_ref eN_InvalidNumber hN_InvalidNumber tN_InvalidNumber EInvalidNumber_s_InvalidNumber) (PySem.W.exm_ref eN_InvalidDegree hN_InvalidDegree tN_InvalidDegree EInvalidNumber_s_InvalidDegree),
    k_InvalidNumber_ArithmeticError := kit_err_type (by decide) EInvalidNumber_s_ArithmeticError,
    k_InvalidNumber_InvalidDegree := kit_err_own hN_InvalidDegree tN_InvalidDegree EInvalidNumber_ss EInvalidNumber_s_InvalidDegree,
    k_InvalidNumber_InvalidKind := kit_err_own hN_InvalidKind tN_InvalidKind EInvalidNumber_ss EInvalidNumber_s_InvalidKind,
    k_InvalidNumber_InvalidLooks := kit_err_own hN_InvalidLooks tN_InvalidLooks EInvalidNumber_ss EInvalidNumber_s_InvalidLooks,
    k_InvalidNumber_InvalidNumber := kit_err_own hN_InvalidNumber tN_InvalidNumber EInvalidNumber_ss EInvalidNumber_s_InvalidNumber,
    k_InvalidNumber_InvalidRoots := kit_err_own hN_InvalidRoots tN_InvalidRoots EInvalidNumber_ss EInvalidNumber_s_InvalidRoots,
    k_InvalidNumber_InvalidText := kit_err_own hN_InvalidText tN_InvalidText EInvalidNumber_ss EInvalidNumber_s_InvalidText,
    k_InvalidNumber_LookupError := kit_err_type (by decide) EInvalidNumber_s_LookupError,
    k_InvalidNumber_NoAnswer := kit_err_own hN_NoAnswer tN_NoAnswer EInvalidNumber_ss EInvalidNumber_s_NoAnswer,
    k_InvalidNumber_NoNumber := kit_err_own hN_NoNumber tN_NoNumber EInvalidNumber_ss EInvalidNumber_s_NoNumber,
    k_InvalidNumber_NotARoot := kit_err_own hN_NotARoot tN_NotARoot EInvalidNumber_ss EInvalidNumber_s_NotARoot,
    k_InvalidNumber_TooGreat := kit_err_own hN_TooGreat tN_TooGreat EInvalidNumber_ss EInvalidNumber_s_TooGreat,
    k_InvalidNumber_ValueError := kit_err_type (by decide) EInvalidNumber_s_ValueError,
    k_InvalidNumber_WrongName := kit_err_own hN_WrongName tN_WrongName EInvalidNumber_ss EInvalidNumber_s_WrongName,
    k_InvalidNumber_WrongValue := kit_err_own hN_WrongValue tN_WrongValue EInvalidNumber_ss EInvalidNumber_s_WrongValue,
    xc_InvalidText := ⟨EInvalidText_ga, EInvalidText_gg, EInvalidText_ec, EInvalidText_hd, EInvalidText_ca, EInvalidText_cg, EInvalidText_ct, EInvalidText_cm⟩,
    fc_InvalidText := ⟨EInvalidText_ga, EInvalidText_gg, EInvalidText_ec, EInvalidText_hd, EInvalidText_nf⟩,
    xm0_InvalidText := exm_three (PySem.W.exm_ref eN_WrongValue hN_WrongValue tN_WrongValue EInvalidText_s_WrongValue) (PySem.W.exm_ref eN_WrongName hN_WrongName tN_WrongName EInvalidText_s_WrongName) (PySem.W.exm_ref eN_NoAnswer hN_NoAnswer tN_NoAnswer EInvalidText_s_NoAnswer),
    xm1_InvalidText := exm_three (PySem.W.exm_ref eN_InvalidText hN_InvalidText tN_InvalidText EInvalidText_s_InvalidText) (PySem.W.exm_ref eN_InvalidNumber hN_InvalidNumber tN_InvalidNumber EInvalidText_s_InvalidNumber) (PySem.W.exm_ref eN_InvalidDegree hN_InvalidDegree tN_InvalidDegree EInvalidText_s_InvalidDegree),
    k_InvalidText_ArithmeticError := kit_err_type (by decide) EInvalidText_s_ArithmeticError,
    k_InvalidText_InvalidDegree := kit_err_own hN_InvalidDegree tN_InvalidDegree EInvalidText_ss EInvalidText_s_InvalidDegree,
    k_InvalidText_InvalidKind := kit_err_own hN_InvalidKind tN_InvalidKind EInvalidText_ss EInvalidText_s_InvalidKind,
    k_InvalidText_InvalidLooks := kit_err_own hN_InvalidLooks tN_InvalidLooks EInvalidText_ss EInvalidText_s_InvalidLooks,
    k_InvalidText_InvalidNumber := kit_err_own hN_InvalidNumber tN_InvalidNumber EInvalidText_ss EInvalidText_s_InvalidNumber,
    k_InvalidText_InvalidRoots := kit_err_own hN_InvalidRoots tN_InvalidRoots EInvalidText_ss EInvalidText_s_InvalidRoots,
    k_InvalidText_InvalidText := kit_err_own hN_InvalidText tN_InvalidText EInvalidText_ss EInvalidText_s_InvalidText,
    k_InvalidText_LookupError := kit_err_type (by decide) EInvalidText_s_LookupError,
    k_InvalidText_NoAnswer := kit_err_own hN_NoAnswer tN_NoAnswer EInvalidText_ss EInvalidText_s_NoAnswer,
    k_InvalidText_NoNumber := kit_err_own hN_NoNumber tN_NoNumber EInvalidText_ss EInvalidText_s_NoNumber,
    k_InvalidText_NotARoot := kit_err_own hN_NotARoot tN_NotARoot EInvalidText_ss EInvalidText_s_NotARoot,
    k_InvalidText_TooGreat := kit_err_own hN_TooGreat tN_TooGreat EInvalidText_ss EInvalidText_s_TooGreat,
    k_InvalidText_ValueError := kit_err_type (by decide) EInvalidText_s_ValueError,
    k_InvalidText_WrongName := kit_err_own hN_WrongName tN_WrongName EInvalidText_ss EInvalidText_s_WrongName,
    k_InvalidText_WrongValue := kit_err_own hN_WrongValue tN_WrongValue EInvalidText_ss EInvalidText_s_WrongValue,
    m_gcd := PySem.W.mg_of X G x_gcd,
    m_isqrt := PySem.W.mg_of X G x_isqrt,
    mne := ne_of_beq_false mneh }
theorem law_fd {K : PySem.W.Frag} {mg : Str → Option Value} (T : Tx K mg) : ∃ fd : FuncData, T.f_law.fd = fd ∧ ∀ (s : Shared) (u : Value), BindsTo s fd ⟨[u], []⟩ [("_law_script", u)] := by
  obtain ⟨oc, od, kV, doc, pm, an, cdv, ct, osl, e, _, _⟩ := T.f_law.fn.ex
  exact ⟨_, e, fun s u => .of_eq rfl⟩
theorem the_end {K : PySem.W.Frag} {h : Heap} {mg : Str → Option Value} {fa : Addr} {P : Program} {w : World} {q : Program} (X : K.In h) (hfa : mg "law" = some (.ref fa)) (T : Tx K mg)
    (own : ∀ (nm : Str) (f : Addr), ((recsOf q).any fun e => e.name == nm) = true → mg nm = some (.ref f) → LamX.OwnTab K f h) (hq : ((recsOf q).any fun e => e.name == "_law_right") = true ∧ ((recsOf q).any fun e => e.name == "_law_by_hand") = true) :
    ∃ (fd : FuncData) (cs : List HD.Maker), TabsOk K h cs ∧ (∀ (s : Shared) (v : Value), BindsTo s fd ⟨[v], []⟩ [("_law_script", v)]) ∧ ∀ base : Heap, K.In base → base.Ns mainGlobals mg → (∀ m ∈ cs, LamX.TabB base mg m.c m.p) → FnG P w K mg base 25 fa fd ["_law_script"] (spOf K (spLawT 63 (tabCells cs))) := by
  have e := T.f_law.gl.symm.trans hfa
  have e2 : T.f_law.a = fa := by
    cases e
    rfl
  obtain ⟨fd, e3, hb⟩ := law_fd T
  refine ⟨fd, mks T, tabsOk_two X T.m_l_right T.m_l_by_hand (own _ _ hq.1 T.f_l_right.gl) (own _ _ hq.2 T.f_l_by_hand.gl) T.mne _ _, hb, fun base _ _ TB => ?_⟩
  have r := ok_law (P := P) (w := w) (base := base) T TB
  rw [e2, e3] at r
  exact r
end HDL
open PySem PySem.W PyProof.Rows
set_option maxHeartbeats 0 in
theorem PySem.Challenge.cw_purepowers_k35_whole_texts_of_roots_holds : PySem.Challenge.rw_purepowers_k35_whole_texts_of_roots.Holds := by
  w_on; o_law; k_head; (case hw => w_witness2)
  k_fill
  refine HD.walkTD (l := PySem.Challenge.rw_purepowers_k35_whole_texts_of_roots) (n := 63) (k := 25) (x := "_law_script") rfl (by decide) rfl ⟨rfl, by decide, by decide⟩ (fun w h Y => PySem.W.km_in_of Y) ?F
  case F =>
    intro w mg fa h KX G hmg own
    refine' HDL.the_end (h := h) KX hmg (HDL.tx_of KX G ?gc_Root ?pg_Root ?hd_Root ?po_Root ?sa_Root ?mk_Root ?kc_Root ?ob_Root ?ca_Root ?cg_Root ?ct_Root ?cm_Root ?ty_Root ?nt0_Root ?nt1_Root ?nt2_Root ?nt3_Root ?nt4_Root ?nt5_Root ?nt6_Root ?nn_Root ?nf_Root__degree ?nf_Root__number ?a0 ?l0 ?c0 ?k0 ?a1 ?l1 ?c1 ?k1 ?a2 ?l2 ?c2 ?k2 ?a3 ?l3 ?c3 ?k3 ?a4 ?l4 ?c4 ?k4 ?a5 ?l5 ?c5 ?k5 ?m6 ?t6 ?l6 ?c6 ?k6 ?a7 ?l7 ?c7 ?k7 ?a8 ?l8 ?c8 ?k8 ?a9 ?l9 ?c9 ?k9 ?a10 ?l10 ?c10 ?k10 ?df10 ?a11 ?l11 ?c11 ?k11 ?a12 ?l12 ?c12 ?k12 ?a13 ?l13 ?c13 ?k13 ?a14 ?l14 ?c14 ?k14 ?a15 ?l15 ?c15 ?k15 ?a16 ?l16 ?c16 ?k16 ?a17 ?l17 ?c17 ?k17 ?m18 ?t18 ?l18 ?c18 ?k18 ?a19 ?l19 ?c19 ?k19 ?a20 ?l20 ?c20 ?k20 ?g21 ?t21 ?m21 ?r21 ?l21 ?c21 ?k21 ?a22 ?l22 ?c22 ?k22 ?lc22 ?v22 ?hd22 ?o22 ?a23 ?l23 ?c23 ?k23 ?a24 ?l24 ?c24 ?k24 ?a25 ?l25 ?c25 ?k25 ?a26 ?l26 ?c26 ?k26 ?a27 ?l27 ?c27 ?k27 ?a28 ?l28 ?c28 ?k28 ?a29 ?l29 ?c29 ?k29 ?a30 ?l30 ?c30 ?k30 ?a31 ?l31 ?c31 ?k31 ?a32 ?l32 ?c32 ?k32 ?a33 ?l33 ?c33 ?k33 ?a34 ?l34 ?c34 ?k34 ?a35 ?l35 ?c35 ?k35 ?a36 ?l36 ?c36 ?k36 ?a37 ?l37 ?c37 ?k37 ?a38 ?l38 ?c38 ?k38 ?a39 ?l39 ?c39 ?k39 ?m40 ?t40 ?l40 ?c40 ?k40 ?a41 ?l41 ?c41 ?k41 ?lc41 ?v41 ?hd41 ?o41 ?a42 ?l42 ?c42 ?k42 ?a43 ?l43 ?c43 ?k43 ?z_ArithmeticError ?z_LookupError ?z_ValueError ?z_abs ?z_all ?z_bool ?z_divmod ?z_int ?z_isinstance ?z_len ?z_list ?z_max ?z_min ?z_range ?z_repr ?z_set ?z_sorted ?z_str ?z_tuple ?z_zip ?y_MOST_SIZE ?y_MOST_DEGREE ?y_SMALL_PRIMES ?y_POWER_RESTS ?dk_POWER_RESTS ?EInvalidDegree_a ?EInvalidDegree_l ?EInvalidDegree_sa ?EInvalidDegree_ga ?EInvalidDegree_gg ?EInvalidDegree_nf ?EInvalidDegree_ic ?EInvalidDegree_tc ?EInvalidDegree_kc ?EInvalidDegree_ec ?EInvalidDegree_ty ?EInvalidDegree_hd ?EInvalidDegree_is ?EInvalidDegree_ss ?EInvalidDegree_li ?EInvalidDegree_ci ?EInvalidDegree_un ?EInvalidNumber_a ?EInvalidNumber_l ?EInvalidNumber_sa ?EInvalidNumber_ga ?EInvalidNumber_gg ?EInvalidNumber_nf ?EInvalidNumber_ic ?EInvalidNumber_tc ?EInvalidNumber_kc ?EInvalidNumber_ec ?EInvalidNumber_ty ?EInvalidNumber_hd ?EInvalidNumber_is ?EInvalidNumber_ss ?EInvalidNumber_li ?EInvalidNumber_ci ?EInvalidNumber_un ?EInvalidText_a ?EInvalidText_l ?EInvalidText_sa ?EInvalidText_ga ?EInvalidText_gg ?EInvalidText_nf ?EInvalidText_ic ?EInvalidText_tc ?EInvalidText_kc ?EInvalidText_ec ?EInvalidText_ty ?EInvalidText_hd ?EInvalidText_is ?EInvalidText_ss ?EInvalidText_li ?EInvalidText_ci ?EInvalidText_un ?gN_InvalidDegree ?hN_InvalidDegree ?tN_InvalidDegree ?eN_InvalidDegree ?gN_InvalidKind ?hN_InvalidKind ?tN_InvalidKind ?eN_InvalidKind ?gN_InvalidLooks ?hN_InvalidLooks ?tN_InvalidLooks ?eN_InvalidLooks ?gN_InvalidNumber ?hN_InvalidNumber ?tN_InvalidNumber ?eN_InvalidNumber ?gN_InvalidRoots ?hN_InvalidRoots ?tN_InvalidRoots ?eN_InvalidRoots ?gN_InvalidText ?hN_InvalidText ?tN_InvalidText ?eN_InvalidText ?gN_NoAnswer ?hN_NoAnswer ?tN_NoAnswer ?eN_NoAnswer ?gN_NoNumber ?hN_NoNumber ?tN_NoNumber ?eN_NoNumber ?gN_NotARoot ?hN_NotARoot ?tN_NotARoot ?eN_NotARoot ?gN_TooGreat ?hN_TooGreat ?tN_TooGreat ?eN_TooGreat ?gN_WrongName ?hN_WrongName ?tN_WrongName ?eN_WrongName ?gN_WrongValue ?hN_WrongValue ?tN_WrongValue ?eN_WrongValue ?EInvalidDegree_ca ?EInvalidDegree_cg ?EInvalidDegree_ct ?EInvalidDegree_cm ?EInvalidDegree_s_ArithmeticError ?EInvalidDegree_s_InvalidDegree ?EInvalidDegree_s_InvalidKind ?EInvalidDegree_s_InvalidLooks ?EInvalidDegree_s_InvalidNumber ?EInvalidDegree_s_InvalidRoots ?EInvalidDegree_s_InvalidText ?EInvalidDegree_s_LookupError ?EInvalidDegree_s_NoAnswer ?EInvalidDegree_s_NoNumber ?EInvalidDegree_s_NotARoot ?EInvalidDegree_s_TooGreat ?EInvalidDegree_s_ValueError ?EInvalidDegree_s_WrongName ?EInvalidDegree_s_WrongValue ?EInvalidNumber_ca ?EInvalidNumber_cg ?EInvalidNumber_ct ?EInvalidNumber_cm ?EInvalidNumber_s_ArithmeticError ?EInvalidNumber_s_InvalidDegree ?EInvalidNumber_s_InvalidKind ?EInvalidNumber_s_InvalidLooks ?EInvalidNumber_s_InvalidNumber ?EInvalidNumber_s_InvalidRoots ?EInvalidNumber_s_InvalidText ?EInvalidNumber_s_LookupError ?EInvalidNumber_s_NoAnswer ?EInvalidNumber_s_NoNumber ?EInvalidNumber_s_NotARoot ?EInvalidNumber_s_TooGreat ?EInvalidNumber_s_ValueError ?EInvalidNumber_s_WrongName ?EInvalidNumber_s_WrongValue ?EInvalidText_ca ?EInvalidText_cg ?EInvalidText_ct ?EInvalidText_cm ?EInvalidText_s_ArithmeticError ?EInvalidText_s_InvalidDegree ?EInvalidText_s_InvalidKind ?EInvalidText_s_InvalidLooks ?EInvalidText_s_InvalidNumber ?EInvalidText_s_InvalidRoots ?EInvalidText_s_InvalidText ?EInvalidText_s_LookupError ?EInvalidText_s_NoAnswer ?EInvalidText_s_NoNumber ?EInvalidText_s_NotARoot ?EInvalidText_s_TooGreat ?EInvalidText_s_ValueError ?EInvalidText_s_WrongName ?EInvalidText_s_WrongValue ?x_gcd ?x_isqrt ?mneh) own ?hq
    (case gc_Root => k_is)
    (case pg_Root => k_is)
    (case hd_Root => k_is)
    (case po_Root => k_is)
    (case sa_Root => k_is)
    (case mk_Root => k_is)
    (case kc_Root => k_is)
    (case ob_Root => k_is)
    (case ca_Root => k_is)
    (case cg_Root => k_is)
    (case ct_Root => k_is)
    (case cm_Root => k_is)
    (case ty_Root => k_is)
    (case nt0_Root => k_is)
    (case nt1_Root => k_is)
    (case nt2_Root => k_is)
    (case nt3_Root => k_is)
    (case nt4_Root => k_is)
    (case nt5_Root => k_is)
    (case nt6_Root => k_is)
    (case nn_Root => k_is)
    (case nf_Root__degree => k_is)
    (case nf_Root__number => k_is)
    (case a0 => k_is)
    (case l0 => k_is)
    (case c0 => k_is)
    (case k0 => k_is)
    (case a1 => k_is)
    (case l1 => k_is)
    (case c1 => k_is)
    (case k1 => k_is)
    (case a2 => k_is)
    (case l2 => k_is)
    (case c2 => k_is)
    (case k2 => k_is)
    (case a3 => k_is)
    (case l3 => k_is)
    (case c3 => k_is)
    (case k3 => k_is)
    (case a4 => k_is)
    (case l4 => k_is)
    (case c4 => k_is)
    (case k4 => k_is)
    (case a5 => k_is)
    (case l5 => k_is)
    (case c5 => k_is)
    (case k5 => k_is)
    (case m6 => k_is)
    (case t6 => k_is)
    (case l6 => k_is)
    (case c6 => k_is)
    (case k6 => k_is)
    (case a7 => k_is)
    (case l7 => k_is)
    (case c7 => k_is)
    (case k7 => k_is)
    (case a8 => k_is)
    (case l8 => k_is)
    (case c8 => k_is)
    (case k8 => k_is)
    (case a9 => k_is)
    (case l9 => k_is)
    (case c9 => k_is)
    (case k9 => k_is)
    (case a10 => k_is)
    (case l10 => k_is)
    (case c10 => k_is)
    (case k10 => k_is)
    (case df10 => kernel_rfl)
    (case a11 => k_is)
    (case l11 => k_is)
    (case c11 => k_is)
    (case k11 => k_is)
    (case a12 => k_is)
    (case l12 => k_is)
    (case c12 => k_is)
    (case k12 => k_is)
    (case a13 => k_is)
    (case l13 => k_is)
    (case c13 => k_is)
    (case k13 => k_is)
    (case a14 => k_is)
    (case l14 => k_is)
    (case c14 => k_is)
    (case k14 => k_is)
    (case a15 => k_is)
    (case l15 => k_is)
    (case c15 => k_is)
    (case k15 => k_is)
    (case a16 => k_is)
    (case l16 => k_is)
    (case c16 => k_is)
    (case k16 => k_is)
    (case a17 => k_is)
    (case l17 => k_is)
    (case c17 => k_is)
    (case k17 => k_is)
    (case m18 => k_is)
    (case t18 => k_is)
    (case l18 => k_is)
    (case c18 => k_is)
    (case k18 => k_is)
    (case a19 => k_is)
    (case l19 => k_is)
    (case c19 => k_is)
    (case k19 => k_is)
    (case a20 => k_is)
    (case l20 => k_is)
    (case c20 => k_is)
    (case k20 => k_is)
    (case g21 => k_is)
    (case t21 => k_is)
    (case m21 => k_is)
    (case r21 => k_is)
    (case l21 => k_is)
    (case c21 => k_is)
    (case k21 => k_is)
    (case a22 => k_is)
    (case l22 => k_is)
    (case c22 => k_is)
    (case k22 => k_is)
    (case lc22 => k_is)
    (case v22 => rfl)
    (case hd22 => refine' HD.codeHd_by ?hc1 ?hc2; (case hc1 => k_is); (case hc2 => first | rfl | decide))
    (case o22 => kernel_rfl)
    (case a23 => k_is)
    (case l23 => k_is)
    (case c23 => k_is)
    (case k23 => k_is)
    (case a24 => k_is)
    (case l24 => k_is)
    (case c24 => k_is)
    (case k24 => k_is)
    (case a25 => k_is)
    (case l25 => k_is)
    (case c25 => k_is)
    (case k25 => k_is)
    (case a26 => k_is)
    (case l26 => k_is)
    (case c26 => k_is)
    (case k26 => k_is)
    (case a27 => k_is)
    (case l27 => k_is)
    (case c27 => k_is)
    (case k27 => k_is)
    (case a28 => k_is)
    (case l28 => k_is)
    (case c28 => k_is)
    (case k28 => k_is)
    (case a29 => k_is)
    (case l29 => k_is)
    (case c29 => k_is)
    (case k29 => k_is)
    (case a30 => k_is)
    (case l30 => k_is)
    (case c30 => k_is)
    (case k30 => k_is)
    (case a31 => k_is)
    (case l31 => k_is)
    (case c31 => k_is)
    (case k31 => k_is)
    (case a32 => k_is)
    (case l32 => k_is)
    (case c32 => k_is)
    (case k32 => k_is)
    (case a33 => k_is)
    (case l33 => k_is)
    (case c33 => k_is)
    (case k33 => k_is)
    (case a34 => k_is)
    (case l34 => k_is)
    (case c34 => k_is)
    (case k34 => k_is)
    (case a35 => k_is)
    (case l35 => k_is)
    (case c35 => k_is)
    (case k35 => k_is)
    (case a36 => k_is)
    (case l36 => k_is)
    (case c36 => k_is)
    (case k36 => k_is)
    (case a37 => k_is)
    (case l37 => k_is)
    (case c37 => k_is)
    (case k37 => k_is)
    (case a38 => k_is)
    (case l38 => k_is)
    (case c38 => k_is)
    (case k38 => k_is)
    (case a39 => k_is)
    (case l39 => k_is)
    (case c39 => k_is)
    (case k39 => k_is)
    (case m40 => k_is)
    (case t40 => k_is)
    (case l40 => k_is)
    (case c40 => k_is)
    (case k40 => k_is)
    (case a41 => k_is)
    (case l41 => k_is)
    (case c41 => k_is)
    (case k41 => k_is)
    (case lc41 => k_is)
    (case v41 => rfl)
    (case hd41 => refine' HD.codeHd_by ?hc1 ?hc2; (case hc1 => k_is); (case hc2 => first | rfl | decide))
    (case o41 => kernel_rfl)
    (case a42 => k_is)
    (case l42 => k_is)
    (case c42 => k_is)
    (case k42 => k_is)
    (case a43 => k_is)
    (case l43 => k_is)
    (case c43 => k_is)
    (case k43 => k_is)
    (case z_ArithmeticError => k_is)
    (case z_LookupError => k_is)
    (case z_ValueError => k_is)
    (case z_abs => k_is)
    (case z_all => k_is)
    (case z_bool => k_is)
    (case z_divmod => k_is)
    (case z_int => k_is)
    (case z_isinstance => k_is)
    (case z_len => k_is)
    (case z_list => k_is)
    (case z_max => k_is)
    (case z_min => k_is)
    (case z_range => k_is)
    (case z_repr => k_is)
    (case z_set => k_is)
    (case z_sorted => k_is)
    (case z_str => k_is)
    (case z_tuple => k_is)
    (case z_zip => k_is)
    (case y_MOST_SIZE => k_is)
    (case y_MOST_DEGREE => k_is)
    (case y_SMALL_PRIMES => k_is)
    (case y_POWER_RESTS => k_is)
    (case dk_POWER_RESTS => kernel_rfl)
    (case EInvalidDegree_a => k_is)
    (case EInvalidDegree_l => k_is)
    (case EInvalidDegree_sa => k_is)
    (case EInvalidDegree_ga => k_is)
    (case EInvalidDegree_gg => k_is)
    (case EInvalidDegree_nf => k_is)
    (case EInvalidDegree_ic => k_is)
    (case EInvalidDegree_tc => k_is)
    (case EInvalidDegree_kc => k_is)
    (case EInvalidDegree_ec => k_is)
    (case EInvalidDegree_ty => k_is)
    (case EInvalidDegree_hd => k_is)
    (case EInvalidDegree_is => k_is)
    (case EInvalidDegree_ss => k_is)
    (case EInvalidDegree_li => k_is)
    (case EInvalidDegree_ci => k_is)
    (case EInvalidDegree_un => rfl)
    (case EInvalidNumber_a => k_is)
    (case EInvalidNumber_l => k_is)
    (case EInvalidNumber_sa => k_is)
    (case EInvalidNumber_ga => k_is)
    (case EInvalidNumber_gg => k_is)
    (case EInvalidNumber_nf => k_is)
    (case EInvalidNumber_ic => k_is)
    (case EInvalidNumber_tc => k_is)
    (case EInvalidNumber_kc => k_is)
    (case EInvalidNumber_ec => k_is)
    (case EInvalidNumber_ty => k_is)
    (case EInvalidNumber_hd => k_is)
    (case EInvalidNumber_is => k_is)
    (case EInvalidNumber_ss => k_is)
    (case EInvalidNumber_li => k_is)
    (case EInvalidNumber_ci => k_is)
    (case EInvalidNumber_un => rfl)
    (case EInvalidText_a => k_is)
    (case EInvalidText_l => k_is)
    (case EInvalidText_sa => k_is)
    (case EInvalidText_ga => k_is)
    (case EInvalidText_gg => k_is)
    (case EInvalidText_nf => k_is)
    (case EInvalidText_ic => k_is)
    (case EInvalidText_tc => k_is)
    (case EInvalidText_kc => k_is)
    (case EInvalidText_ec => k_is)
    (case EInvalidText_ty => k_is)
    (case EInvalidText_hd => k_is)
    (case EInvalidText_is => k_is)
    (case EInvalidText_ss => k_is)
    (case EInvalidText_li => k_is)
    (case EInvalidText_ci => k_is)
    (case EInvalidText_un => rfl)
    (case gN_InvalidDegree => k_is)
    (case hN_InvalidDegree => k_is)
    (case tN_InvalidDegree => k_is)
    (case eN_InvalidDegree => k_is)
    (case gN_InvalidKind => k_is)
    (case hN_InvalidKind => k_is)
    (case tN_InvalidKind => k_is)
    (case eN_InvalidKind => k_is)
    (case gN_InvalidLooks => k_is)
    (case hN_InvalidLooks => k_is)
    (case tN_InvalidLooks => k_is)
    (case eN_InvalidLooks => k_is)
    (case gN_InvalidNumber => k_is)
    (case hN_InvalidNumber => k_is)
    (case tN_InvalidNumber => k_is)
    (case eN_InvalidNumber => k_is)
    (case gN_InvalidRoots => k_is)
    (case hN_InvalidRoots => k_is)
    (case tN_InvalidRoots => k_is)
    (case eN_InvalidRoots => k_is)
    (case gN_InvalidText => k_is)
    (case hN_InvalidText => k_is)
    (case tN_InvalidText => k_is)
    (case eN_InvalidText => k_is)
    (case gN_NoAnswer => k_is)
    (case hN_NoAnswer => k_is)
    (case tN_NoAnswer => k_is)
    (case eN_NoAnswer => k_is)
    (case gN_NoNumber => k_is)
    (case hN_NoNumber => k_is)
    (case tN_NoNumber => k_is)
    (case eN_NoNumber => k_is)
    (case gN_NotARoot => k_is)
    (case hN_NotARoot => k_is)
    (case tN_NotARoot => k_is)
    (case eN_NotARoot => k_is)
    (case gN_TooGreat => k_is)
    (case hN_TooGreat => k_is)
    (case tN_TooGreat => k_is)
    (case eN_TooGreat => k_is)
    (case gN_WrongName => k_is)
    (case hN_WrongName => k_is)
    (case tN_WrongName => k_is)
    (case eN_WrongName => k_is)
    (case gN_WrongValue => k_is)
    (case hN_WrongValue => k_is)
    (case tN_WrongValue => k_is)
    (case eN_WrongValue => k_is)
    (case EInvalidDegree_ca => k_is)
    (case EInvalidDegree_cg => k_is)
    (case EInvalidDegree_ct => k_is)
    (case EInvalidDegree_cm => k_is)
    (case EInvalidDegree_s_ArithmeticError => k_is)
    (case EInvalidDegree_s_InvalidDegree => k_is)
    (case EInvalidDegree_s_InvalidKind => k_is)
    (case EInvalidDegree_s_InvalidLooks => k_is)
    (case EInvalidDegree_s_InvalidNumber => k_is)
    (case EInvalidDegree_s_InvalidRoots => k_is)
    (case EInvalidDegree_s_InvalidText => k_is)
    (case EInvalidDegree_s_LookupError => k_is)
    (case EInvalidDegree_s_NoAnswer => k_is)
    (case EInvalidDegree_s_NoNumber => k_is)
    (case EInvalidDegree_s_NotARoot => k_is)
    (case EInvalidDegree_s_TooGreat => k_is)
    (case EInvalidDegree_s_ValueError => k_is)
    (case EInvalidDegree_s_WrongName => k_is)
    (case EInvalidDegree_s_WrongValue => k_is)
    (case EInvalidNumber_ca => k_is)
    (case EInvalidNumber_cg => k_is)
    (case EInvalidNumber_ct => k_is)
    (case EInvalidNumber_cm => k_is)
    (case EInvalidNumber_s_ArithmeticError => k_is)
    (case EInvalidNumber_s_InvalidDegree => k_is)
    (case EInvalidNumber_s_InvalidKind => k_is)
    (case EInvalidNumber_s_InvalidLooks => k_is)
    (case EInvalidNumber_s_InvalidNumber => k_is)
    (case EInvalidNumber_s_InvalidRoots => k_is)
    (case EInvalidNumber_s_InvalidText => k_is)
    (case EInvalidNumber_s_LookupError => k_is)
    (case EInvalidNumber_s_NoAnswer => k_is)
    (case EInvalidNumber_s_NoNumber => k_is)
    (case EInvalidNumber_s_NotARoot => k_is)
    (case EInvalidNumber_s_TooGreat => k_is)
    (case EInvalidNumber_s_ValueError => k_is)
    (case EInvalidNumber_s_WrongName => k_is)
    (case EInvalidNumber_s_WrongValue => k_is)
    (case EInvalidText_ca => k_is)
    (case EInvalidText_cg => k_is)
    (case EInvalidText_ct => k_is)
    (case EInvalidText_cm => k_is)
    (case EInvalidText_s_ArithmeticError => k_is)
    (case EInvalidText_s_InvalidDegree => k_is)
    (case EInvalidText_s_InvalidKind => k_is)
    (case EInvalidText_s_InvalidLooks => k_is)
    (case EInvalidText_s_InvalidNumber => k_is)
    (case EInvalidText_s_InvalidRoots => k_is)
    (case EInvalidText_s_InvalidText => k_is)
    (case EInvalidText_s_LookupError => k_is)
    (case EInvalidText_s_NoAnswer => k_is)
    (case EInvalidText_s_NoNumber => k_is)
    (case EInvalidText_s_NotARoot => k_is)
    (case EInvalidText_s_TooGreat => k_is)
    (case EInvalidText_s_ValueError => k_is)
    (case EInvalidText_s_WrongName => k_is)
    (case EInvalidText_s_WrongValue => k_is)
    (case x_gcd => k_is)
    (case x_isqrt => k_is)
    (case mneh => kernel_rfl)
    (case hq => first | exact ⟨rfl, rfl⟩ | rfl | decide +kernel)

